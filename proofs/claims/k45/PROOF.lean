import PyProof.Rows.All
import Wide.All
import OpenK.AllK
import Wide.FinOn
import Lean
import PyProof.EqAt
import PyProof.EqKinds
import PyProof.TupleCall
import PySem.Challenge.RW_duskbook_k45_sums_won
set_option Elab.async false
set_option linter.all false
set_option maxRecDepth 100000
abbrev fsc(l:List (PySem.Str × PySem.NameKind)):PySem.Scope:={ kind:=.function,names:=l,isGenerator:=false,isCoroutine:=false,more:=[] }
theorem qa{α β:Type _}{o:Option α}{f:α→Option β}{b:β}(h:o.bind f=some b):∃a,o=some a∧f a=some b:=Option.bind_eq_some_iff.mp h
theorem qc{α β:Type _}{o:Option α}{f:α→β}{b:β}(h:o.map f=some b):∃a,o=some a∧f a=b:=Option.map_eq_some_iff.mp h
def qd:=@Option.bind_some
def qe:=@PySem.Heap.get?_push_of_some
def qf:=@List.length_map
def qg:=@List.mem_cons_of_mem
def qh:=@List.mem_cons_self
def qi:=@Bool.false_ne_true
def qj:=@Array.length_toList
def qk:=@List.size_toArray
def ql:=@PySem.Heap.lt_size
def qm:=@Nat.ne_of_lt
theorem qo{α:Type _}{l:List α}{i:Nat}{a:α}(h:l[i]?=some a):∃h:i < l.length,l[i]=a:=List.getElem?_eq_some_iff.mp h
def qp:=@PySem.Heap.get?_push_size
def qq:=@List.getElem?_eq_getElem
def qr:=@List.length_cons
theorem qt{α:Type _}{a b:α}{l:List α}(h:a∈b::l):a=b∨a∈l:=List.mem_cons.mp h
def qu:=@Nat.le_refl
theorem qv{α:Type _}{a:α}{s t:List α}(h:a∈s++t):a∈s∨a∈t:=List.mem_append.mp h
def qw:=@Nat.lt_succ_of_lt
theorem qx{α β:Type _}{b:β}{f:α→β}{l:List α}(h:b∈l.map f):∃a,a∈l∧f a=b:=List.mem_map.mp h
def qy:=@List.getElem_mem
def qz:=@List.length_append
def Qa:=@Nat.lt_succ_self
theorem Qb{m n:Nat}(h:m∈List.range n):m < n:=List.mem_range.mp h
theorem Qc{α:Type _}{p:α→Bool}{l:List α}{a:α}(h:a∈l.filter p):a∈l∧p a=true:=List.mem_filter.mp h
def Qd:=@List.map_cons
def Qe:=@Bool.and_eq_true
def Qf:=@List.getElem?_set_ne
def Qg:=@Nat.lt_irrefl
def Qh:=@Nat.lt_of_lt_of_le
def Qi:=@List.mem_singleton
def Qj:=@List.map_map
def Qk:=@List.getElem?_map
def Ql:=@List.mem_filter
def Qm:=@List.mem_map_of_mem
def Qn:=@List.nil_append
def Qo:=@Bool.false_eq_true
def Qp:=@List.getElem?_set_self
def Qq:=@List.mem_append_right
def Qr:=@Array.getElem?_eq_getElem
set_option maxHeartbeats 4000000
namespace L2
open PySem PySem.Spec PyProof.Rows
noncomputable abbrev Key:=Sum Int Str
noncomputable def Yqg:Key→Value→Bool
 | .inl k,v=>Value.isInt k v
 | .inr x,v=>Value.isStrOf x v
noncomputable def keyH(w:World):Key→Int
 | .inl k=>hashInt k
 | .inr x=>hashStr w x
theorem Yay:∀{k:Key} {v:Value},Yqg k v=true→(∃i t,k=Sum.inl i∧v=Value.int i t)∨(∃x t,k=Sum.inr x∧v=Value.str x t)
 | .inl i,v,h=>by
   obtain⟨t,e⟩:=Value.isInt_shape (k:=i) (v:=v) h
   exact .inl ⟨i,t,rfl,e⟩
 | .inr x,v,h=>by
   obtain⟨t,e⟩:=Value.isStrOf_shape (x:=x) (v:=v) h
   exact .inr ⟨x,t,rfl,e⟩
theorem Yum(i:Int)(t:Tok):Yqg (.inl i) (.int i t)=true:=by simp[Yqg,Value.isInt]
theorem Yun(x:Str)(t:Tok):Yqg (.inr x) (.str x t)=true:=by simp[Yqg,Value.isStrOf]
theorem y3n(a b:Int):decide ((Sum.inl a:Key)=Sum.inl b)=(a==b):=by
 by_cases e:a=b
 ·subst e;simp
 ·have h:¬(Sum.inl a:Key)=Sum.inl b:=fun q=>e (Sum.inl.inj q)
  rw[decide_eq_false h]
  exact(beq_eq_false_iff_ne.mpr e).symm
theorem y3o(a b:Str):decide ((Sum.inr a:Key)=Sum.inr b)=decide (a=b):=by
 by_cases e:a=b
 ·subst e;simp
 ·have h:¬(Sum.inr a:Key)=Sum.inr b:=fun q=>e (Sum.inr.inj q)
  rw[decide_eq_false h,decide_eq_false e]
theorem y3p(a:Int)(b:Str):decide ((Sum.inl a:Key)=Sum.inr b)=false:=decide_eq_false (fun q=>nomatch q)
theorem y3q(a:Str)(b:Int):decide ((Sum.inr a:Key)=Sum.inl b)=false:=decide_eq_false (fun q=>nomatch q)
noncomputable def Yaf(prog:Program)(w:World):KeyKind prog w Key where
 is:=Yqg
 hash:=keyH w
 inj:=fun v a b ha hb=>by
  rcases Yay ha with⟨i,t,rfl,rfl⟩ | ⟨x,t,rfl,rfl⟩
  ·rcases Yay hb with⟨j,u,rfl,e⟩ | ⟨y,u,rfl,e⟩
   ·injection e with e1 _;rw[e1]
   ·exact nomatch e
  ·rcases Yay hb with⟨j,u,rfl,e⟩ | ⟨y,u,rfl,e⟩
   ·exact nomatch e
   ·injection e with e1 _;rw[e1]
 byValue:=fun k v h=>by
  rcases Yay h with⟨i,t,rfl,rfl⟩ | ⟨x,t,rfl,rfl⟩<;>rfl
 pyHash:=fun hv h=>by
  rcases Yay hv with⟨i,t,rfl,rfl⟩ | ⟨x,t,rfl,rfl⟩
  ·exact wpAny_pyHash_int h
  ·exact wpAny_pyHash_str h
 eqBool:=fun hu hv h=>by
  rcases Yay hu with⟨i,t,rfl,rfl⟩ | ⟨x,t,rfl,rfl⟩
  ·rcases Yay hv with⟨j,u,rfl,rfl⟩ | ⟨y,u,rfl,rfl⟩
   ·rw[y3n]at h;exact wpAny_eqBool_int h
   ·rw[y3p]at h;exact SeqAt.EqAt.int_str i t y u _ _ _ _ h
  ·rcases Yay hv with⟨j,u,rfl,rfl⟩ | ⟨y,u,rfl,rfl⟩
   ·rw[y3q]at h;exact SeqAt.EqAt.str_int x t j u _ _ _ _ h
   ·rw[y3o]at h;exact wpAny_eqBool_str h
 «strs»:=fun k x t v h=>by
  rcases Yay h with⟨i,u,rfl,e⟩ | ⟨y,u,rfl,e⟩
  ·exact nomatch e
  ·injection e with e1 _
   subst e1
   cases v<;>rfl
theorem Yqh(prog:Program)(w:World)(i:Int)(t:Tok):(Yaf prog w).is (.inl i) (.int i t)=true:=Yum i t
theorem Yqi(prog:Program)(w:World)(x:Str)(t:Tok):(Yaf prog w).is (.inr x) (.str x t)=true:=Yun x t
end L2
namespace L2
open PySem PySem.Spec PyProof.Rows
inductive V where
 | non | bl (b:Bool) | int (i:Int) | str (x:Str) | byt (b:Array UInt8) | flt (b:UInt64) | ref (a:Addr) | ty (n:String)
 deriving DecidableEq
noncomputable def RelV:V→Value→Prop
 | .non,u=>u=Value.none
 | .bl b,u=>u=Value.bool b
 | .int i,u=>∃t,u=Value.int i t
 | .str x,u=>∃t,u=Value.str x t
 | .byt b,u=>∃t,u=Value.bytes b t
 | .flt b,u=>∃t,u=Value.float b t
 | .ref a,u=>u=Value.ref a
 | .ty n,u=>u=Value.type n
noncomputable abbrev Vals:List V→List Value→Prop:=Paired RelV
theorem Vals.length{xs:List V}{us:List Value}(r:Vals xs us):xs.length=us.length:=Paired.length r
theorem Vals.get:∀{xs:List V} {us:List Value} {i:Nat} {x:V},Vals xs us→xs[i]?=some x→∃u,us[i]?=some u∧RelV x u
 | _,_,_,_,.nil,e=>by simp at e
 | _,_,0,_,.cons r _,e=>by simp at e;subst e;exact⟨_,rfl,r⟩
 | _,_,i+1,x,.cons _ t,e=>by
   obtain⟨u,h1,h2⟩:=Vals.get (i:=i) (x:=x) t (by simpa using e)
   exact⟨u,by simpa using h1,h2⟩
theorem Vals.append:∀{xs ys:List V} {us ws:List Value},Vals xs us→Vals ys ws→Vals (xs++ys) (us++ws)
 | _,_,_,_,.nil,s=>s
 | _,_,_,_,.cons r t,s=>.cons r (Vals.append t s)
theorem Vals.take:∀{xs:List V} {us:List Value} (n:Nat),Vals xs us→Vals (xs.take n) (us.take n)
 | _,_,0,_=>.nil
 | _,_,_+1,.nil=>.nil
 | _,_,n+1,.cons r t=>.cons r (Vals.take n t)
theorem Vals.drop:∀{xs:List V} {us:List Value} (n:Nat),Vals xs us→Vals (xs.drop n) (us.drop n)
 | _,_,0,r=>r
 | _,_,_+1,.nil=>.nil
 | _,_,n+1,.cons _ t=>Vals.drop n t
noncomputable def RelO:Option V→Option Value→Prop
 | some v,some u=>RelV v u
 | none,none=>True
 | _,_=>False
noncomputable def KV{κ:Type}:List (κ × V)→List (κ × Value)→Prop:=Paired fun(p:κ × V) (q:κ × Value)=>p.1=q.1∧RelV p.2 q.2
noncomputable def kV:Key→V
 | .inl i=>.int i
 | .inr x=>.str x
inductive HO where
 | lst (xs:List V)
 | tup (xs:List V)
 | dK (kvs:List (Key × V)) | dT (kvs:List (List Key × V))
 | set (S:Int→Bool) (n:Nat)
 | ins (C dx:Addr) (fs:List (Str × V))
 | own (x:Addr)
 | xd (fs:List (Str × V))
 | met (f x:Addr)
 | rng (lo hi:Int)
 | frz (o:Obj) (u:HO)
 | tbl (ps:Array Value)
 | ext (φ:Heap→Prop)
noncomputable abbrev Hp:=Addr→Option HO
noncomputable def upd(H:Hp)(a:Addr)(o:HO):Hp:=fun b=>if b=a then some o else H b
theorem Yv{H:Hp}{a:Addr}{o:HO}:upd H a o a=some o:=by unfold upd;rw[if_pos rfl]
theorem Yz{H:Hp}{a b:Addr}{o:HO}(h:b≠a):upd H a o b=H b:=by unfold upd;rw[if_neg h]
theorem y7d{H:Hp}{a b:Addr}{o u:HO}(h:H a=some o)(h':H b=some u)(d:o≠u):a≠b:=by
 intro e;subst e;rw[h]at h';exact d (Option.some.inj h')
theorem Yy{H:Hp}{a b:Addr}{o:HO}(h:H a=some o)(h':H b=none):a≠b:=by
 intro e;subst e;rw[h]at h';cases h'
section
variable (P:Program) (w:World)
noncomputable def ObjOk(H:Hp)(h:Heap)(a:Addr):HO→Prop
 | .lst xs=>xs.length≤sizeLine∧∃(its:List Value) (n:Nat),Vals xs its∧h.get? a=some { cls:=.type "list",data:=.seq its.toArray n }
 | .tup xs=>xs.length≤sizeLine∧∃its:List Value,Vals xs its∧IsTup h a its.toArray
 | .dK kvs=>kvs.length≤sizeLine∧(a==sysModules)=false∧∃vs,KV kvs vs∧h.DictOf (Yaf P w) a vs
 | .dT kvs=>kvs.length≤sizeLine∧(a==sysModules)=false∧∃xs:List (List Key × Addr × Value),
  Paired (fun(p:List Key × V) (q:List Key × Addr × Value)=>p.1=q.1∧H q.2.1=some (.tup (p.1.map kV))∧RelV p.2 q.2.2) kvs xs∧
  ∃o es ep,h.get? a=some o∧o.ExactDict∧o.data=.dict es ep∧es.toList=xs.map (entryOfKey (tupleKind (Yaf P w)))∧(xs.map (·.1)).Nodup
 | .set S n=>h.SetOf (intKind P w) a S n
 | .ins C dx fs=>H dx=some (.own a)∧fs.length≤1000∧dx≠a∧h.get? a=some (W.instObj C dx)∧
  ∃mA,h.Ns1 dx mA∧(∀f,RelO (fs.lookup f) (mA f))∧PySem.Within mA (fs.map (·.1))
 | .own _=>∃o,h.get? a=some o
 | .xd fs=>∃mA,h.Ns1 a mA∧∀f,RelO (fs.lookup f) (mA f)
 | .rng lo hi=>∃t u v,h.get? a=some { cls:=.type "range",data:=.fields #[.int lo t,.int hi u,.int 1 v] }
 | .frz o u=>h.get? a=some o∧ObjOk H h a u
 | .tbl ps=>h.get? a=some { cls:=.none,data:=.fields ps }
 | .met f x=>h.get? a=some (W.methodObj (.ref f) (.ref x))
 | .ext φ=>φ h∧(∃o,h.get? a=some o)∧∀h1 h2:Heap,φ h1→(∀o,h1.get? a=some o→h2.get? a=some o)→φ h2
def HOk(H:Hp)(h:Heap):Prop:=∀a o,H a=some o→ObjOk P w H h a o
end
section
variable {P:Program} {w:World} {H H':Hp} {h h':Heap} {a:Addr} {o:HO}
theorem ObjOk.lt(x:ObjOk P w H h a o):a < h.objs.size:=by
 cases o with
 | lst xs=>obtain⟨_,_,_,_,e⟩:=x;exact ql e
 | tup xs=>obtain⟨_,_,_,p⟩:=x;exact p.lt
 | dK kvs=>obtain⟨_,_,_,_,o,_,_,e,_⟩:=x;exact ql e
 | dT kvs=>obtain⟨_,_,_,_,o,_,_,e,_⟩:=x;exact ql e
 | set S n=>obtain⟨o,_,_,_,e,_⟩:=x;exact ql e
 | ins C dx fs=>obtain⟨_,_,_,e,_⟩:=x;exact ql e
 | own y=>obtain⟨_,e⟩:=x;exact ql e
 | xd fs=>obtain⟨_,⟨_,_,_,e,_⟩,_⟩:=x;exact ql e
 | rng lo hi=>obtain⟨_,_,_,e⟩:=x;exact ql e
 | frz ob u=>obtain⟨e,_⟩:=x;exact ql e
 | tbl ps=>exact ql (show h.get? a=some _ from x)
 | met f y=>exact ql (show h.get? a=some _ from x)
 | ext φ=>obtain⟨_,⟨_,e⟩,_⟩:=x;exact ql e
theorem Paired.mapP{α β:Type}{F G:α→β→Prop}:∀{l₁:List α} {l₂:List β},Paired F l₁ l₂→(∀a b,F a b→G a b)→Paired G l₁ l₂
 | _,_,.nil,_=>.nil
 | _,_,.cons r t,f=>.cons (f _ _ r) (Paired.mapP t f)
theorem ObjOk.stay(x:ObjOk P w H h a o)(k:∀b u,(b=a∨H b=some (.own a))→h.get? b=some u→h'.get? b=some u)
 (ho:∀b,H b=some (.own a)→H' b=some (.own a)) (ht:∀b xs,H b=some (.tup xs)→H' b=some (.tup xs)):ObjOk P w H' h' a o:=by
 induction o with
 | lst xs=>obtain⟨z,its,n,r,e⟩:=x;exact⟨z,its,n,r,k _ _ (.inl rfl) e⟩
 | tup xs=>obtain⟨z,its,r,ob,e,c⟩:=x;exact⟨z,its,r,ob,k _ _ (.inl rfl) e,c⟩
 | dK kvs=>obtain⟨z,y,vs,r,ob,es,ep,e,c⟩:=x;exact⟨z,y,vs,r,ob,es,ep,k _ _ (.inl rfl) e,c⟩
 | dT kvs=>
   obtain⟨z,y,xs,r,ob,es,ep,e,c⟩:=x
   exact⟨z,y,xs,Paired.mapP r fun p q z=>⟨z.1,ht _ _ z.2.1,z.2.2⟩,ob,es,ep,k _ _ (.inl rfl) e,c⟩
 | set S n=>obtain⟨ob,es,ep,t,e,c⟩:=x;exact⟨ob,es,ep,t,k _ _ (.inl rfl) e,c⟩
 | ins C dx fs=>
   obtain⟨d,z,ne,e,mA,⟨od,es,ep,e2,c⟩,r⟩:=x
   exact⟨ho _ d,z,ne,k _ _ (.inl rfl) e,mA,⟨od,es,ep,k _ _ (.inr d) e2,c⟩,r⟩
 | own y=>obtain⟨ob,e⟩:=x;exact⟨ob,k _ _ (.inl rfl) e⟩
 | xd fs=>obtain⟨mA,⟨od,es,ep,e,c⟩,r⟩:=x;exact⟨mA,⟨od,es,ep,k _ _ (.inl rfl) e,c⟩,r⟩
 | rng lo hi=>obtain⟨t,u,v,e⟩:=x;exact⟨t,u,v,k _ _ (.inl rfl) e⟩
 | frz ob u ih=>obtain⟨e,q⟩:=x;exact⟨k _ _ (.inl rfl) e,ih q⟩
 | tbl ps=>
   have e:h.get? a=some { cls:=.none,data:=.fields ps }:=x
   show h'.get? a=some { cls:=.none,data:=.fields ps }
   exact k a _ (.inl rfl) e
 | met f y=>
   have e:h.get? a=some (W.methodObj (.ref f) (.ref y)):=x
   show h'.get? a=some (W.methodObj (.ref f) (.ref y))
   exact k a _ (.inl rfl) e
 | ext φ=>obtain⟨p,⟨o,e⟩,st⟩:=x;exact⟨st _ _ p fun o q=>k _ _ (.inl rfl) q,⟨o,k _ _ (.inl rfl) e⟩,st⟩
theorem HOk.lt(x:HOk P w H h)(e:H a=some o):a < h.objs.size:=(x a o e).lt
theorem HOk.fresh(x:HOk P w H h)(e:h.objs.size≤a):H a=none:=by
 cases q:H a with
 | none=>rfl
 | some u=>exact absurd (Qh (x.lt q) e) (Qg _)
theorem HOk.kept(x:HOk P w H h)(k:∀b u,h.get? b=some u→h'.get? b=some u):HOk P w H h':=fun a o e=>
 (x a o e).stay (fun b u _ q=>k b u q) (fun _ q=>q) fun _ _ q=>q
theorem HOk.laid(x:HOk P w H h)(k:∀b u,h.get? b=some u→h'.get? b=some u)(hp:h.objs.size≤a)(new:ObjOk P w (upd H a o) h' a o):HOk P w (upd H a o) h':=fun b u e=>by
 have hn:=x.fresh hp
 by_cases hb:b=a
 ·subst hb;rw[Yv]at e;cases e;exact new
 ·rw[Yz hb]at e
  exact(x b u e).stay (fun c v _ q=>k c v q) (fun c q=>by rw[Yz (Yy q hn)];exact q) fun c xs q=>by rw[Yz (Yy q hn)];exact q
end
def Rd(H:Hp)(a:Addr)(u:HO):Prop:=H a=some u∨∃o,H a=some (.frz o u)
theorem Rd.ok{P:Program}{w:World}{H:Hp}{h:Heap}{a:Addr}{u:HO}(r:Rd H a u)(x:HOk P w H h):ObjOk P w H h a u:=by
 rcases r with r | ⟨o,r⟩
 ·exact x a u r
 ·obtain⟨_,q⟩:=x a _ r
  exact q
noncomputable def Mut:Option HO→Prop
 | some (.lst _)=>True
 | some (.dK _)=>True
 | some (.dT _)=>True
 | some (.set _ _)=>True
 | some (.ins _ _ _)=>True
 | some (.ext _)=>True
 | _=>False
section
variable {P:Program} {w:World} {H:Hp} {h h':Heap} {x e:Addr} {o':HO}
theorem HOk.write(ok:HOk P w H h)(mu:Mut (H x))(he:e=x∨H e=some (.own x))(k:∀b u,b≠e→h.get? b=some u→h'.get? b=some u)(heo:∃u,h'.get? e=some u)
 (new:ObjOk P w (upd H x o') h' x o'):HOk P w (upd H x o') h':=fun b u q=>by
 have nown:∀c y,H c=some (.own y)→c≠x:=fun c y r z=>by subst z;rw[r]at mu;exact mu
 have ntup:∀c xs,H c=some (.tup xs)→c≠x:=fun c xs r z=>by subst z;rw[r]at mu;exact mu
 by_cases hb:b=x
 ·subst hb;rw[Yv]at q;cases q;exact new
 ·rw[Yz hb]at q
  by_cases hbe:b=e
  ·have q':H b=some (.own x):=by
    rcases he with z | z
    ·exact absurd (hbe.trans z) hb
    ·rw[hbe];exact z
   rw[q]at q';cases q'
   obtain⟨v,hv⟩:=heo
   exact⟨v,by rw[hbe];exact hv⟩
  ·refine(ok b u q).stay (fun c v hc r=>k c v ?_ r) (fun c r=>by rw[Yz (nown c b r)];exact r) fun c xs r=>by rw[Yz (ntup c xs r)];exact r
   rcases hc with rfl | hc
   ·exact hbe
   ·rintro rfl
    rcases he with z | z
    ·exact nown c b hc z
    ·rw[hc]at z;cases z;exact hb rfl
end
structure Un(fs ex:List Addr)(H H':Hp)(h h':Heap):Prop where
 keep:∀b o,h.get? b=some o→H b=none→b∉fs→b∉ex→h'.get? b=some o
 slot:∀b o,h.get? b=some o→H b=none→b∈fs→b∉ex→∃sl,h'.get? b=some { o with slots:=sl }
 free:∀b o,h.get? b=some o→H b=none→b∉ex→H' b=none
 there:∀b o,h.get? b=some o→b∉ex→∃o',h'.get? b=some o'
 tups:∀b xs,H b=some (.tup xs)→H' b=some (.tup xs)
 frzs:∀b o u,H b=some (.frz o u)→H' b=some (.frz o u)
 tbls:∀b ps,H b=some (.tbl ps)→∃more,H' b=some (.tbl (ps++more))
section
variable {fs fs' ex ex':List Addr} {H H1 H2:Hp} {h h1 h2 h':Heap} {a x e:Addr} {o:HO}
theorem Un.any(u:Un fs ex H H1 h h1){b:Addr}{ob:Obj}(q:h.get? b=some ob)(n:H b=none)(hx:b∉ex):∃sl,h1.get? b=some { ob with slots:=sl }:=by
 by_cases hb:b∈fs
 ·exact u.slot b ob q n hb hx
 ·exact⟨ob.slots,u.keep b ob q n hb hx⟩
theorem Un.kept(k:∀b u,h.get? b=some u→h'.get? b=some u):Un fs ex H H h h':=
 ⟨fun b ob q _ _ _=>k b ob q,fun b ob q _ _ _=>⟨ob.slots,k b ob q⟩,fun _ _ _ n _=>n,fun b ob q _=>⟨ob,k b ob q⟩,fun _ _ q=>q,fun _ _ _ q=>q,fun _ ps q=>⟨#[],by rw[q];simp⟩⟩
theorem Un.refl:Un fs ex H H h h:=Un.kept fun _ _ q=>q
theorem Un.laid(k:∀b u,h.get? b=some u→h'.get? b=some u)(hp:h.objs.size≤a)(hn:H a=none):Un fs ex H (upd H a o) h h' where
 keep:=fun b u q _ _ _=>k b u q
 slot:=fun b u q _ _ _=>⟨u.slots,k b u q⟩
 free:=fun b u q n _=>by rw[Yz (qm (Qh (ql q) hp))];exact n
 there:=fun b u q _=>⟨u,k b u q⟩
 tups:=fun b xs q=>by rw[Yz (Yy q hn)];exact q
 frzs:=fun b u xs q=>by rw[Yz (Yy q hn)];exact q
 tbls:=fun b ps q=>⟨#[],by rw[Yz (Yy q hn),q];simp⟩
theorem Un.write(mu:Mut (H x))(he:e=x∨H e=some (.own x))(k:∀b u,b≠e→h.get? b=some u→h'.get? b=some u)(heo:∃u,h'.get? e=some u):Un fs ex H (upd H x o) h h':=by
 have hx:∀b,H b=none→b≠x:=fun b n z=>by subst z;rw[n]at mu;exact mu
 have hb:∀b,H b=none→b≠e:=fun b n z=>by
  subst z
  rcases he with r | r
  ·exact hx b n r
  ·rw[n]at r;cases r
 have hm:∀b u,H b=some u→¬Mut (some u)→b≠x:=fun b u q nm z=>by subst z;rw[q]at mu;exact nm mu
 refine⟨fun b u q n _ _=>k b u (hb b n) q,fun b u q n _ _=>⟨u.slots,k b u (hb b n) q⟩,fun b u q n _=>by rw[Yz (hx b n)];exact n,fun b u q _=>?_,
  fun b xs q=>by rw[Yz (hm b _ q fun z=>z)];exact q,fun b u xs q=>by rw[Yz (hm b _ q fun z=>z)];exact q,fun b ps q=>⟨#[],by rw[Yz (hm b _ q fun z=>z),q];simp⟩⟩
 by_cases hbe:b=e
 ·subst hbe;exact heo
 ·exact⟨u,k b u hbe q⟩
end
noncomputable def trk(h:Heap)(H:Hp):List Addr:=(List.range h.objs.size).filter fun a=>(H a).isSome
noncomputable def hidT(h:Heap)(H:Hp):Heap:=W.hideAll h (trk h H)
theorem Yuo(h:Heap)(H:Hp):(hidT h H).objs.size=h.objs.size:=W.hideAll_size _ _
theorem Yx1{h:Heap}{H:Hp}{b:Addr}{o:Obj}(e:h.get? b=some o)(n:H b=none):(hidT h H).get? b=some o:=
 W.hideAll_get _ e fun hm=>by
  have q:(H b).isSome=true:=(Qc hm).2
  rw[n]at q;simp at q
theorem y0x{h:Heap}{H:Hp}{b:Addr}{o:Obj}(e:(hidT h H).get? b=some o):h.get? b=some o∧H b=none:=by
 have e':h.get? b=some o:=W.of_hideAll (trk h H) e
 refine⟨e',?_⟩
 cases q:H b with
 | none=>rfl
 | some x=>
   have hm:b∈trk h H:=List.mem_filter.mpr ⟨List.mem_range.mpr (ql e'),by simp[q]⟩
   have z:(hidT h H).get? b=none:=W.hideAll_none (trk h H) hm
   rw[z]at e;cases e
end L2
namespace L2
open PySem PySem.Spec PyProof.Rows
structure Mod(K:W.Frag)(mg:Str→Option Value)(base:Heap):Prop where
 kin:K.In base
 glob:base.Ns mainGlobals mg
 blt:∃mb,base.Ns builtinsNs mb∧∀x:Str,x≠"__name__"→mb x=bootBuiltins x
 nolimit:base.NoLimit
structure Cx where
 prog:Program
 w:World
 K:W.Frag
 mg:Str→Option Value
 base:Heap
 A:Around
 N:List Str
 s₀:Shared
 H₀:Hp
 env:Env
 outer:List Env
 stack:List Env
 ex:List Addr
 fn:Str→Bool
 calm:Bool
 pn:List (Addr × Obj)
 xe:Value→Shared→Prop
noncomputable def frs(l:List Env):List Addr:=l.filterMap (·.frame)
noncomputable abbrev Cx.fs(X:Cx):List Addr:=frs X.outer
def Vis(sc:Scope)(x:Str):Prop:=sc.names.lookup x=some .local∨sc.names.lookup x=some .cell∨sc.names.lookup x=some .free
def Loc(sc:Scope)(x:Str):Prop:=sc.names.lookup x=some .local∨sc.names.lookup x=some .cell
def Look(env:Env)(h:Heap)(m:Str→Option Value)(x:Str)(u:Value):Prop:=
 (env.kindOf x=some .local∧m x=some u)∨((env.kindOf x=some .cell∨env.kindOf x=some .free)∧∃c,env.cells.lookup x=some c∧h.IsCell c (some u))
structure Cx.Ok(X:Cx):Prop where
 mod:Mod X.K X.mg X.base
 kind:X.env.scope.kind=.function
 glob:X.env.globals=mainGlobals
 blt:X.env.builtins=builtinsNs
 above:X.s₀.heap.objs.size≤X.env.locals
 inj:∀x y c,X.env.cells.lookup x=some c→X.env.cells.lookup y=some c→x=y
 has:∀x,(X.env.kindOf x=some .cell∨X.env.kindOf x=some .free)→∃c,X.env.cells.lookup x=some c
 cab:∀x c,X.fn x=true→X.env.cells.lookup x=some c→X.s₀.heap.objs.size≤c
 hd:X.calm=true→X.A.handled=none
 frames:X.A.frames=some X.stack
 stk:X.stack=X.outer∨(X.stack=X.env::X.outer∧X.env.frame=some X.env.locals)
 exf:∀b∈X.ex,b≠X.env.locals∧∀x c,X.env.cells.lookup x=some c→c≠b
 bs:∀b o,X.base.get? b=some o→X.s₀.heap.get? b=some o∧X.H₀ b=none
 bsz:X.base.objs.size≤X.s₀.heap.objs.size
 noex:∀b o,X.base.get? b=some o→b∉X.ex
 exfs:∀b∈X.ex,b∉X.fs
 funs:X.s₀.heap.FunFrames X.base X.outer
 frf:∀b∈X.fs,X.H₀ b=none
structure Inv(X:Cx)(pins:List (Addr × Obj))(σ:List (Option V))(H:Hp)(s:Shared):Prop where
 ok:X.Ok
 os:s.os=X.s₀.os
 bare:AllBare s.gens
 base:Un X.fs X.ex X.H₀ H X.s₀.heap s.heap
 loc:∃m,s.heap.Ns X.env.locals m∧∀(i:Nat) (x:Str) (v:V),X.N[i]?=some x→σ[i]?=some (some v)→Vis X.env.scope x→∃u,RelV v u∧Look X.env s.heap m x u
 cell:∀x c,X.env.cells.lookup x=some c→∃v,s.heap.IsCell c v
 free:H X.env.locals=none
 freeC:∀x c,X.env.cells.lookup x=some c→H c=none
 pin:∀p∈X.pn++pins,s.heap.get? p.1=some p.2∧H p.1=none∧p.1≠X.env.locals∧p.1∉X.fs∧∀v,p.2.data≠.cell v
 hok:HOk X.prog X.w H s.heap
 len:σ.length=X.N.length
section
variable {X:Cx} {pins:List (Addr × Obj)} {σ:List (Option V)} {H H':Hp} {s:Shared} {h':Heap}
theorem Cx.Ok.nofr(ok:X.Ok){b:Addr}{o:Obj}(e:X.base.get? b=some o):b∉X.fs:=fun hb=>by
 have:=(ok.funs.mem hb).1
 rw[e]at this;cases this
theorem Inv.bs(I:Inv X pins σ H s):∀b o,X.base.get? b=some o→s.heap.get? b=some o∧H b=none:=fun b o e=>
 ⟨I.base.keep b o (I.ok.bs b o e).1 (I.ok.bs b o e).2 (I.ok.nofr e) (I.ok.noex b o e),I.base.free b o (I.ok.bs b o e).1 (I.ok.bs b o e).2 (I.ok.noex b o e)⟩
theorem Inv.bk(I:Inv X pins σ H s):∀b o,X.base.get? b=some o→s.heap.get? b=some o:=fun b o e=>(I.bs b o e).1
theorem Inv.mod(I:Inv X pins σ H s):Mod X.K X.mg X.base:=I.ok.mod
theorem Inv.kIn(I:Inv X pins σ H s):X.K.In s.heap:=I.ok.mod.kin.keeps I.bk
theorem Inv.lt(I:Inv X pins σ H s):X.env.locals < s.heap.objs.size:=let ⟨_,hn,_⟩:=I.loc;hn.lt
theorem Inv.sz(I:Inv X pins σ H s):X.s₀.heap.objs.size≤s.heap.objs.size:=Nat.le_trans I.ok.above (Nat.le_of_lt I.lt)
theorem Inv.nofs(I:Inv X pins σ H s){a:Addr}(h:s.heap.objs.size≤a):a∉X.fs:=fun hb=>by
 obtain⟨_,o,ho,_⟩:=I.ok.funs.mem hb
 exact absurd (Qh (ql ho) (Nat.le_trans I.sz h)) (Qg _)
theorem Inv.cne(I:Inv X pins σ H s):∀x c,X.env.cells.lookup x=some c→c≠X.env.locals:=fun x c e z=>by
 obtain⟨v,o,ho,hd⟩:=I.cell x c e
 obtain⟨m,⟨o',es,ep,ho',hd',_⟩,_⟩:=I.loc
 rw[z,ho']at ho;cases ho;rw[hd']at hd;cases hd
theorem Inv.funs(I:Inv X pins σ H s):s.heap.FunFrames X.base X.outer:=by
 have all:∀(l:List Env),(∀b∈frs l,b∈X.fs)→X.s₀.heap.FunFrames X.base l→s.heap.FunFrames X.base l:=by
  intro l
  induction l with
  | nil=>intro _ _;trivial
  | cons env r ih=>
    intro hs hl
    obtain⟨hk,⟨L,o,hf,hn,ho,hd⟩,hr⟩:=hl
    have hL:L∈X.fs:=hs L (by unfold frs;rw[List.filterMap_cons,hf];exact qh)
    obtain⟨sl,e⟩:=I.base.slot L o ho (I.ok.frf L hL) hL fun z=>I.ok.exfs L z hL
    exact⟨hk,⟨L,_,hf,hn,e,hd⟩,ih (fun b hb=>hs b (by unfold frs;rw[List.filterMap_cons,hf];exact qg _ hb)) hr⟩
 exact all X.outer (fun _ hb=>hb) I.ok.funs
theorem Inv.stack(I:Inv X pins σ H s):s.heap.FunFrames X.base X.stack:=by
 rcases I.ok.stk with e | ⟨e,hf⟩
 ·rw[e];exact I.funs
 ·rw[e]
  obtain⟨m,hn,_⟩:=I.loc
  refine .cons (by rw[I.ok.kind];decide) hf hn ?_ I.funs
  exact Heap.get?_none_of_le (Nat.le_trans I.ok.bsz I.ok.above)
theorem Inv.stkSub(I:Inv X pins σ H s):∀b∈frs X.stack,b∈X.env.locals::X.fs:=fun b hb=>by
 rcases I.ok.stk with e | ⟨e,hf⟩
 ·rw[e]at hb;exact qg _ hb
 ·rw[e]at hb
  unfold frs at hb
  rw[List.filterMap_cons,hf]at hb
  exact hb
theorem Inv.stkFree(I:Inv X pins σ H s):∀b∈frs X.stack,H b=none:=fun b hb=>by
 rcases qt (I.stkSub b hb)with e | hb
 ·rw[e];exact I.free
 ·obtain⟨_,o,ho,_⟩:=I.ok.funs.mem hb
  exact I.base.free b o ho (I.ok.frf b hb) fun z=>I.ok.exfs b z hb
theorem Inv.step{g':Array GenState}{t':Nat}{d':Drawn}{ch:List Addr}(I:Inv X pins σ H s)
 (hch:∀b∈ch,(b∈X.ex∨X.s₀.heap.objs.size≤b)∧b≠X.env.locals∧(∀x c,X.env.cells.lookup x=some c→c≠b)∧∀p∈X.pn++pins,p.1≠b)
 (keep:∀b o,b≠X.env.locals→b∉X.fs→b∉ch→s.heap.get? b=some o→H b=none→h'.get? b=some o)
 (slot:∀b o,b≠X.env.locals→b∈X.fs→b∉ch→s.heap.get? b=some o→H b=none→∃sl,h'.get? b=some { o with slots:=sl }) (free:∀b o,b∉ch→s.heap.get? b=some o→H b=none→H' b=none)
 (there:∀b o,b∉ch→s.heap.get? b=some o→∃o',h'.get? b=some o')
 (tups:∀b xs,H b=some (.tup xs)→H' b=some (.tup xs)) (frzs:∀b o u,H b=some (.frz o u)→H' b=some (.frz o u)) (tbls:∀b ps,H b=some (.tbl ps)→∃more,H' b=some (.tbl (ps++more)))
 (ns:∀m,s.heap.Ns X.env.locals m→h'.Ns X.env.locals m) (hok:HOk X.prog X.w H' h') (hg:AllBare g') :
 Inv X pins σ H' { s with heap:=h',gens:=g',drawn:=d',toks:=t' }:=by
 have neL:∀b o,X.s₀.heap.get? b=some o→b≠X.env.locals:=fun b o e=>qm (Qh (ql e) I.ok.above)
 have neC:∀b o,X.s₀.heap.get? b=some o→b∉X.ex→b∉ch:=fun b o e hx hb=>by
  rcases(hch b hb).1 with z | z
  ·exact hx z
  ·exact absurd (Qh (ql e) z) (Qg _)
 have cellK:∀x c,X.env.cells.lookup x=some c→∀v,s.heap.IsCell c v→h'.IsCell c v:=fun x c e v hx_=>by
  obtain⟨o,ho,hd⟩:=hx_
  have nch:c∉ch:=fun z=>(hch c z).2.2.1 x c e rfl
  by_cases hc:c∈X.fs
  ·obtain⟨sl,q⟩:=slot c o (I.cne x c e) hc nch ho (I.freeC x c e)
   exact⟨_,q,hd⟩
  ·exact⟨o,keep c o (I.cne x c e) hc nch ho (I.freeC x c e),hd⟩
 refine⟨I.ok,I.os,hg,⟨fun b o e n hb hx=>?_,fun b o e n hb hx=>?_,fun b o e n hx=>?_,fun b o e hx=>?_,fun b xs e=>tups b xs (I.base.tups b xs e),fun b o xs e=>frzs b o xs (I.base.frzs b o xs e),fun b ps e=>?_⟩,?_,fun x c e=>?_,?_,fun x c e=>?_,fun p hp=>?_,hok,I.len⟩
 ·exact keep b o (neL b o e) hb (neC b o e hx) (I.base.keep b o e n hb hx) (I.base.free b o e n hx)
 ·obtain⟨sl,e1⟩:=I.base.slot b o e n hb hx
  obtain⟨sl',e2⟩:=slot b _ (neL b o e) hb (neC b o e hx) e1 (I.base.free b o e n hx)
  exact⟨sl',e2⟩
 ·obtain⟨o',e1⟩:=I.base.there b o e hx
  exact free b o' (neC b o e hx) e1 (I.base.free b o e n hx)
 ·obtain⟨o',e1⟩:=I.base.there b o e hx
  exact there b o' (neC b o e hx) e1
 ·obtain⟨m1,e1⟩:=I.base.tbls b ps e
  obtain⟨m2,e2⟩:=tbls b _ e1
  exact⟨m1++m2,by rw[e2,Array.append_assoc]⟩
 ·obtain⟨m,hn,hl⟩:=I.loc
  refine⟨m,ns m hn,fun i x v e1 e2 e3=>?_⟩
  obtain⟨u,r,l⟩:=hl i x v e1 e2 e3
  refine⟨u,r,?_⟩
  rcases l with l | ⟨k,c,e,z⟩
  ·exact .inl l
  ·exact .inr ⟨k,c,e,cellK x c e _ z⟩
 ·obtain⟨v,z⟩:=I.cell x c e
  exact⟨v,cellK x c e v z⟩
 ·obtain⟨m,⟨o,_,_,ho,_⟩,_⟩:=I.loc
  exact free _ o (fun z=>(hch _ z).2.1 rfl) ho I.free
 ·obtain⟨v,o,ho,hd⟩:=I.cell x c e
  exact free c o (fun z=>(hch c z).2.2.1 x c e rfl) ho (I.freeC x c e)
 ·obtain⟨e,n,ne,nf,d⟩:=I.pin p hp
  have nch:p.1∉ch:=fun z=>(hch p.1 z).2.2.2 p hp rfl
  exact⟨keep p.1 p.2 ne nf nch e n,free p.1 p.2 nch e n,ne,nf,d⟩
theorem Inv.un{t':Nat}(I:Inv X pins σ H s)(u:Un X.fs [] H H' s.heap h')(hok:HOk X.prog X.w H' h'):Inv X pins σ H' { s with heap:=h',toks:=t' }:=by
 obtain⟨m,⟨o,es,ep,ho,r⟩,_⟩:=id I.loc
 obtain⟨sl,hL⟩:=u.any ho I.free (by simp)
 exact I.step (g':=s.gens) (d':=s.drawn) (ch:=[]) (fun _ z=>nomatch z) (fun b o _ hb _ e n=>u.keep b o e n hb (by simp)) (fun b o _ hb _ e n=>u.slot b o e n hb (by simp)) (fun b o _ e n=>u.free b o e n (by simp)) (fun b o _ e=>u.there b o e (by simp)) u.tups u.frzs u.tbls (fun m' hm=>by
  obtain⟨o',es',ep',ho',r'⟩:=hm
  rw[ho]at ho';cases ho'
  exact⟨_,es',ep',hL,r'⟩) hok I.bare
theorem Inv.call{g':Array GenState}{t':Nat}{d':Drawn}{ch:List Addr}(I:Inv X pins σ H s)(u:Un (frs X.stack) ch H H' s.heap h')(hok:HOk X.prog X.w H' h')(hg:AllBare g')
 (hch:∀b∈ch,(b∈X.ex∨X.s₀.heap.objs.size≤b)∧b≠X.env.locals∧(∀x c,X.env.cells.lookup x=some c→c≠b)∧∀p∈X.pn++pins,p.1≠b) :
 Inv X pins σ H' { s with heap:=h',gens:=g',drawn:=d',toks:=t' }:=by
 obtain⟨m,⟨o,es,ep,ho,r⟩,_⟩:=id I.loc
 obtain⟨sl,hL⟩:=u.any ho I.free fun z=>(hch _ z).2.1 rfl
 exact I.step (ch:=ch) hch (fun b o hL hb hc e n=>u.keep b o e n (fun z=>(qt (I.stkSub b z)).elim hL hb) hc) (fun b o _ _ hc e n=>u.any e n hc) (fun b o hc e n=>u.free b o e n hc) (fun b o hc e=>u.there b o e hc) u.tups u.frzs u.tbls (fun m' hm=>by
  obtain⟨o',es',ep',ho',r'⟩:=hm
  rw[ho]at ho';cases ho'
  exact⟨_,es',ep',hL,r'⟩) hok hg
theorem Inv.turned{t':Nat}{it:Addr}(I:Inv X pins σ H s)(k:∀b o,b≠it→s.heap.get? b=some o→h'.get? b=some o)(hn:H it=none)(hL:it≠X.env.locals)
 (h1:it∈X.ex∨X.s₀.heap.objs.size≤it) (h2:∀x c,X.env.cells.lookup x=some c→c≠it) (h3:∀p∈X.pn++pins,p.1≠it):Inv X pins σ H { s with heap:=h',toks:=t' }:=by
 have nit:∀b u,H b=some u→b≠it:=fun b u e z=>by rw[z,hn]at e;cases e
 refine I.step (g':=s.gens) (d':=s.drawn) (ch:=[it]) (fun b hb=>?_) (fun b o _ _ hc e _=>k b o (fun z=>hc (by simp[z])) e) (fun b o _ _ hc e _=>⟨o.slots,k b o (fun z=>hc (by simp[z])) e⟩) (fun _ _ _ _ n=>n)
  (fun b o hc e=>⟨o,k b o (fun z=>hc (by simp[z])) e⟩) (fun _ _ e=>e) (fun _ _ _ e=>e) (fun b ps e=>⟨#[],by rw[e];simp⟩) (fun m hm=>?_) (fun b u e=>?_) I.bare
 ·have e:b=it:=by simpa using hb
  subst e
  exact⟨h1,hL,h2,h3⟩
 ·obtain⟨o,es,ep,ho,r⟩:=hm
  exact⟨o,es,ep,k _ o (Ne.symm hL) ho,r⟩
 ·refine(I.hok b u e).stay (fun c v hc q=>k c v ?_ q) (fun _ q=>q) fun _ _ q=>q
  rcases hc with z | z
  ·rw[z];exact nit b u e
  ·exact nit c _ z
theorem Inv.tok(I:Inv X pins σ H s)(t:Nat):Inv X pins σ H { s with toks:=t }:=I.un (h':=s.heap) (t':=t) Un.refl I.hok
theorem Inv.kept{t':Nat}(I:Inv X pins σ H s)(k:∀b u,s.heap.get? b=some u→h'.get? b=some u):Inv X pins σ H { s with heap:=h',toks:=t' }:=I.un (Un.kept k) (I.hok.kept k)
theorem Inv.laid{a:Addr}{o:HO}{t':Nat}(I:Inv X pins σ H s)(k:∀b u,s.heap.get? b=some u→h'.get? b=some u)(hp:s.heap.objs.size≤a)(new:ObjOk X.prog X.w (upd H a o) h' a o) :
 Inv X pins σ (upd H a o) { s with heap:=h',toks:=t' }:=I.un (Un.laid k hp (I.hok.fresh hp)) (I.hok.laid k hp new)
theorem Inv.write{x e:Addr}{o:HO}{t':Nat}(I:Inv X pins σ H s)(mu:Mut (H x))(he:e=x∨H e=some (.own x))(k:∀b u,b≠e→s.heap.get? b=some u→h'.get? b=some u)(heo:∃u,h'.get? e=some u)
 (new:ObjOk X.prog X.w (upd H x o) h' x o):Inv X pins σ (upd H x o) { s with heap:=h',toks:=t' }:=I.un (Un.write mu he k heo) (I.hok.write mu he k heo new)
theorem Inv.pins_of{pins':List (Addr × Obj)}(I:Inv X pins σ H s)(h:∀p∈pins',s.heap.get? p.1=some p.2∧H p.1=none∧p.1≠X.env.locals∧p.1∉X.fs∧∀v,p.2.data≠.cell v):Inv X pins' σ H s:=
 ⟨I.ok,I.os,I.bare,I.base,I.loc,I.cell,I.free,I.freeC,fun p hp=>(qv hp).elim (fun z=>I.pin p (List.mem_append_left _ z)) (h p),I.hok,I.len⟩
theorem Yr6{N:List Str}(hN:N.Nodup){i j:Nat}{x:Str}(a:N[i]?=some x)(b:N[j]?=some x):i=j:=by
 obtain⟨h1,e1⟩:=qo a
 obtain⟨h2,e2⟩:=qo b
 exact(List.getElem_inj hN).mp (e1.trans e2.symm)
theorem Yn3{M:Model}{A:Around}{E:Value→Shared→Prop}{i:Nat}{x:Str}{v:V}{u:Value}{Q:Unit→Shared→Prop}(I:Inv X pins σ H s)(hN:X.N.Nodup)(hi:X.N[i]?=some x)(hx:Loc X.env.scope x)(r:RelV v u)
 (h:∀s',Inv X pins (σ.set i (some v)) H s'→(∃a,Heap.SameBut a s.heap s'.heap∧(a=X.env.locals∨X.env.cells.lookup x=some a))→Q () s') (hf:X.fn x=true∨X.env.scope.names.lookup x=some .local:=by first | exact .inl rfl | exact .inr rfl | assumption):wpAny M A (storeName X.env x u) Q E s:=by
 obtain⟨m,hn,hl⟩:=id I.loc
 have hcls:(X.env.scope.kind==.class||(X.env.scope.kind==.module&&X.env.locals != X.env.globals))=false:=by rw[I.ok.kind];rfl
 have hiσ:i < σ.length:=by rw[I.len];exact(qo hi).1
 have cne:=I.cne
 have tracked:∀{a:Addr} {h':Heap},(∃o,s.heap.get? a=some o∧H a=none)→Heap.SameBut a s.heap h'→HOk X.prog X.w H h':=fun {a h'} ha hs b ob e=>by
  obtain⟨_,_,hfree⟩:=ha
  refine(I.hok b ob e).stay (fun c w' hc q=>(hs.2 c ?_).trans q) (fun _ q=>q) fun _ _ q=>q
  rintro rfl
  rcases hc with rfl | hc
  ·rw[hfree]at e;cases e
  ·rw[hfree]at hc;cases hc
 rcases hx with hk | hk
 ·refine wpAny_storeName_local hk hn (fun h' hn' hs=>?_) hcls
  obtain⟨oL,_,_,hoL,_⟩:=id hn
  refine h _ ⟨I.ok,I.os,I.bare,⟨fun b o e n hb hx=>?_,fun b o e n hb hx=>?_,I.base.free,fun b o e hx=>?_,I.base.tups,I.base.frzs,I.base.tbls⟩,⟨_,hn',fun j y v' e1 e2 e3=>?_⟩,fun y c e=>?_,I.free,I.freeC,fun p hp=>?_,tracked ⟨oL,hoL,I.free⟩ hs,by simpa using I.len⟩ ⟨_,hs,.inl rfl⟩
  ·exact(hs.2 b (qm (Qh (ql e) I.ok.above))).trans (I.base.keep b o e n hb hx)
  ·obtain⟨sl,e1⟩:=I.base.slot b o e n hb hx
   exact⟨sl,(hs.2 b (qm (Qh (ql e) I.ok.above))).trans e1⟩
  ·obtain⟨o',e1⟩:=I.base.there b o e hx
   exact⟨o',(hs.2 b (qm (Qh (ql e) I.ok.above))).trans e1⟩
  ·by_cases hj:j=i
   ·subst hj
    rw[hi]at e1;cases e1
    rw[Qp hiσ]at e2
    cases e2
    exact⟨u,r,.inl ⟨hk,by simp⟩⟩
   ·rw[Qf (Ne.symm hj)]at e2
    obtain⟨u',r',q⟩:=hl j y v' e1 e2 e3
    refine⟨u',r',?_⟩
    rcases q with⟨k,e⟩ | ⟨k,c,e,z⟩
    ·refine .inl ⟨k,?_⟩
     have:y≠x:=fun e=>hj (Yr6 hN e1 (e ▸ hi))
     simp[this,e]
    ·exact .inr ⟨k,c,e,z.sameBut hs (cne y c e)⟩
  ·obtain⟨w',z⟩:=I.cell y c e
   exact⟨w',z.sameBut hs (cne y c e)⟩
  ·obtain⟨e,n,ne,nf,d⟩:=I.pin p hp
   exact⟨(hs.2 p.1 ne).trans e,n,ne,nf,d⟩
 ·have hfn:X.fn x=true:=by
   rcases hf with z | z
   ·exact z
   ·rw[z]at hk;cases hk
  obtain⟨c,hc⟩:=I.ok.has x (.inl hk)
  obtain⟨w',z⟩:=I.cell x c hc
  refine wpAny_storeName_cell I.ok.kind hk hc z (fun h' hc' hs=>?_)
  obtain⟨oc,hoc,hocd⟩:=id z
  refine h { s with heap:=h' } ⟨I.ok,I.os,I.bare,⟨fun b o e n hb hx=>?_,fun b o e n hb hx=>?_,I.base.free,fun b o e hx=>?_,I.base.tups,I.base.frzs,I.base.tbls⟩,⟨m,hn.sameBut hs (Ne.symm (cne x c hc)),fun j y v' e1 e2 e3=>?_⟩,fun y c' e=>?_,I.free,I.freeC,fun p hp=>?_,tracked ⟨oc,hoc,I.freeC x c hc⟩ hs,by simpa using I.len⟩ ⟨c,hs,.inr hc⟩
  ·exact(hs.2 b (qm (Qh (ql e) (I.ok.cab x c hfn hc)))).trans (I.base.keep b o e n hb hx)
  ·obtain⟨sl,e1⟩:=I.base.slot b o e n hb hx
   exact⟨sl,(hs.2 b (qm (Qh (ql e) (I.ok.cab x c hfn hc)))).trans e1⟩
  ·obtain⟨o',e1⟩:=I.base.there b o e hx
   exact⟨o',(hs.2 b (qm (Qh (ql e) (I.ok.cab x c hfn hc)))).trans e1⟩
  ·by_cases hj:j=i
   ·subst hj
    rw[hi]at e1;cases e1
    rw[Qp hiσ]at e2
    cases e2
    exact⟨u,r,.inr ⟨.inl hk,c,hc,hc'⟩⟩
   ·rw[Qf (Ne.symm hj)]at e2
    obtain⟨u',r',q⟩:=hl j y v' e1 e2 e3
    refine⟨u',r',?_⟩
    rcases q with q | ⟨k,c',e,z'⟩
    ·exact .inl q
    ·refine .inr ⟨k,c',e,z'.sameBut hs ?_⟩
     rintro rfl
     exact hj (Yr6 hN e1 (I.ok.inj _ _ _ e hc ▸ hi))
  ·by_cases hcc:c'=c
   ·subst hcc;exact⟨_,hc'⟩
   ·obtain⟨w2,z2⟩:=I.cell y c' e
    exact⟨w2,z2.sameBut hs hcc⟩
  ·obtain⟨e,n,ne,nf,d⟩:=I.pin p hp
   refine⟨(hs.2 p.1 ?_).trans e,n,ne,nf,d⟩
   intro q
   rw[q,hoc]at e
   have q':oc=p.2:=Option.some.inj e
   exact d w' (by rw[←q'];exact hocd)
theorem Yr7{M:Model}{A:Around}{E:Value→Shared→Prop}{i:Nat}{x:Str}{v:V}{u:Value}{Q:Unit→Shared→Prop}(I:Inv X pins σ H s)(hN:X.N.Nodup)(hi:X.N[i]?=some x)(hx:Loc X.env.scope x)(r:RelV v u)
 (h:∀s',Inv X pins (σ.set i (some v)) H s'→Q () s') (hf:X.fn x=true∨X.env.scope.names.lookup x=some .local:=by first | exact .inl rfl | exact .inr rfl | assumption):wpAny M A (storeName X.env x u) Q E s:=
 Yn3 I hN hi hx r (fun s' I' _=>h s' I') hf
theorem Inv.call'{s':Shared}{ch:List Addr}(I:Inv X pins σ H s)(ho:s'.os=s.os)(u:Un (frs X.stack) ch H H' s.heap s'.heap)(hok:HOk X.prog X.w H' s'.heap)(hg:AllBare s'.gens)
 (hch:∀b∈ch,(b∈X.ex∨X.s₀.heap.objs.size≤b)∧b≠X.env.locals∧(∀x c,X.env.cells.lookup x=some c→c≠b)∧∀p∈X.pn++pins,p.1≠b):Inv X pins σ H' s':=by
 obtain⟨h',g',d',t',o'⟩:=s'
 have e:o'=s.os:=ho
 subst e
 exact I.call (g':=g') (t':=t') (d':=d') u hok hg hch
end
noncomputable abbrev XK:=Value→Option Addr→Hp→Prop
noncomputable abbrev St:=List (Option V)
noncomputable abbrev VK:=V→Hp→Prop
noncomputable abbrev TE:=St→Hp→VK→Prop
noncomputable abbrev TT:=St→Hp→(Bool→Hp→Prop)→Prop
noncomputable abbrev TA:=St→Hp→(List V→Hp→Prop)→Prop
structure Ends where
 nx:St→Hp→Prop
 rt:VK
 bk:St→Hp→Prop:=fun _ _=>False
 ct:St→Hp→Prop:=fun _ _=>False
noncomputable abbrev TS:=Ends→St→Hp→Prop
def EP(X:Cx)(pins:List (Addr × Obj))(σ:St)(Q:VK)(u:Value)(s':Shared):Prop:=∃v H',Inv X pins σ H' s'∧RelV v u∧Q v H'
def TP(X:Cx)(pins:List (Addr × Obj))(σ:St)(Q:Bool→Hp→Prop)(b:Bool)(s':Shared):Prop:=∃H',Inv X pins σ H' s'∧Q b H'
def AP(X:Cx)(pins:List (Addr × Obj))(σ:St)(Q:List V→Hp→Prop)(us:List Value)(s':Shared):Prop:=∃vs H',Inv X pins σ H' s'∧Vals vs us∧Q vs H'
def SP(X:Cx)(pins:List (Addr × Obj))(D:Ends)(f:Flow)(s':Shared):Prop:=
 match f with
 | .next=>∃σ' H',Inv X pins σ' H' s'∧D.nx σ' H'
 | .brk=>∃σ' H',Inv X pins σ' H' s'∧D.bk σ' H'
 | .cont=>∃σ' H',Inv X pins σ' H' s'∧D.ct σ' H'
 | .ret u=>∃v σ' H',Inv X pins σ' H' s'∧RelV v u∧D.rt v H'
def PE(X:Cx)(e:Expr)(t:TE):Prop:=
 ∀(pins:List (Addr × Obj)) (s:Shared) (σ:St) (H:Hp) (Q:VK),Inv X pins σ H s→t σ H Q→wpAny (model X.prog X.w) X.A (eval e X.env) (EP X pins σ Q) X.xe s
def PT(X:Cx)(e:Expr)(t:TT):Prop:=
 ∀(pins:List (Addr × Obj)) (s:Shared) (σ:St) (H:Hp) (Q:Bool→Hp→Prop),Inv X pins σ H s→t σ H Q→wpAny (model X.prog X.w) X.A (isTrue e X.env (eval e X.env)) (TP X pins σ Q) X.xe s
def PW(X:Cx)(e:Expr)(t:TT):Prop:=
 ∀(whole:Sem Value) (pins:List (Addr × Obj)) (s:Shared) (σ:St) (H:Hp) (Q:Bool→Hp→Prop),Inv X pins σ H s→t σ H Q→wpAny (model X.prog X.w) X.A (isTrue e X.env whole) (TP X pins σ Q) X.xe s
theorem PW.pt{X:Cx}{e:Expr}{t:TT}(h:PW X e t):PT X e t:=h _
def PA(X:Cx)(es:List Expr)(t:TA):Prop:=
 ∀(pos:Pos) (pins:List (Addr × Obj)) (s:Shared) (σ:St) (H:Hp) (Q:List V→Hp→Prop),Inv X pins σ H s→t σ H Q→wpAny (model X.prog X.w) X.A (spliced (backTo pos (starEach es X.env))) (AP X pins σ Q) X.xe s
def PS(X:Cx)(st:Stmt)(t:TS):Prop:=
 ∀(pins:List (Addr × Obj)) (s:Shared) (σ:St) (H:Hp) (D:Ends),Inv X pins σ H s→t D σ H→wpAny (model X.prog X.w) X.A (exec st X.env) (SP X pins D) X.xe s
def PSs(X:Cx)(st:List Stmt)(t:TS):Prop:=
 ∀(pins:List (Addr × Obj)) (s:Shared) (σ:St) (H:Hp) (D:Ends),Inv X pins σ H s→t D σ H→wpAny (model X.prog X.w) X.A (execs st X.env) (SP X pins D) X.xe s
theorem thn{α:Type}{t:Sem α}{Q Q':α→Shared→Prop}{M:Model}{A:Around}{E:Value→Shared→Prop}{s:Shared}(h:wpAny M A t Q E s)(hQ:∀a s,Q a s→Q' a s):wpAny M A t Q' E s:=wpAny_mono h hQ fun _ _ x=>x
end L2
namespace L2
open PySem PySem.Spec PyProof.Rows
section
variable {X:Cx}
noncomputable def tVar(i:Nat):TE:=fun σ H Q=>∃v,σ[i]?=some (some v)∧Q v H
noncomputable def tC(v:V):TE:=fun _ H Q=>Q v H
theorem Yr8{i:Nat}{x:Str}{pos:Pos}(hN:X.N[i]?=some x)(hv:Vis X.env.scope x)(hd:(x==("__debug__":Str))=false:=by decide)(hcd:(x==("__classdict__":Str))=false:=by decide):PE X (.Name x pos) (tVar i):=by
 intro pins s σ H Q I h
 obtain⟨v,e,h⟩:=h
 obtain⟨m,hn,hl⟩:=I.loc
 obtain⟨u,r,l⟩:=hl i x v hN e hv
 have fin:EP X pins σ Q u s:=⟨v,H,I,r,h⟩
 rcases l with⟨hk,hm⟩ | ⟨hk,c,hc,hcell⟩
 ·exact wpAny_Name (wpAny_loadName_local I.ok.kind hk hn hm fin) hd
 ·rcases hk with hk | hk
  ·exact wpAny_Name (wpAny_loadName_cell I.ok.kind hk hc hcell fin) hd
  ·exact wpAny_Name (wpAny_loadName_free I.ok.kind hk hc hcell fin hcd) hd
theorem y3r{i j pos}:PE X (.Constant (.int i) j pos) (tC (.int i)):=fun _ _ _ H _ I h=>wpAny_Constant_int ⟨.int i,H,I.tok _,⟨_,rfl⟩,h⟩
theorem y7e{b j pos}:PE X (.Constant (.bool b) j pos) (tC (.bl b)):=fun _ _ _ H _ I h=>Constant_bool ⟨.bl b,H,I,rfl,h⟩
theorem y3s{j pos}:PE X (.Constant .none j pos) (tC .non):=fun _ _ _ H _ I h=>Constant_none ⟨.non,H,I,rfl,h⟩
theorem y3t{x j pos}:PE X (.Constant (.str x) j pos) (tC (.str x)):=fun _ _ _ H _ I h=>Calls.Constant_str ⟨.str x,H,I.tok _,⟨_,rfl⟩,h⟩
def Gl(X:Cx)(x:Str):Prop:=X.env.kindOf x=some .globalImplicit
theorem y0y{E:Value→Shared→Prop}{pins:List (Addr × Obj)}{s:Shared}{σ:St}{H:Hp}{x:Str}{u:Value}{pos:Pos}{Q:Value→Shared→Prop}(I:Inv X pins σ H s)(hg:Gl X x)(hm:X.mg x=some u)(h:Q u s)
 (hd:(x==("__debug__":Str))=false:=by decide):wpAny (model X.prog X.w) X.A (eval (.Name x pos) X.env) Q E s:=
 Calls.Name_function_global I.ok.kind hg (Calls.loadGlobal_global (by rw[I.ok.glob];exact I.mod.glob.keeps I.bk) hm h) hd
theorem Yij{E:Value→Shared→Prop}{pins:List (Addr × Obj)}{s:Shared}{σ:St}{H:Hp}{x:Str}{u:Value}{pos:Pos}{Q:Value→Shared→Prop}(I:Inv X pins σ H s)(hg:Gl X x)(hm:X.mg x=none)(hv:bootBuiltins x=some u)(h:Q u s)
 (hn:x≠"__name__":=by decide) (hd:(x==("__debug__":Str))=false:=by decide):wpAny (model X.prog X.w) X.A (eval (.Name x pos) X.env) Q E s:=by
 obtain⟨mb,h1,h2⟩:=I.mod.blt
 exact Calls.Name_function_global I.ok.kind hg (Calls.loadGlobal_builtin (by rw[I.ok.glob];exact I.mod.glob.keeps I.bk) hm (by rw[I.ok.blt];exact h1.keeps I.bk) ((h2 x hn).trans hv) h) hd
theorem y0z{x:Str}{v:V}{u:Value}{pos:Pos}(hg:Gl X x)(hm:X.mg x=none)(hv:bootBuiltins x=some u)(r:RelV v u)(hn:x≠"__name__":=by decide)(hd:(x==("__debug__":Str))=false:=by decide):PE X (.Name x pos) (tC v):=
 fun _ _ _ H _ I h=>Yij I hg hm hv ⟨v,H,I,r,h⟩ hn hd
variable {a b:Expr} {ta tb:TE} {pos:Pos}
variable {tA tB':TT} {rest:List Expr}
noncomputable def tAnd(t u:TT):TT:=fun σ H Q=>t σ H fun c H1=>if c=true then u σ H1 Q else Q false H1
noncomputable def tOr(t u:TT):TT:=fun σ H Q=>t σ H fun c H1=>if c=true then Q true H1 else u σ H1 Q
noncomputable def tNot(t:TT):TT:=fun σ H Q=>t σ H fun c H1=>Q (!c) H1
theorem y00(ha:PT X a tA):PW X (.BoolOp .And [a] pos) tA:=by
 intro wh pins s σ H Q I h
 refine isTrue_and (thn (ha pins s σ H Q I h) fun c s1 e=>?_)
 cases c with
 | true=>exact isTrue_and_nil e
 | false=>exact e
theorem y3u(ha:PT X a tA):PW X (.BoolOp .Or [a] pos) tA:=by
 intro wh pins s σ H Q I h
 refine isTrue_or (thn (ha pins s σ H Q I h) fun c s1 e=>?_)
 cases c with
 | false=>exact isTrue_or_nil e
 | true=>exact e
theorem y3v(ha:PT X a tA)(hb:PW X (.BoolOp .And (b::rest) pos) tB'):PW X (.BoolOp .And (a::b::rest) pos) (tAnd tA tB'):=by
 intro wh pins s σ H Q I h
 refine isTrue_and (thn (ha pins s σ H _ I h) fun c s1 hx_=>?_)
 obtain⟨H1,I1,q1⟩:=hx_
 cases c with
 | true=>exact hb wh pins s1 σ H1 Q I1 q1
 | false=>exact⟨H1,I1,q1⟩
theorem y7f(ha:PT X a tA)(hb:PW X (.BoolOp .Or (b::rest) pos) tB'):PW X (.BoolOp .Or (a::b::rest) pos) (tOr tA tB'):=by
 intro wh pins s σ H Q I h
 refine isTrue_or (thn (ha pins s σ H _ I h) fun c s1 hx_=>?_)
 obtain⟨H1,I1,q1⟩:=hx_
 cases c with
 | true=>exact⟨H1,I1,q1⟩
 | false=>exact hb wh pins s1 σ H1 Q I1 q1
theorem y3w(ha:PT X a tA):PT X (.UnaryOp .Not a pos) (tNot tA):=by
 intro pins s σ H Q I h
 exact isTrue_not (ha pins s σ H (fun c H1=>Q (!c) H1) I h)
noncomputable def y7g(ta tb:TE):TE:=fun σ H Q=>ta σ H fun x H1=>∃c,x=.bl c∧if c=true then tb σ H1 Q else Q (.bl false) H1
noncomputable def tOrV(ta tb:TE):TE:=fun σ H Q=>ta σ H fun x H1=>∃c,x=.bl c∧if c=true then Q (.bl true) H1 else tb σ H1 Q
noncomputable def y7h(ta:TE):TE:=fun σ H Q=>ta σ H fun x H1=>∃c,x=.bl c∧Q (.bl (!c)) H1
theorem Yzz{op}{t:TE}(h:PE X a t):PE X (.BoolOp op [a] pos) t:=fun pins s σ H Q I hw=>BoolOp_one (h pins s σ H Q I hw)
theorem y3x(ha:PE X a ta)(hb:PE X (.BoolOp .And (b::rest) pos) tb):PE X (.BoolOp .And (a::b::rest) pos) (y7g ta tb):=by
 intro pins s σ H Q I h
 refine BoolOp_and (thn (ha pins s σ H _ I h) fun v s1 hx_=>?_)
 obtain⟨x,H1,I1,r1,q1⟩:=hx_
 obtain⟨c,rfl,q1⟩:=q1
 cases r1
 refine wpAny_truthy_bool ?_
 cases c with
 | true=>exact hb pins s1 σ H1 Q I1 q1
 | false=>exact⟨.bl false,H1,I1,rfl,q1⟩
theorem y7i(ha:PE X a ta)(hb:PE X (.BoolOp .Or (b::rest) pos) tb):PE X (.BoolOp .Or (a::b::rest) pos) (tOrV ta tb):=by
 intro pins s σ H Q I h
 refine BoolOp_or (thn (ha pins s σ H _ I h) fun v s1 hx_=>?_)
 obtain⟨x,H1,I1,r1,q1⟩:=hx_
 obtain⟨c,rfl,q1⟩:=q1
 cases r1
 refine wpAny_truthy_bool ?_
 cases c with
 | false=>exact hb pins s1 σ H1 Q I1 q1
 | true=>exact⟨.bl true,H1,I1,rfl,q1⟩
theorem y3y(ha:PE X a ta):PE X (.UnaryOp .Not a pos) (y7h ta):=by
 intro pins s σ H Q I h
 refine UnaryOp_ (thn (ha pins s σ H _ I h) fun v s1 hx_=>?_)
 obtain⟨x,H1,I1,r1,q1⟩:=hx_
 obtain⟨c,rfl,q1⟩:=q1
 cases r1
 exact not_of (wpAny_truthy_bool ⟨.bl (!c),H1,I1,rfl,q1⟩)
noncomputable def tIf(t:TT)(ta tb:TE):TE:=fun σ H Q=>t σ H fun c H1=>if c=true then ta σ H1 Q else tb σ H1 Q
theorem Yx2{c:Expr}(hc:PT X c tA)(ha:PE X a ta)(hb:PE X b tb):PE X (.IfExp c a b pos) (tIf tA ta tb):=by
 intro pins s σ H Q I h
 refine wpAny_IfExp (thn (hc pins s σ H _ I h) fun d s1 hx_=>?_)
 obtain⟨H1,I1,q1⟩:=hx_
 cases d with
 | true=>exact ha pins s1 σ H1 Q I1 q1
 | false=>exact hb pins s1 σ H1 Q I1 q1
end
end L2
namespace L2
open PySem PySem.Spec PyProof.Rows
def SqL(K:W.Frag)(H:Hp)(a:Addr)(xs:List V):Prop:=
 Rd H a (.lst xs)∨
  ∃(o:Obj) (its:Array Value) (n:Nat),K.lookup a=some o∧o.cls=.type "list"∧o.dict=none∧o.data=.seq its n∧its.size≤sizeLine∧Vals xs its.toList
def SqT(K:W.Frag)(H:Hp)(a:Addr)(xs:List V):Prop:=
 Rd H a (.tup xs)∨
  ∃(o:Obj) (its:Array Value) (n:Nat),K.lookup a=some o∧o.cls=.type "tuple"∧o.data=.seq its n∧its.size≤sizeLine∧Vals xs its.toList
noncomputable def absV:Value→Option V
 | .none=>some .non
 | .bool b=>some (.bl b)
 | .int i _=>some (.int i)
 | .str x _=>some (.str x)
 | .bytes b _=>some (.byt b)
 | .float b _=>some (.flt b)
 | .ref a=>some (.ref a)
 | .type n=>some (.ty n)
 | _=>none
theorem RelV.abs{x:V}{u:Value}(r:RelV x u):absV u=some x:=by
 cases x with
 | non=>cases r;rfl
 | bl _=>cases r;rfl
 | int _=>obtain⟨t,rfl⟩:=r;rfl
 | str _=>obtain⟨t,rfl⟩:=r;rfl
 | byt _=>obtain⟨t,rfl⟩:=r;rfl
 | flt _=>obtain⟨t,rfl⟩:=r;rfl
 | ref _=>cases r;rfl
 | ty _=>cases r;rfl
theorem RelV.inj{x y:V}{u:Value}(r:RelV x u)(q:RelV y u):x=y:=Option.some.inj (r.abs.symm.trans q.abs)
theorem Vals.inj:∀{xs ys:List V} {us:List Value},Vals xs us→Vals ys us→xs=ys
 :=by
  intro xs ys us h
  induction h generalizing ys with
  | nil=>
    intro h2
    cases h2
    rfl
  | cons r t ih=>
    intro h2
    cases h2 with
    | cons r' t'=>rw[r.inj r',ih t']
section
variable {X:Cx} {pins:List (Addr × Obj)} {σ:St} {H:Hp} {s:Shared} {a:Addr} {xs ys:List V}
theorem SqL.of{K:W.Frag}(h:H a=some (.lst xs)):SqL K H a xs:=.inl (.inl h)
theorem SqT.of{K:W.Frag}(h:H a=some (.tup xs)):SqT K H a xs:=.inl (.inl h)
theorem Inv.list(I:Inv X pins σ H s)(h:SqL X.K H a xs):∃its:List Value,Vals xs its∧PlainL s.heap a its.toArray∧xs.length≤sizeLine:=by
 rcases h with h | ⟨o,its,n,hk,hc,hd,hs,hz,r⟩
 ·obtain⟨z,its,n,r,e⟩:=h.ok I.hok
  exact⟨its,r,⟨_,n,e,rfl,rfl,rfl⟩,z⟩
 ·refine⟨its.toList,r,⟨o,n,I.kIn a o hk,hc,hd,by simpa using hs⟩,?_⟩
  have e:=r.length
  simp only[qj]at e
  lia
theorem Inv.tuple(I:Inv X pins σ H s)(h:SqT X.K H a xs):∃its:List Value,Vals xs its∧IsTup s.heap a its.toArray∧xs.length≤sizeLine:=by
 rcases h with h | ⟨o,its,n,hk,hc,hs,hz,r⟩
 ·obtain⟨z,its,r,p⟩:=h.ok I.hok
  exact⟨its,r,p,z⟩
 ·refine⟨its.toList,r,⟨o,I.kIn a o hk,hc,n,by simpa using hs⟩,?_⟩
  have e:=r.length
  simp only[qj]at e
  lia
theorem Inv.list_inj(I:Inv X pins σ H s)(h:SqL X.K H a xs)(h':SqL X.K H a ys):xs=ys:=by
 obtain⟨its,r,⟨o,n,e,_,_,d⟩,_⟩:=I.list h
 obtain⟨its',r',⟨o',n',e',_,_,d'⟩,_⟩:=I.list h'
 rw[e]at e';cases e'
 rw[d]at d'
 injection d' with d1 _
 have:its=its':=by simpa using congrArg Array.toList d1
 subst this
 exact r.inj r'
theorem Inv.tuple_inj(I:Inv X pins σ H s)(h:SqT X.K H a xs)(h':SqT X.K H a ys):xs=ys:=by
 obtain⟨its,r,⟨o,e,_,n,d⟩,_⟩:=I.tuple h
 obtain⟨its',r',⟨o',e',_,n',d'⟩,_⟩:=I.tuple h'
 rw[e]at e';cases e'
 rw[d]at d'
 injection d' with d1 _
 have:its=its':=by simpa using congrArg Array.toList d1
 subst this
 exact r.inj r'
end
noncomputable abbrev Cx.wish(X:Cx)(E:Value→Shared→Prop):Cx:={ X with xe:=E }
noncomputable abbrev Cx.nox(X:Cx):Cx:=X.wish fun _ _=>False
theorem Cx.Ok.wish{X:Cx}(ok:X.Ok)(E:Value→Shared→Prop):(X.wish E).Ok:=
 ⟨ok.mod,ok.kind,ok.glob,ok.blt,ok.above,ok.inj,ok.has,ok.cab,ok.hd,ok.frames,ok.stk,ok.exf,ok.bs,ok.bsz,ok.noex,ok.exfs,ok.funs,ok.frf⟩
theorem Cx.Ok.unwish{X:Cx}{E:Value→Shared→Prop}(ok:(X.wish E).Ok):X.Ok:=
 ⟨ok.mod,ok.kind,ok.glob,ok.blt,ok.above,ok.inj,ok.has,ok.cab,ok.hd,ok.frames,ok.stk,ok.exf,ok.bs,ok.bsz,ok.noex,ok.exfs,ok.funs,ok.frf⟩
section
variable {X:Cx} {pins:List (Addr × Obj)} {σ:St} {H:Hp} {s:Shared} {E:Value→Shared→Prop}
theorem Inv.wish(I:Inv X pins σ H s)(E:Value→Shared→Prop):Inv (X.wish E) pins σ H s:=⟨I.ok.wish E,I.os,I.bare,I.base,I.loc,I.cell,I.free,I.freeC,I.pin,I.hok,I.len⟩
theorem Inv.unwish(I:Inv (X.wish E) pins σ H s):Inv X pins σ H s:=⟨I.ok.unwish,I.os,I.bare,I.base,I.loc,I.cell,I.free,I.freeC,I.pin,I.hok,I.len⟩
theorem SP.unwish{D:Ends}{f:Flow}{s':Shared}(h:SP (X.wish E) pins D f s'):SP X pins D f s':=by
 cases f with
 | next=>obtain⟨σ',H',I,q⟩:=h;exact⟨σ',H',I.unwish,q⟩
 | brk=>obtain⟨σ',H',I,q⟩:=h;exact⟨σ',H',I.unwish,q⟩
 | cont=>obtain⟨σ',H',I,q⟩:=h;exact⟨σ',H',I.unwish,q⟩
 | ret u=>obtain⟨v,σ',H',I,r,q⟩:=h;exact⟨v,σ',H',I.unwish,r,q⟩
theorem PSs.nox{st:List Stmt}{t:TS}(h:PSs X.nox st t):PSs X st t:=fun pins s σ H D I hw=>
 wpAny_mono (h pins s σ H D (I.wish _) hw) (fun _ _ q=>q.unwish) fun _ _ z=>False.elim z
end
section
variable {X:Cx} {st:Stmt} {rest:List Stmt} {t u:TS} {e:Expr} {te:TE} {pos:Pos}
noncomputable def y7j:TS:=fun D σ H=>D.nx σ H
noncomputable def tSeq(t u:TS):TS:=fun D σ H=>t { D with nx:=u D } σ H
theorem y01:PSs X [] y7j:=fun _ _ σ H _ I h=>wpAny_execs_nil ⟨σ,H,I,h⟩
theorem Yx3(h1:PS X st t)(h2:PSs X rest u):PSs X (st::rest) (tSeq t u):=by
 intro pins s σ H D I h
 refine wpAny_execs_cons (thn (h1 pins s σ H { D with nx:=u D } I h) fun f s1 q=>?_)
 cases f with
 | next=>
   obtain⟨σ',H',I',q⟩:=q
   exact h2 pins s1 σ' H' D I' q
 | ret v=>exact q
 | brk=>exact q
 | cont=>exact q
theorem y02(h1:PS X st t):PSs X [st] t:=by
 intro pins s σ H D I h
 refine wpAny_execs_cons (thn (h1 pins s σ H D I h) fun f s1 q=>?_)
 cases f with
 | next=>exact wpAny_execs_nil q
 | ret v=>exact q
 | brk=>exact q
 | cont=>exact q
theorem Inv.quiet{pins:List (Addr × Obj)}{σ:St}{H:Hp}{s:Shared}(I:Inv X pins σ H s):interactive X.env=false:=by simp[interactive,I.ok.kind]
noncomputable def y7k(te:TE):TS:=fun D σ H=>te σ H fun _ H1=>D.nx σ H1
theorem y03(he:PE X e te)(hs:swapsWith e none pos.line X.env=pure false:=by rfl):PS X (.Expr e pos) (y7k te):=by
 intro pins s σ H D I h
 refine wpAny_Expr_any (thn (he pins s σ H _ I h) fun v s1 hx_=>?_) I.quiet hs
 obtain⟨x,H1,I1,r1,q1⟩:=hx_
 exact⟨σ,H1,I1,q1⟩
noncomputable def tRet(te:TE):TS:=fun D σ H=>te σ H D.rt
theorem y3z(he:PE X e te):PS X (.Return (some e) pos) (tRet te):=by
 intro pins s σ H D I h
 refine wpAny_Return_some (thn (he pins s σ H _ I h) fun v s1 hx_=>?_)
 obtain⟨x,H1,I1,r1,q1⟩:=hx_
 exact⟨x,σ,H1,I1,r1,q1⟩
noncomputable def tIfS(c:TT)(t u:TS):TS:=fun D σ H=>c σ H fun b H1=>if b=true then t D σ H1 else u D σ H1
theorem y7l{c:Expr}{a b:List Stmt}{tc:TT}(hc:PT X c tc)(ha:PSs X a t)(hb:PSs X b u):PS X (.If c a b pos) (tIfS tc t u):=by
 intro pins s σ H D I h
 refine wpAny_If (thn (hc pins s σ H _ I h) fun d s1 hx_=>?_)
 obtain⟨H1,I1,q1⟩:=hx_
 cases d with
 | true=>exact ha pins s1 σ H1 D I1 q1
 | false=>exact hb pins s1 σ H1 D I1 q1
end
noncomputable abbrev TG:=V→St→Hp→(St→Hp→Prop)→Prop
noncomputable abbrev TGs:=List V→St→Hp→(St→Hp→Prop)→Prop
def PG(X:Cx)(target:Expr)(t:TG):Prop:=
 ∀(pins:List (Addr × Obj)) (s:Shared) (σ:St) (H:Hp) (v:V) (u:Value) (Q:St→Hp→Prop),Inv X pins σ H s→RelV v u→t v σ H Q→
  wpAny (model X.prog X.w) X.A (assign target X.env u) (fun _ s'=>∃σ' H',Inv X pins σ' H' s'∧Q σ' H') X.xe s
def PGs(X:Cx)(ts:List Expr)(t:TGs):Prop:=
 ∀(pins:List (Addr × Obj)) (s:Shared) (σ:St) (H:Hp) (vs:List V) (us:List Value) (Q:St→Hp→Prop),Inv X pins σ H s→Vals vs us→t vs σ H Q→
  wpAny (model X.prog X.w) X.A (assignInOrder ((assignEach ts X.env).map (·.2)) us) (fun _ s'=>∃σ' H',Inv X pins σ' H' s'∧Q σ' H') X.xe s
noncomputable abbrev TSet:=V→V→V→Hp→(Hp→Prop)→Prop
def PSet(X:Cx)(t:TSet):Prop:=
 ∀(pins:List (Addr × Obj)) (s:Shared) (σ:St) (H:Hp) (o i v:V) (ov iv u:Value) (Q:Hp→Prop),Inv X pins σ H s→RelV o ov→RelV i iv→RelV v u→t o i v H Q→
  wpAny (model X.prog X.w) X.A (setItem ov iv u) (fun _ s'=>∃H',Inv X pins σ H' s'∧Q H') X.xe s
section
variable {X:Cx} {pos:Pos}
noncomputable def Yta(i:Nat):TG:=fun v σ H Q=>Q (σ.set i (some v)) H
theorem Yhi{i:Nat}{x:Str}(hN:X.N.Nodup)(hi:X.N[i]?=some x)(hx:Loc X.env.scope x)(hf:X.fn x=true∨X.env.scope.names.lookup x=some .local:=by first | exact .inl rfl | exact .inr rfl | assumption):PG X (.Name x pos) (Yta i):=by
 intro pins s σ H v u Q I r h
 exact wpAny_assign_Name (Yr7 I hN hi hx r (fun s' I'=>⟨_,H,I',h⟩) hf)
noncomputable def gNil:TGs:=fun vs σ H Q=>vs=[]∧Q σ H
noncomputable def y7m(t:TG)(u:TGs):TGs:=fun vs σ H Q=>∃v r,vs=v::r∧t v σ H fun σ' H'=>u r σ' H' Q
theorem Yup:PGs X [] gNil:=by
 intro pins s σ H vs us Q I r h
 obtain⟨e,h⟩:=h
 subst e
 cases r
 exact assignInOrder_nil ⟨σ,H,I,h⟩
theorem Ygu{e:Expr}{es:List Expr}{t:TG}{u:TGs}(h1:PG X e t)(h2:PGs X es u)
 (hs:(assignEach (e::es) X.env).map (·.2)=assign e X.env::(assignEach es X.env).map (·.2):=by rfl):PGs X (e::es) (y7m t u):=by
 intro pins s σ H vs us Q I r h
 obtain⟨v,vr,e1,h⟩:=h
 subst e1
 cases r with
 | cons r rr=>
   rw[hs]
   refine assignInOrder_cons (thn (h1 pins s σ H _ _ _ I r h) fun _ s1 hx_=>?_)
   obtain⟨σ1,H1,I1,q1⟩:=hx_
   exact h2 pins s1 σ1 H1 _ _ Q I1 rr q1
noncomputable def gTup(K:W.Frag)(n:Nat)(t:TGs):TG:=fun v σ H Q=>∃a xs,v=.ref a∧SqT K H a xs∧xs.length=n∧t xs σ H Q
theorem y30{es:List Expr}{k:Nat}{t:TGs}{n:Nat}(hc:X.calm=true)(h:PGs X es t)
 (hn:(assignEach es X.env).length=n:=by rfl) (hst:(assignEach es X.env).findIdx? (·.1)=none:=by rfl):PG X (.Tuple es k pos) (gTup X.K n t):=by
 intro pins s σ H v u Q I r hw
 obtain⟨a,xs,e1,hq,hl,hw⟩:=hw
 subst e1
 cases r
 obtain⟨its,rv,ht,hz⟩:=I.tuple hq
 refine assign_Tuple_tuple (I.ok.hd hc) ht (by simp[hn,←hl,rv.length]) hst fun h' hx=>?_
 have I1:Inv X pins σ H { s with heap:=h' }:=I.kept (t':=s.toks) fun b o e=>hx b o (qm (ql e)) e
 exact h pins _ σ H xs _ Q I1 (by simpa using rv) hw
noncomputable def gSub(to ti:TE)(t:TSet):TG:=fun v σ H Q=>to σ H fun o H1=>ti σ H1 fun i H2=>t o i v H2 fun H3=>Q σ H3
theorem y31{o i:Expr}{to ti:TE}{t:TSet}(ho:PE X o to)(hi:PE X i ti)(hs:PSet X t)
 (ha:∀v,assign (.Subscript o i pos) X.env v=(do
  let ov ←holding [v] (eval o X.env)
  let iv ←holding [v,ov] (eval i X.env)
  standAt pos
  holding [v,ov,iv] (setItem ov iv v)
  release [v,ov,iv] []):=by intro _;rfl):PG X (.Subscript o i pos) (gSub to ti t):=by
 intro pins s σ H v u Q I r h
 rw[ha]
 refine wpAny_bind (wpAny_holding (thn (ho pins s σ H _ I h) fun ov s1 hx_=>?_))
 obtain⟨x,H1,I1,r1,q1⟩:=hx_
 refine wpAny_bind (wpAny_holding (thn (hi pins s1 σ H1 _ I1 q1) fun iv s2 hx_=>?_))
 obtain⟨y,H2,I2,r2,q2⟩:=hx_
 refine wpAny_bind (wpAny_standAt (wpAny_bind (wpAny_holding (thn (hs pins s2 σ H2 x y v ov iv u _ I2 r1 r2 r q2) fun _ s3 hx_=>?_))))
 obtain⟨H3,I3,q3⟩:=hx_
 exact wpAny_release ⟨σ,H3,I3,q3⟩
noncomputable def tAsg(te:TE)(g:TG):TS:=fun D σ H=>te σ H fun x H1=>g x σ H1 D.nx
theorem Yz0{tg e:Expr}{te:TE}{g:TG}(he:PE X e te)(hg:PG X tg g)(hs:swapsWithSole [tg] e pos.line X.env=pure false:=by rfl)(hw:swappedStores [tg] e X.env=pure none:=by rfl)
 (h1:(assignEach [tg] X.env).map (·.2)=[assign tg X.env]:=by rfl):PS X (.Assign [tg] e pos) (tAsg te g):=by
 intro pins s σ H D I h
 refine wpAny_Assign_stores (thn (he pins s σ H _ I h) fun v s1 hx_=>?_) hs hw
 obtain⟨x,H1,I1,r1,q1⟩:=hx_
 rw[h1]
 exact thn (hg pins s1 σ H1 x v _ I1 r1 q1) fun _ s2 q=>q
theorem Yr9{i:Nat}{x:Str}{e:Expr}{te:TE}{pos':Pos}(hN:X.N.Nodup)(hi:X.N[i]?=some x)(hx:Loc X.env.scope x)(he:PE X e te)(hs:swapsWith e (some (.Name x pos')) pos.line X.env=pure false:=by rfl)(hf:X.fn x=true∨X.env.scope.names.lookup x=some .local:=by first | exact .inl rfl | exact .inr rfl | assumption) :
 PS X (.Assign [.Name x pos'] e pos) (tAsg te (Yta i)):=by
 intro pins s σ H D I h
 refine wpAny_Assign_Name (thn (he pins s σ H _ I h) fun v s1 hx_=>?_) hs
 obtain⟨y,H1,I1,r1,q1⟩:=hx_
 exact Yr7 I1 hN hi hx r1 (fun s2 I2=>⟨_,H1,I2,q1⟩) hf
end
section
variable {X:Cx} {pos:Pos}
noncomputable def y32(c:TT)(tb:TS):TS:=fun D σ H=>∃W:Nat→St→Hp→Prop,(∃m,W m σ H)∧∀m σ H,W m σ H→
 c σ H fun b H1=>if b=true then ∃N:St→Hp→Prop,(∀σ' H',N σ' H'→∃m',m' < m∧W m' σ' H')∧tb { D with nx:=N,ct:=N,bk:=D.nx } σ H1 else D.nx σ H1
theorem Yx4{c:Expr}{body:List Stmt}{tc:TT}{tb:TS}(hp:PassesOwn (model X.prog X.w) X.A X.env X.xe)(hc:PT X c tc)(hb:PSs X body tb):PS X (.While c body [] pos) (y32 tc tb):=by
 intro pins s σ H D I h
 obtain⟨W,⟨m0,w0⟩,turn⟩:=h
 refine wpAny_While (codeAny_whileLoop (fun n s'=>∃σ' H',Inv X pins σ' H' s'∧W n σ' H') ?_ m0 ⟨σ,H,I,w0⟩)
 rintro n s1 ⟨σ1,H1,I1,w1⟩
 refine wpAny_passesOwn hp (thn (hc pins s1 σ1 H1 _ I1 (turn n σ1 H1 w1)) fun b s2 hx_=>?_)
 obtain⟨H2,I2,q2⟩:=hx_
 cases b with
 | true=>
   obtain⟨N,hN,q2⟩:=q2
   rw[if_pos rfl]
   refine wpAny_passesOwn hp (thn (hb pins s2 σ1 H2 _ I2 q2) fun f s3 q3=>?_)
   cases f with
   | next=>
     obtain⟨σ3,H3,I3,n3⟩:=q3
     obtain⟨m',hm,w3⟩:=hN σ3 H3 n3
     exact⟨m',hm,σ3,H3,I3,w3⟩
   | cont=>
     obtain⟨σ3,H3,I3,n3⟩:=q3
     obtain⟨m',hm,w3⟩:=hN σ3 H3 n3
     exact⟨m',hm,σ3,H3,I3,w3⟩
   | brk=>exact q3
   | ret v=>exact q3
 | false=>
   rw[if_neg qi]
   exact wpAny_execs_nil ⟨σ1,H2,I2,q2⟩
end
structure It where
 go:Nat→Hp→Prop
 yld:Nat→Hp→V→Hp→Prop
 stop:Nat→Hp→Prop
def FpOk(X:Cx)(pins:List (Addr × Obj))(H:Hp)(b:Addr):Prop:=
 H b=none∧b≠X.env.locals∧b∉X.fs∧(b∈X.ex∨X.s₀.heap.objs.size≤b)∧(∀x c,X.env.cells.lookup x=some c→c≠b)∧∀p∈X.pn++pins,p.1≠b
theorem Inv.fpOk{X:Cx}{pins:List (Addr × Obj)}{σ:St}{H H':Hp}{s:Shared}{b:Addr}(I:Inv X pins σ H s)(hb:s.heap.objs.size≤b)(hn:H' b=none):FpOk X pins H' b:=by
 refine⟨hn,Nat.ne_of_gt (Qh I.lt hb),I.nofs hb,.inr (Nat.le_trans I.sz hb),fun x c e z=>?_,fun p hp z=>?_⟩
 ·obtain⟨v,q⟩:=I.cell x c e
  exact absurd (Qh q.lt (by rw[z];exact hb)) (Qg _)
 ·exact absurd (Qh (ql (I.pin p hp).1) (by rw[z];exact hb)) (Qg _)
structure Turn(P:Program)(w:World)(K:W.Frag)(tg:Expr)(J:It)(fp:List Addr)(it:Addr)(tn:Nat→Heap→Prop):Prop where
 mem:it∈fp
 obj:∀i h,tn i h→∀b∈fp,∃o,h.get? b=some o∧∀v,o.data≠.cell v
 keep:∀i h h',tn i h→(∀b∈fp,∀o,h.get? b=some o→h'.get? b=some o)→tn i h'
 item:∀(X:Cx),X.prog=P→X.w=w→X.K=K→X.calm=true→∀(i:Nat) (pins:List (Addr × Obj)) (s:Shared) (σ:St) (H:Hp) (E:Value→Shared→Prop),Inv X pins σ H s→(∀b∈fp,FpOk X pins H b)→tn i s.heap→J.go i H→
  wpAny (model P w) X.A (pyNext (.ref it)) (fun r s1=>∃u,r=some u∧
   wpAny (model P w) X.A (letOwnedTupleGo tg (.ref it) u) (fun _ s2=>∃x H',Inv X pins σ H' s2∧RelV x u∧J.yld i H x H'∧tn (i+1) s2.heap∧∀b∈fp,H' b=none) E s1) E s
 done:∀(X:Cx),X.prog=P→X.w=w→X.K=K→X.calm=true→∀(i:Nat) (pins:List (Addr × Obj)) (s:Shared) (σ:St) (H:Hp) (E:Value→Shared→Prop),Inv X pins σ H s→(∀b∈fp,FpOk X pins H b)→tn i s.heap→J.stop i H→
  wpAny (model P w) X.A (pyNext (.ref it)) (fun r s1=>r=none∧Inv X pins σ H s1) E s
 self:∀(A:Around) (i:Nat) (s:Shared) (Q:Value→Shared→Prop) (E:Value→Shared→Prop),tn i s.heap→Q (.ref it) s→wpAny (model P w) A (pyIter (.ref it)) Q E s
noncomputable abbrev TI:=St→Hp→(It→Hp→Prop)→Prop
def PIE(X:Cx)(pins:List (Addr × Obj))(σ:St)(tg:Expr)(R:It→Hp→Prop)(itv:Value)(s2:Shared):Prop:=
 ∃(it:Addr) (fp:List Addr) (tn:Nat→Heap→Prop) (J:It) (H':Hp),itv=.ref it∧Inv X pins σ H' s2∧Turn X.prog X.w X.K tg J fp it tn∧tn 0 s2.heap∧(∀b∈fp,FpOk X pins H' b)∧R J H'
def PI(X:Cx)(tg iter:Expr)(wi:TI):Prop:=
 ∀(pins:List (Addr × Obj)) (s:Shared) (σ:St) (H:Hp) (R:It→Hp→Prop),Inv X pins σ H s→wi σ H R→
  wpAny (model X.prog X.w) X.A (eval iter X.env) (fun v s1=>wpAny (model X.prog X.w) X.A (pyIter v) (PIE X pins σ tg R) X.xe s1) X.xe s
theorem y04{M:Model}{A:Around}{E:Value→Shared→Prop}{s:Shared}{tg:Expr}{it:Addr}{u:Value}{o:Obj}{n:String}{vs:Array Value}{Q:Unit→Shared→Prop}(ho:s.heap.get? it=some o)(hc:o.cls=.type n)(hd:o.data=.fields vs)
 (hn:["enumerate","zip","dict_itemiterator","dict_reverseitemiterator","odict_iterator","itertools.zip_longest","itertools.pairwise"].contains n=false) (hQ:Q () s):wpAny M A (letOwnedTupleGo tg (.ref it) u) Q E s:=by
 unfold letOwnedTupleGo
 cases tg<;>first
  | exact wpAny_pure hQ
  | (cases u<;>first
   | exact wpAny_pure hQ
   | (refine wpAny_bind (wpAny_load ho ?_)
      rw[hc,hd]
      show wpAny M A (if (["enumerate","zip","dict_itemiterator","dict_reverseitemiterator","odict_iterator","itertools.zip_longest","itertools.pairwise"].contains n&&vs[0]?==some (rawInt _))=true then _ else _) Q E s
      rw[if_neg (by intro h;rw[hn,Bool.false_and]at h;cases h)]
      exact wpAny_pure hQ))
noncomputable def Itl(K:W.Frag)(a:Addr):It:=
 ⟨fun i H=>∃xs x,SqL K H a xs∧xs[i]?=some x,fun i H x H'=>H'=H∧∀xs,SqL K H a xs→xs[i]?=some x,fun i H=>∃xs,SqL K H a xs∧xs.length≤i⟩
noncomputable def Itt(K:W.Frag)(a:Addr):It:=
 ⟨fun i H=>∃xs x,SqT K H a xs∧xs[i]?=some x,fun i H x H'=>H'=H∧∀xs,SqT K H a xs→xs[i]?=some x,fun i H=>∃xs,SqT K H a xs∧xs.length≤i⟩
noncomputable def Itr(lo:Int)(n:Nat):It:=⟨fun i _=>i < n,fun i H x H'=>H'=H∧x=.int (lo+i),fun i _=>n≤i⟩
theorem Yuq{P:Program}{w:World}{K:W.Frag}{tg:Expr}(a it:Addr):Turn P w K tg (Itl K a) [it] it (fun i h=>h.IsListIter it a i) where
 mem:=by simp
 obj:=fun i h st b hb=>by
  have e:b=it:=by simpa using hb
  subst e
  obtain⟨o,e,c,d⟩:=st
  exact⟨o,e,fun v z=>by rw[d]at z;cases z⟩
 keep:=fun i h h' st k=>st.at fun o e=>k it (by simp) o e
 item:=by
  intro X hP hw hK hc i pins s σ H E I hf st hg
  subst hP hw hK
  obtain⟨xs,x,hq,hx⟩:=hg
  obtain⟨its,rv,p,hz⟩:=I.list hq
  obtain⟨u,hu,ru⟩:=rv.get hx
  obtain⟨f0,f1,f2,f3,f4,f5⟩:=hf it (by simp)
  refine wpAny_pyNext_list_item st p.isList (x:=u) (by simpa using hu) fun h' st' sb=>?_
  have I1:Inv X pins σ H { s with heap:=h' }:=I.turned (t':=s.toks) (fun b o hb e=>(sb.2 b hb).trans e) f0 f1 f3 f4 f5
  obtain⟨o,e,c,d⟩:=id st'
  exact⟨u,rfl,y04 (s:={ s with heap:=h' }) e c d (by decide) ⟨x,H,I1,ru,⟨rfl,fun ys hy=>by rw[I.list_inj hy hq];exact hx⟩,st',fun b hb=>(hf b hb).1⟩⟩
 done:=by
  intro X hP hw hK hc i pins s σ H E I hf st hg
  subst hP hw hK
  obtain⟨xs,hq,hx⟩:=hg
  obtain⟨its,rv,p,hz⟩:=I.list hq
  obtain⟨f0,f1,f2,f3,f4,f5⟩:=hf it (by simp)
  have hl:=rv.length
  exact wpAny_pyNext_list_end (I.ok.hd hc) st p.isList (by simp;lia) fun h' eb=>⟨rfl,I.turned (t':=s.toks) (fun b o hb e=>eb b o hb e) f0 f1 f3 f4 f5⟩
 self:=fun _ _ _ _ _ st h=>wpAny_pyIter_listiter st h
theorem Ytb{P:Program}{w:World}{K:W.Frag}{tg:Expr}(a it:Addr):Turn P w K tg (Itt K a) [it] it (fun i h=>h.IsTupleIter it a i) where
 mem:=by simp
 obj:=fun i h st b hb=>by
  have e:b=it:=by simpa using hb
  subst e
  obtain⟨o,e,c,d⟩:=st
  exact⟨o,e,fun v z=>by rw[d]at z;cases z⟩
 keep:=fun i h h' st k=>st.at fun o e=>k it (by simp) o e
 item:=by
  intro X hP hw hK hc i pins s σ H E I hf st hg
  subst hP hw hK
  obtain⟨xs,x,hq,hx⟩:=hg
  obtain⟨its,rv,p,hz⟩:=I.tuple hq
  obtain⟨u,hu,ru⟩:=rv.get hx
  obtain⟨f0,f1,f2,f3,f4,f5⟩:=hf it (by simp)
  refine wpAny_pyNext_tuple_item st (show s.heap.IsTuple a its.toArray from p) (x:=u) (by simpa using hu) fun h' st' sb=>?_
  have I1:Inv X pins σ H { s with heap:=h' }:=I.turned (t':=s.toks) (fun b o hb e=>(sb.2 b hb).trans e) f0 f1 f3 f4 f5
  obtain⟨o,e,c,d⟩:=id st'
  exact⟨u,rfl,y04 (s:={ s with heap:=h' }) e c d (by decide) ⟨x,H,I1,ru,⟨rfl,fun ys hy=>by rw[I.tuple_inj hy hq];exact hx⟩,st',fun b hb=>(hf b hb).1⟩⟩
 done:=by
  intro X hP hw hK hc i pins s σ H E I hf st hg
  subst hP hw hK
  obtain⟨xs,hq,hx⟩:=hg
  obtain⟨its,rv,p,hz⟩:=I.tuple hq
  obtain⟨f0,f1,f2,f3,f4,f5⟩:=hf it (by simp)
  have hl:=rv.length
  exact wpAny_pyNext_tuple_end (I.ok.hd hc) st (show s.heap.IsTuple a its.toArray from p) (by simp;lia) fun h' eb=>⟨rfl,I.turned (t':=s.toks) (fun b o hb e=>eb b o hb e) f0 f1 f3 f4 f5⟩
 self:=fun _ _ _ _ _ st h=>wpAny_pyIter_tupleiter st h
theorem Ytc{P:Program}{w:World}{K:W.Frag}{tg:Expr}(it:Addr)(lo:Int)(n:Nat):Turn P w K tg (Itr lo n) [it] it (fun i h=>IsRangeIter h it (lo+(i:Nat) * 1) ((n:Int) - (i:Nat)) 1) where
 mem:=by simp
 obj:=fun i h st b hb=>by
  have e:b=it:=by simpa using hb
  subst e
  exact⟨_,st,fun v z=>by
   have z':Data.fields _=Data.cell v:=z
   cases z'⟩
 keep:=fun i h h' st k=>k it (by simp) _ st
 item:=by
  intro X hP hw hK hc i pins s σ H E I hf st hg
  subst hP hw hK
  obtain⟨f0,f1,f2,f3,f4,f5⟩:=hf it (by simp)
  have W:=Walks.range (prog:=X.prog) (w:=X.w) (I.ok.hd hc) it lo 1 n
  refine W.item i s _ _ hg st fun v h' tk hv st' kk=>?_
  obtain⟨t,rfl⟩:=hv
  have I1:Inv X pins σ H { s with heap:=h',toks:=tk }:=I.turned (fun b o hb e=>kk b o (by simpa using hb) e) f0 f1 f3 f4 f5
  refine⟨_,rfl,y04 (s:={ s with heap:=h',toks:=tk }) (n:="range_iterator") st' rfl rfl (by decide) ⟨.int (lo+i),H,I1,⟨t,?_⟩,⟨rfl,rfl⟩,st',fun b hb=>(hf b hb).1⟩⟩
  rw[Int.mul_one]
 done:=by
  intro X hP hw hK hc i pins s σ H E I hf st hg
  subst hP hw hK
  obtain⟨f0,f1,f2,f3,f4,f5⟩:=hf it (by simp)
  exact wpAny_pyNext_range_end (I.ok.hd hc) st (by have:n≤i:=hg;lia) fun h' eb=>⟨rfl,I.turned (t':=s.toks) (fun b o hb e=>eb b o hb e) f0 f1 f3 f4 f5⟩
 self:=fun _ _ _ _ _ st h=>wpAny_pyIter_rangeiter st h
end L2
namespace L2
open PySem PySem.Spec PyProof.Rows
section
variable {X:Cx} {tg:Expr}
theorem Ysa{pins:List (Addr × Obj)}{σ:St}{H:Hp}{s:Shared}{R:It→Hp→Prop}{E:Value→Shared→Prop}{lo hi:Int}{t u v:Tok}{tk:Nat}(I:Inv X pins σ H s)(h1:-(2 ^ 62)≤lo)(h2:lo < 2 ^ 62)(h3:-(2 ^ 62)≤hi)(h4:hi < 2 ^ 62)
 (q:R (Itr lo (hi - lo).toNat) H):wpAny (model X.prog X.w) X.A (pyIter (.ref s.heap.objs.size)) (PIE X pins σ tg R) E { s with heap:=s.heap.push { cls:=.type "range",data:=.fields #[.int lo t,.int hi u,.int 1 v] },toks:=tk }:=by
 refine wpAny_pyIter_range (IsRange.new ..) (small_one h1 h2 h3 h4) ?_
 have I1:Inv X pins σ H { s with heap:=s.heap.push { cls:=.type "range",data:=.fields #[.int lo t,.int hi u,.int 1 v] },toks:=tk }:=I.kept fun b o e=>qe _ e
 refine⟨(s.heap.push { cls:=.type "range",data:=.fields #[.int lo t,.int hi u,.int 1 v] }).objs.size,[(s.heap.push { cls:=.type "range",data:=.fields #[.int lo t,.int hi u,.int 1 v] }).objs.size],_,_,H,rfl,
  I1.kept (t':=tk) fun b o e=>qe _ e,Ytc _ lo (hi - lo).toNat,?_,fun b hb=>?_,q⟩
 ·have e1:lo+((0:Nat):Int) * 1=lo:=by simp
  have e2:(((hi - lo).toNat:Nat):Int) - ((0:Nat):Int)=Builtin.Range.rangeSize lo hi 1:=by rw[rangeSize_one];split<;>lia
  show IsRangeIter _ _ (lo+((0:Nat):Int) * 1) ((((hi - lo).toNat:Nat):Int) - ((0:Nat):Int)) 1
  rw[e1,e2]
  exact qp _ rfl
 ·have e:b=(s.heap.push { cls:=.type "range",data:=.fields #[.int lo t,.int hi u,.int 1 v] }).objs.size:=by simpa using hb
  subst e
  exact I1.fpOk (qu _) (I1.hok.fresh (qu _))
noncomputable def y7n(ta:TA):TI:=fun σ H R=>ta σ H fun vs H1=>∃j:Int,vs=[.int j]∧-(2 ^ 62)≤j∧j < 2 ^ 62∧R (Itr 0 j.toNat) H1
noncomputable def y7o(ta:TA):TI:=fun σ H R=>ta σ H fun vs H1=>∃i j:Int,vs=[.int i,.int j]∧(-(2 ^ 62)≤i∧i < 2 ^ 62∧-(2 ^ 62)≤j∧j < 2 ^ 62)∧R (Itr i (j - i).toNat) H1
theorem Yur{a:Expr}{ta:TA}{p pos:Pos}(hg:Gl X "range")(hm:X.mg "range"=none)(ha:PA X [a] ta)(hs:starEach [a] X.env=[(false,eval a X.env)]:=by rfl):PI X tg (.Call (.Name "range" p) [a] [] pos) (y7n ta):=by
 intro pins s σ H R I h
 refine Call_ (Yij I hg hm boot_range (PyProof.Rows.callWith_type1 (thn (ha pos pins s σ H _ I h) fun us s1 hx_=>?_) hs rfl))
 obtain⟨vs,H1,I1,r1,q1⟩:=hx_
 obtain⟨j,e,q1,q2,q⟩:=q1
 subst e
 cases r1 with
 | cons r rr=>
   cases rr
   obtain⟨t,rfl⟩:=r
   exact call_range_1 (Ysa I1 (by lia) (by lia) q1 q2 (by simpa using q))
theorem Yus{a b:Expr}{ta:TA}{p pos:Pos}(hg:Gl X "range")(hm:X.mg "range"=none)(ha:PA X [a,b] ta)(hs:starEach [a,b] X.env=[(false,eval a X.env),(false,eval b X.env)]:=by rfl)(hs2:starEach [b] X.env=[(false,eval b X.env)]:=by rfl) :
 PI X tg (.Call (.Name "range" p) [a,b] [] pos) (y7o ta):=by
 intro pins s σ H R I h
 refine Call_ (Yij I hg hm boot_range (PyProof.Rows.callWith_type1 (thn (ha pos pins s σ H _ I h) fun us s1 ⟨vs,H1,I1,r1,q1⟩=>?_) (by rw[hs,hs2]) (by rw[hs2];rfl)))
 obtain⟨i,j,e,⟨q1,q2,q3,q4⟩,q⟩:=q1
 subst e
 cases r1 with
 | cons r rr=>
   cases rr with
   | cons r' rr=>
     cases rr
     obtain⟨t,rfl⟩:=r
     obtain⟨t',rfl⟩:=r'
     exact call_range_2 (Ysa I1 q1 q2 q3 q4 q)
noncomputable def tFor(wi:TI)(g:TG)(tb:TS):TS:=fun D σ H=>wi σ H fun J H1=>∃W:Nat→Nat→St→Hp→Prop,(∃m,W 0 m σ H1)∧∀i m σ H,W i m σ H→
 (J.stop i H∧D.nx σ H)∨(J.go i H∧∃N:St→Hp→Prop,(∀σ' H',N σ' H'→∃m',m' < m∧W (i+1) m' σ' H')∧∀x H',J.yld i H x H'→g x σ H' fun σ2 H2=>tb { D with nx:=N,ct:=N,bk:=D.nx } σ2 H2)
noncomputable def Yn4(fp:List Addr)(h:Heap):List (Addr × Obj):=fp.filterMap fun b=>(h.get? b).map fun o=>(b,o)
theorem Yfn{fp:List Addr}{h:Heap}{b:Addr}{o:Obj}(hb:b∈fp)(e:h.get? b=some o):(b,o)∈Yn4 fp h:=List.mem_filterMap.mpr ⟨b,hb,by rw[e];rfl⟩
theorem Yut{fp:List Addr}{h:Heap}{p:Addr × Obj}(hp:p∈Yn4 fp h):p.1∈fp∧h.get? p.1=some p.2:=by
 obtain⟨b,hb,e⟩:=List.mem_filterMap.mp hp
 cases q:h.get? b with
 | none=>rw[q]at e;cases e
 | some o=>
   rw[q]at e
   have e':(b,o)=p:=Option.some.inj e
   subst e'
   exact⟨hb,q⟩
theorem Inv.pinned{pins:List (Addr × Obj)}{σ:St}{H:Hp}{s:Shared}{fp:List Addr}(I:Inv X pins σ H s)(hf:∀b∈fp,FpOk X pins H b)(ho:∀b∈fp,∃o,s.heap.get? b=some o∧∀v,o.data≠.cell v):Inv X (pins++Yn4 fp s.heap) σ H s:=
 I.pins_of fun p hp=>(qv hp).elim (fun z=>I.pin p (Qq _ z)) fun z=>by
  obtain⟨hb,e⟩:=Yut z
  obtain⟨f0,f1,f2,_⟩:=hf p.1 hb
  obtain⟨o,e',d⟩:=ho p.1 hb
  rw[e]at e';cases e'
  exact⟨e,f0,f1,f2,d⟩
theorem Inv.unpinned{pins pl:List (Addr × Obj)}{σ:St}{H:Hp}{s:Shared}(I:Inv X (pins++pl) σ H s):Inv X pins σ H s:=I.pins_of fun p hp=>I.pin p (Qq _ (List.mem_append_left _ hp))
theorem y33{iter:Expr}{body:List Stmt}{wi:TI}{g:TG}{tb:TS}{pos:Pos}(hp:PassesOwn (model X.prog X.w) X.A X.env X.xe)(hc:X.calm=true)(hi:PI X tg iter wi)(hg:PG X tg g)(hb:PSs X body tb)
 (hs:∀x,foldedSetIterable iter X.env x=pure x:=by intro _;rfl):PS X (.For tg iter body [] pos) (tFor wi g tb):=by
 intro pins s σ H D I h
 refine wpAny_For (thn (hi pins s σ H _ I h) fun v s1 h1=>thn h1 fun itv s2 h2=>?_) hs
 obtain⟨it,fp,tn,J,H2,e,I2,T,st2,f2,W,⟨m0,w0⟩,turn⟩:=h2
 subst e
 have stat:∀{H':Hp},(∀b∈fp,H' b=none)→∀b∈fp,FpOk X pins H' b:=fun hn b hb=>⟨hn b hb,(f2 b hb).2⟩
 refine codeAny_forLoop_any (fun n s'=>∃i σ' H',Inv X pins σ' H' s'∧tn i s'.heap∧(∀b∈fp,H' b=none)∧W i n σ' H') ?_ m0 ⟨0,σ,H2,I2,st2,fun b hb=>(f2 b hb).1,w0⟩
 rintro n s3 ⟨i,σ3,H3,I3,st3,fr3,w3⟩
 rcases turn i n σ3 H3 w3 with⟨stop,qn⟩ | ⟨go,N,hN,step⟩
 ·refine wpAny_passesOwn hp (thn (T.done X rfl rfl rfl hc i pins s3 σ3 H3 X.xe I3 (stat fr3) st3 stop) fun r s4 hx_=>?_)
  obtain⟨hr,I4⟩:=hx_
  subst hr
  exact wpAny_execs_nil ⟨σ3,H3,I4,qn⟩
 ·refine wpAny_passesOwn hp (thn (T.item X rfl rfl rfl hc i pins s3 σ3 H3 X.xe I3 (stat fr3) st3 go) fun r s4 hx_=>?_)
  obtain⟨u,hr,h4⟩:=hx_
  subst hr
  refine wpAny_passesOwn hp (thn h4 fun _ s5 hx_=>?_)
  obtain⟨x,H5,I5,r5,y5,st5,fr5⟩:=hx_
  have I5':=I5.pinned (stat fr5) (T.obj _ _ st5)
  refine wpAny_passesOwn hp (thn (hg _ s5 σ3 H5 x u _ I5' r5 (step x H5 y5)) fun _ s6 hx_=>?_)
  obtain⟨σ6,H6,I6,q6⟩:=hx_
  refine wpAny_passesOwn hp (thn (hb _ s6 σ6 H6 _ I6 q6) fun f s7 q7=>?_)
  have again:∀{σ7:St} {H7:Hp},Inv X (pins++Yn4 fp s5.heap) σ7 H7 s7→N σ7 H7→∃m,m < n∧∃i σ' H',Inv X pins σ' H' s7∧tn i s7.heap∧(∀b∈fp,H' b=none)∧W i m σ' H':=fun {σ7 H7} I7 n7=>by
   obtain⟨m',hm,w7⟩:=hN σ7 H7 n7
   refine⟨m',hm,i+1,σ7,H7,I7.unpinned,T.keep _ _ _ st5 fun b hb o e=>(I7.pin (b,o) (Qq _ (Qq _ (Yfn hb e)))).1,fun b hb=>?_,w7⟩
   obtain⟨o,e,d⟩:=T.obj _ _ st5 b hb
   exact(I7.pin (b,o) (Qq _ (Qq _ (Yfn hb e)))).2.1
  cases f with
  | next=>obtain⟨σ7,H7,I7,n7⟩:=q7;exact again I7 n7
  | cont=>obtain⟨σ7,H7,I7,n7⟩:=q7;exact again I7 n7
  | brk=>obtain⟨σ7,H7,I7,q7⟩:=q7;exact⟨σ7,H7,I7.unpinned,q7⟩
  | ret v=>obtain⟨x7,σ7,H7,I7,r7,q7⟩:=q7;exact⟨x7,σ7,H7,I7.unpinned,r7,q7⟩
end
end L2
namespace L2
open PySem PySem.Spec PyProof.Rows
noncomputable abbrev R2:=V→V→Hp→VK→Prop
def OpR(X:Cx)(f:Value→Value→Sem Value)(r:R2):Prop:=
 ∀(pins:List (Addr × Obj)) (s:Shared) (σ:St) (H:Hp) (x y:V) (v u:Value) (Q:VK),Inv X pins σ H s→RelV x v→RelV y u→r x y H Q→
  wpAny (model X.prog X.w) X.A (f v u) (EP X pins σ Q) X.xe s
def UnR(X:Cx)(f:Value→Sem Value)(r:V→Hp→VK→Prop):Prop:=
 ∀(pins:List (Addr × Obj)) (s:Shared) (σ:St) (H:Hp) (x:V) (v:Value) (Q:VK),Inv X pins σ H s→RelV x v→r x H Q→
  wpAny (model X.prog X.w) X.A (f v) (EP X pins σ Q) X.xe s
def Yc2(X:Cx)(f:Value)(r:List V→Hp→VK→Prop):Prop:=
 ∀(pins:List (Addr × Obj)) (s:Shared) (σ:St) (H:Hp) (xs:List V) (us:List Value) (Q:VK),Inv X pins σ H s→Vals xs us→r xs H Q→
  wpAny (model X.prog X.w) X.A (call f us) (EP X pins σ Q) X.xe s
def TruR(X:Cx)(r:V→Hp→(Bool→Hp→Prop)→Prop):Prop:=
 ∀(pins:List (Addr × Obj)) (s:Shared) (σ:St) (H:Hp) (x:V) (v:Value) (Q:Bool→Hp→Prop),Inv X pins σ H s→RelV x v→r x H Q→
  wpAny (model X.prog X.w) X.A (truthy v) (TP X pins σ Q) X.xe s
noncomputable def tOp(r:R2)(ta tb:TE):TE:=fun σ H Q=>ta σ H fun x H1=>tb σ H1 fun y H2=>r x y H2 Q
noncomputable def tUn(r:V→Hp→VK→Prop)(ta:TE):TE:=fun σ H Q=>ta σ H fun x H1=>r x H1 Q
noncomputable def rI(C:Int→Int→Prop)(g:Int→Int→V):R2:=fun x y H Q=>∃i j,x=.int i∧y=.int j∧C i j∧Q (g i j) H
noncomputable def rI0(g:Int→Int→V):R2:=fun x y H Q=>∃i j,x=.int i∧y=.int j∧Q (g i j) H
noncomputable def rU(g:Int→V):V→Hp→VK→Prop:=fun x H Q=>∃i,x=.int i∧Q (g i) H
section
variable {X:Cx} {a b c:Expr} {ta tb tc:TE} {pos:Pos}
theorem binT(ha:PE X a ta)(hb:PE X b tb){pins:List (Addr × Obj)}{s:Shared}{σ:St}{H:Hp}{R:V→V→Hp→Prop}(I:Inv X pins σ H s)
 (h:ta σ H fun x H1=>tb σ H1 fun y H2=>R x y H2) {Q:Value→Shared→Prop} {f:Value→Value→Sem Value}
 (hf:∀v u s2 x y H2,Inv X pins σ H2 s2→RelV x v→RelV y u→R x y H2→wpAny (model X.prog X.w) X.A (f v u) Q X.xe s2) :
 wpAny (model X.prog X.w) X.A (eval a X.env) (fun v s₁=>wpAny (model X.prog X.w) X.A (eval b X.env) (fun u s₂=>wpAny (model X.prog X.w) X.A (f v u) Q X.xe s₂) X.xe s₁) X.xe s:=by
 refine thn (ha pins s σ H _ I h) fun v s1 hx_=>?_
 obtain⟨x,H1,I1,r1,q1⟩:=hx_
 refine thn (hb pins s1 σ H1 _ I1 q1) fun u s2 hx_=>?_
 obtain⟨y,H2,I2,r2,q2⟩:=hx_
 exact hf v u s2 x y H2 I2 r1 r2 q2
theorem Yx5{op:Operator}{r:R2}(ho:OpR X (binaryOp op) r)(ha:PE X a ta)(hb:PE X b tb):PE X (.BinOp a op b pos) (tOp r ta tb):=by
 intro pins s σ H Q I h
 exact wpAny_BinOp (binT ha hb I h fun v u s2 x y H2 I2 rx ry q=>ho pins s2 σ H2 x y v u Q I2 rx ry q)
theorem y7p{op:UnaryOp}{r:V→Hp→VK→Prop}(ho:UnR X (unaryOp op) r)(ha:PE X a ta):PE X (.UnaryOp op a pos) (tUn r ta):=by
 intro pins s σ H Q I h
 refine UnaryOp_ (thn (ha pins s σ H _ I h) fun v s1 hx_=>?_)
 obtain⟨x,H1,I1,r1,q1⟩:=hx_
 exact ho pins s1 σ H1 x v Q I1 r1 q1
theorem opI{f:Value→Value→Sem Value}{C:Int→Int→Prop}{g:Int→Int→Int}
 (rule:∀(i j:Int) (t u:Tok) (s:Shared) (Q:Value→Shared→Prop) (E:Value→Shared→Prop),C i j→Q (.int (g i j) s.toks) { s with toks:=s.toks+1 }→wpAny (model X.prog X.w) X.A (f (.int i t) (.int j u)) Q E s) :
 OpR X f (rI C fun i j=>.int (g i j)):=by
 intro pins s σ H x y v u Q I rx ry h
 obtain⟨i,j,rfl,rfl,hc,q⟩:=h
 obtain⟨t,rfl⟩:=rx
 obtain⟨t',rfl⟩:=ry
 exact rule i j t t' s _ _ hc ⟨.int (g i j),H,I.tok _,⟨_,rfl⟩,q⟩
theorem opI0{f:Value→Value→Sem Value}{g:Int→Int→Int}
 (rule:∀(i j:Int) (t u:Tok) (s:Shared) (Q:Value→Shared→Prop) (E:Value→Shared→Prop),Q (.int (g i j) s.toks) { s with toks:=s.toks+1 }→wpAny (model X.prog X.w) X.A (f (.int i t) (.int j u)) Q E s) :
 OpR X f (rI0 fun i j=>.int (g i j)):=by
 intro pins s σ H x y v u Q I rx ry h
 obtain⟨i,j,rfl,rfl,q⟩:=h
 obtain⟨t,rfl⟩:=rx
 obtain⟨t',rfl⟩:=ry
 exact rule i j t t' s _ _ ⟨.int (g i j),H,I.tok _,⟨_,rfl⟩,q⟩
theorem opB0{f:Value→Value→Sem Value}{g:Int→Int→Bool}
 (rule:∀(i j:Int) (t u:Tok) (s:Shared) (Q:Value→Shared→Prop) (E:Value→Shared→Prop),Q (.bool (g i j)) s→wpAny (model X.prog X.w) X.A (f (.int i t) (.int j u)) Q E s) :
 OpR X f (rI0 fun i j=>.bl (g i j)):=by
 intro pins s σ H x y v u Q I rx ry h
 obtain⟨i,j,rfl,rfl,q⟩:=h
 obtain⟨t,rfl⟩:=rx
 obtain⟨t',rfl⟩:=ry
 exact rule i j t t' s _ _ ⟨.bl (g i j),H,I,rfl,q⟩
def CDiv(i j:Int):Prop:=0 < j∧j < 1073741824
def CMul(i j:Int):Prop:=(-(2 ^ 64) < i∧i < 2 ^ 64)∨(-(2 ^ 64) < j∧j < 2 ^ 64)
theorem CMul.ok{i j:Int}(h:CMul i j):IntMulOk i j:=by
 rcases h with⟨h1,h2⟩ | ⟨h1,h2⟩
 ·exact .of_left (intBits_le_64 h1 h2)
 ·exact .of_right (intBits_le_64 h1 h2)
theorem Ytd(k:Nat):(0:Int)≤2 ^ k:=by
 rw[two_pow_cast]
 exact Int.natCast_nonneg _
theorem y34:OpR X (binaryOp .Add) (rI0 fun i j=>.int (i+j)):=opI0 fun _ _ _ _ _ _ _ q=>add_int q
theorem y35:OpR X (binaryOp .Sub) (rI0 fun i j=>.int (i - j)):=opI0 fun _ _ _ _ _ _ _ q=>sub_int q
theorem y36:OpR X (binaryOp .Mult) (rI CMul fun i j=>.int (i * j)):=opI fun _ _ _ _ _ _ _ hc q=>mul_int q hc.ok
theorem y05:OpR X (binaryOp .FloorDiv) (rI CDiv fun i j=>.int (i / j)):=opI fun i j _ _ _ _ _ hc q=>by
 have h1:(0:Int) < j:=hc.1
 have h2:j < 1073741824:=hc.2
 exact floordiv_int (by lia) (by rw[Int.fdiv_eq_ediv_of_nonneg i (by lia)];exact q) (.inl (PyProof.noPylong_small (by lia)))
theorem y37:OpR X (binaryOp .Mod) (rI (fun _ j=>0 < j) fun i j=>.int (i % j)):=opI fun i j _ _ _ _ _ hc q=>by
 have h1:(0:Int) < j:=hc
 exact mod_int' (by lia) (by rw[Int.fmod_eq_emod_of_nonneg i (by lia)];exact q)
theorem y38:OpR X (binaryOp .RShift) (rI (fun _ j=>0≤j) fun i j=>.int (i / 2 ^ j.toNat)):=opI fun i j _ _ _ _ _ hc q=>
 rshift_int hc (by rw[Int.fdiv_eq_ediv_of_nonneg i (Ytd _)];exact q)
theorem op_xor:OpR X (binaryOp .BitXor) (rI0 fun i j=>.int (Builtin.bitXor i j)):=opI0 fun _ _ _ _ _ _ _ q=>xor_int q
theorem unI{f:Value→Sem Value}{g:Int→Int}
 (rule:∀(i:Int) (t:Tok) (s:Shared) (Q:Value→Shared→Prop) (E:Value→Shared→Prop),Q (.int (g i) s.toks) { s with toks:=s.toks+1 }→wpAny (model X.prog X.w) X.A (f (.int i t)) Q E s) :
 UnR X f (rU fun i=>.int (g i)):=by
 intro pins s σ H x v Q I rx h
 obtain⟨i,rfl,q⟩:=h
 obtain⟨t,rfl⟩:=rx
 exact rule i t s _ _ ⟨.int (g i),H,I.tok _,⟨_,rfl⟩,q⟩
theorem y39:UnR X (unaryOp .USub) (rU fun i=>.int (-i)):=unI fun _ _ _ _ _ q=>neg_int q
end
section
variable {X:Cx} {a b c:Expr} {ta tb tc:TE} {pos:Pos}
theorem Yz1{pins:List (Addr × Obj)}{σ:St}{H:Hp}{s:Shared}{Q:VK}{k k':Bool}(I:Inv X pins σ H s)(q:Q (.bl k) H)(e:k=k'):EP X pins σ Q (.bool k') s:=by
 subst e
 exact⟨.bl k,H,I,rfl,q⟩
theorem y06:OpR X (compareOp .Lt) (rI0 fun i j=>.bl (decide (i < j))):=opB0 fun _ _ _ _ _ _ _ q=>lt_int q
theorem y7q:OpR X (compareOp .LtE) (rI0 fun i j=>.bl (decide (i≤j))):=opB0 fun _ _ _ _ _ _ _ q=>le_int q
theorem Yz2:OpR X (compareOp .Is) (fun x y H Q=>y=.non∧Q (.bl (decide (x=.non))) H):=by
 intro pins s σ H x y v u Q I rx ry h
 obtain⟨rfl,q⟩:=h
 cases ry
 refine is_none_gen (Yz1 I q ?_)
 cases x<;>first
  | (cases rx;rfl)
  | (obtain⟨t,rfl⟩:=rx;rfl)
theorem Yuu:OpR X (compareOp .IsNot) (fun x y H Q=>y=.non∧Q (.bl (!decide (x=.non))) H):=by
 intro pins s σ H x y v u Q I rx ry h
 obtain⟨rfl,q⟩:=h
 cases ry
 refine isnot_none_gen (Yz1 I q ?_)
 cases x<;>first
  | (cases rx;rfl)
  | (obtain⟨t,rfl⟩:=rx;rfl)
theorem Yew(b:Expr){op:CmpOp}(h:op≠.In:=by decide)(h2:op≠.NotIn:=by decide):behindInMarks op b=false:=by
 have e1:(op==CmpOp.In)=false:=by cases op<;>first | rfl | exact absurd rfl h
 have e2:(op==CmpOp.NotIn)=false:=by cases op<;>first | rfl | exact absurd rfl h2
 cases b with
 | Set elts k p=>
   show((k==0)&&((op==CmpOp.In)||(op==CmpOp.NotIn))&&_)=false
   rw[e1,e2]
   cases (k==0)<;>rfl
 | _=>rfl
theorem y07{op:CmpOp}{r:R2}(ho:OpR X (compareOp op) r)(ha:PE X a ta)(hb:PE X b tb)(hm:behindInMarks op b=false):PE X (.Compare a [op] [b] pos) (tOp r ta tb):=by
 intro pins s σ H Q I h
 exact wpAny_Compare1 (binT ha hb I h fun v u s2 x y H2 I2 rx ry q=>ho pins s2 σ H2 x y v u Q I2 rx ry q) hm
noncomputable def y4a(t:TE):TT:=fun σ H Q=>t σ H fun x H'=>∃k,x=.bl k∧Q k H'
theorem y08{op:CmpOp}{r:R2}(ho:OpR X (compareOp op) r)(ha:PE X a ta)(hb:PE X b tb)(hm:behindInMarks op b=false):PT X (.Compare a [op] [b] pos) (y4a (tOp r ta tb)):=by
 intro pins s σ H Q I h
 refine wpAny_isTrue_Compare1 (thn (ha pins s σ H _ I h) fun v s1 hx_=>?_) hm
 obtain⟨x,H1,I1,r1,q1⟩:=hx_
 refine thn (hb pins s1 σ H1 _ I1 q1) fun u s2 hx_=>?_
 obtain⟨y,H2,I2,r2,q2⟩:=hx_
 refine thn (ho pins s2 σ H2 x y v u _ I2 r1 r2 q2) fun c s3 hx_=>?_
 obtain⟨z,H3,I3,r3,k,e,q3⟩:=hx_
 subst e
 cases r3
 exact wpAny_truthy_bool ⟨H3,I3,q3⟩
noncomputable def y4b(r r':R2)(ta tb tc:TE):TE:=fun σ H Q=>ta σ H fun x H1=>tb σ H1 fun y H2=>r x y H2 fun z H3=>∃k,z=.bl k∧
 (if k=true then tc σ H3 fun w' H4=>r' y w' H4 Q else Q (.bl false) H3)
theorem Yx6{op op':CmpOp}{r r':R2}(ho:OpR X (compareOp op) r)(ho':OpR X (compareOp op') r')(ha:PE X a ta)(hb:PE X b tb)(hc:PE X c tc)
 (hm:lastMarks [op,op'] [b,c]=false:=by with_unfolding_all rfl):PE X (.Compare a [op,op'] [b,c] pos) (y4b r r' ta tb tc):=by
 intro pins s σ H Q I h
 refine Compare_chain (thn (ha pins s σ H _ I h) fun v s1 hx_=>?_) hm
 obtain⟨x,H1,I1,r1,q1⟩:=hx_
 refine chain_link (thn (hb pins s1 σ H1 _ I1 q1) fun u s2 hx_=>?_)
 obtain⟨y,H2,I2,r2,q2⟩:=hx_
 refine thn (ho pins s2 σ H2 x y v u _ I2 r1 r2 q2) fun d s3 hx_=>?_
 obtain⟨z,H3,I3,r3,k,e,q3⟩:=hx_
 subst e
 cases r3
 refine wpAny_truthy_bool ?_
 cases k with
 | false=>exact ite_ff ⟨.bl false,H3,I3,rfl,q3⟩
 | true=>
   refine ite_tt (chain_last (thn (hc pins s3 σ H3 _ I3 q3) fun w' s4 hx_=>?_))
   obtain⟨z',H4,I4,r4,q4⟩:=hx_
   exact ho' pins s4 σ H4 y z' u w' Q I4 r2 r4 q4
def TruV(K:W.Frag)(x:V)(H:Hp)(k:Bool):Prop:=
 match x with
 | .non=>k=false
 | .bl b=>k=b
 | .int i=>k=(i != 0)
 | .str y=>y.length≤sizeLine∧k=((y.length:Int) != 0)
 | .byt y=>y.size≤sizeLine∧k=((y.size:Int) != 0)
 | .ref p=>(∃xs,SqL K H p xs∧k=!xs.isEmpty)∨(∃xs,SqT K H p xs∧k=!xs.isEmpty)∨∃kvs,H p=some (.dK kvs)∧k=!kvs.isEmpty
 | _=>False
theorem Yte{κ:Type}{kvs:List (κ × V)}{vs:List (κ × Value)}(r:KV kvs vs):(!vs.isEmpty)=!kvs.isEmpty:=by
 cases r<;>rfl
theorem Ylp{xs:List V}{its:List Value}(r:Vals xs its):(!its.toArray.isEmpty)=!xs.isEmpty:=by
 cases r<;>simp
theorem Yn5:(sizeLine:Nat) < 2 ^ 63:=by rw[sizeLine_eq];decide
theorem y4c:TruR X (fun x H Q=>∃k,TruV X.K x H k∧Q k H):=by
 intro pins s σ H x v Q I rx h
 obtain⟨k,e,q⟩:=h
 have hl:=Yn5
 have hs:sizeLine=16777216:=sizeLine_eq
 cases x with
 | non=>
   cases rx
   have e':k=false:=e
   subst e'
   exact truthy_none ⟨H,I,q⟩
 | bl b=>
   cases rx
   have e':k=b:=e
   subst e'
   exact wpAny_truthy_bool ⟨H,I,q⟩
 | int i=>
   obtain⟨t,rfl⟩:=rx
   have e':k=(i != 0):=e
   subst e'
   exact PySem.P.truthy_int ⟨H,I,q⟩
 | str y=>
   obtain⟨t,rfl⟩:=rx
   obtain⟨hy,e'⟩:y.length≤sizeLine∧k=((y.length:Int) != 0):=e
   subst e'
   exact PySem.P.truthy_str (by lia) ⟨H,I.tok _,q⟩
 | byt y=>
   obtain⟨t,rfl⟩:=rx
   obtain⟨hy,e'⟩:y.size≤sizeLine∧k=((y.size:Int) != 0):=e
   subst e'
   exact W.truthy_bytes (by lia) ⟨H,I.tok _,q⟩
 | ref p=>
   cases rx
   have e':(∃xs,SqL X.K H p xs∧k=!xs.isEmpty)∨(∃xs,SqT X.K H p xs∧k=!xs.isEmpty)∨∃kvs,H p=some (.dK kvs)∧k=!kvs.isEmpty:=e
   rcases e' with⟨xs,hx,e'⟩ | ⟨xs,hx,e'⟩ | ⟨kvs,hx,e'⟩
   ·subst e'
    obtain⟨its,r,pl,hz⟩:=I.list hx
    have hlen:=r.length
    exact wpAny_truthy_list pl.isList (by simp only[qk];lia) ⟨H,I.tok _,by rw[Ylp r];exact q⟩
   ·subst e'
    obtain⟨its,r,pl,hz⟩:=I.tuple hx
    have hlen:=r.length
    exact truthy_tuple pl (by simp only[qk];lia) ⟨H,I.tok _,by rw[Ylp r];exact q⟩
   ·subst e'
    obtain⟨hz,hS,vs,r,m⟩:kvs.length≤sizeLine∧(p==sysModules)=false∧∃vs,KV kvs vs∧s.heap.DictOf (Yaf X.prog X.w) p vs:=I.hok p _ hx
    have hlen:kvs.length=vs.length:=Paired.length r
    exact wpAny_truthy_dict hS m (by lia) ⟨H,I.tok _,by rw[Yte r];exact q⟩
 | _=>exact(show False from e).elim
theorem Yx7(ha:PE X a ta)(he:∀whole,isTrue a X.env whole=(do let v ←whole;standAt a.pos;holding [v] (truthy v))) :
 PT X a (fun σ H Q=>ta σ H fun x H'=>∃k,TruV X.K x H' k∧Q k H'):=by
 intro pins s σ H Q I h
 refine isTrue_plain (thn (ha pins s σ H _ I h) fun v s1 hx_=>?_) (he _)
 obtain⟨x,H1,I1,r1,q1⟩:=hx_
 exact y4c pins s1 σ H1 x v Q I1 r1 q1
theorem Yf7{x:V}{us:List Value}(r:Vals [x] us):∃u,us=[u]∧RelV x u:=by
 cases r with
 | cons r1 r2=>cases r2;exact⟨_,rfl,r1⟩
theorem Yuv{x y:V}{us:List Value}(r:Vals [x,y] us):∃u w',us=[u,w']∧RelV x u∧RelV y w':=by
 cases r with
 | cons r1 r2=>
   cases r2 with
   | cons r3 r4=>cases r4;exact⟨_,_,rfl,r1,r3⟩
theorem Yn6(hc:X.calm=true):Yc2 X (.builtin "min") (fun xs H Q=>∃i j,xs=[.int i,.int j]∧Q (.int (if j < i then j else i)) H):=by
 intro pins s σ H xs us Q I r h
 obtain⟨i,j,rfl,q⟩:=h
 obtain⟨u,w',rfl,⟨t,rfl⟩,⟨t',rfl⟩⟩:=Yuv r
 refine min_two_ints (I.ok.hd hc) fun h' tk k=>⟨_,H,I.kept k,?_,q⟩
 by_cases hj:j < i
 ·rw[if_pos hj,if_pos hj];exact⟨_,rfl⟩
 ·rw[if_neg hj,if_neg hj];exact⟨_,rfl⟩
theorem Yuw:Yc2 X (.type "int") (fun xs H Q=>(∃i,xs=[.int i]∧Q (.int i) H)∨∃k,xs=[.bl k]∧Q (.int (if k then 1 else 0)) H):=by
 intro pins s σ H xs us Q I r h
 rcases h with⟨i,rfl,q⟩ | ⟨k,rfl,q⟩
 ·obtain⟨u,rfl,t,rfl⟩:=Yf7 r
  exact call_int_int ⟨.int i,H,I,⟨_,rfl⟩,q⟩
 ·obtain⟨u,rfl,r1⟩:=Yf7 r
  cases r1
  exact call_int_bool ⟨.int (if k then 1 else 0),H,I.tok _,⟨_,rfl⟩,q⟩
end
end L2
namespace L2
open PySem PySem.Spec PyProof.Rows
structure ObjM(h:Heap)(x dx C:Addr)(mA:Str→Option Value):Prop where
 obj:h.get? x=some (W.instObj C dx)
 ns:h.Ns1 dx mA
 ne:dx≠x
theorem Yux{h:Heap}{dx:Addr}{mA:Str→Option Value}(n:h.Ns1 dx mA):∃od,h.get? dx=some od∧∀name,W.lookIn name od=some (mA name):=by
 obtain⟨o,es,ep,ho,hd,hk,_,hm⟩:=n
 refine⟨o,ho,fun name=>?_⟩
 have e:=hm name
 unfold nsFind findBy at e
 rw[←Array.find?_toList]at e
 unfold W.lookIn
 rw[hd]
 dsimp only
 split
 ·rename_i y q
  rw[q]at e
  exact congrArg some e
 ·rename_i q
  rw[q]at e
  have a:es.toList.any (·.refKey)=false:=by
   rw[List.any_eq_false]
   intro y hy
   obtain⟨z,t,hkey⟩:=hk y (Array.mem_toList_iff.mp hy)
   simp[DictEntry.refKey,hkey]
  have a':¬es.toList.any (·.refKey)=true:=by rw[a];exact qi
  rw[if_neg a']
  exact congrArg some e
theorem ObjM.look{h:Heap}{x dx C:Addr}{mA:Str→Option Value}(I:ObjM h x dx C mA):∃od,W.InstAt h x (W.instObj C dx) C (some od)∧∀name,W.lookIn name od=some (mA name):=
 let ⟨od,ho,hl⟩:=Yux I.ns
 ⟨od,⟨I.obj,rfl,rfl,ho⟩,hl⟩
theorem RelO.some_of{v:V}{o:Option Value}(r:RelO (some v) o):∃u,o=some u∧RelV v u:=by
 cases o with
 | none=>exact(show False from r).elim
 | some u=>exact⟨u,rfl,r⟩
section
variable {P:Program} {w:World} {H H':Hp} {h h':Heap} {a C dx:Addr} {fs fs':List (Str × V)}
theorem y09(hok:HOk P w H h)(e:H a=some (.ins C dx fs)):∃mA,ObjM h a dx C mA∧(∀f,RelO (fs.lookup f) (mA f))∧PySem.Within mA (fs.map (·.1))∧fs.length≤1000∧H dx=some (.own a):=by
 obtain⟨d,z,ne,ob,mA,n,r,q⟩:=(show ObjOk P w H h a (.ins C dx fs) from hok a _ e)
 exact⟨mA,⟨ob,n,ne⟩,r,q,z,d⟩
end
structure Cls(K:W.Frag)(C:Addr):Prop where
 pg:W.plainGet K C Str.empty=true
 hd:W.hasDictIn K C=true
 po:W.plainOver K C=true
 sa:W.findIn K (.ref C) "__setattr__"=some (some (.builtin "object.__setattr__"))
theorem Cls.get{K:W.Frag}{C:Addr}(c:Cls K C)(f:Str):W.plainGet K C f=true:=c.pg
structure Con(K:W.Frag)(C:Addr)(f:Str)(v:V)(u:Value):Prop where
 at_:W.findIn K (.ref C) f=some (some u)
 rel:RelV v u
 get:W.specialIn K u "__get__"=some none
 cp:W.copiedNames.contains f=false
structure Meth(K:W.Frag)(C:Addr)(m:Str)(f:Addr):Prop where
 at_:W.findIn K (.ref C) m=some (some (.ref f))
 fn:W.isFn K (.ref f)=true
 kp:W.keepIn K (.ref f)=true
section
variable {X:Cx} {pins:List (Addr × Obj)} {σ:St} {H:Hp} {s:Shared} {A:Around} {E:Value→Shared→Prop} {Q:Value→Shared→Prop} {c:Value} {b:Bool}
inductive TyOf (K:W.Frag) (H:Hp):V→Value→Prop where
 | non:TyOf K H .non (.type "NoneType")
 | bl (x:Bool):TyOf K H (.bl x) (.type "bool")
 | int (i:Int):TyOf K H (.int i) (.type "int")
 | str (x:Str):TyOf K H (.str x) (.type "str")
 | flt (x:UInt64):TyOf K H (.flt x) (.type "float")
 | lst {a:Addr} {xs:List V} (e:H a=some (.lst xs)):TyOf K H (.ref a) (.type "list")
 | frz {a:Addr} {o:Obj} {xs:List V} (e:H a=some (.frz o (.lst xs))):TyOf K H (.ref a) (.type "list")
 | tup {a:Addr} {xs:List V} (e:H a=some (.tup xs)):TyOf K H (.ref a) (.type "tuple")
 | dK {a:Addr} {kvs:List (Key × V)} (e:H a=some (.dK kvs)):TyOf K H (.ref a) (.type "dict")
 | dT {a:Addr} {kvs:List (List Key × V)} (e:H a=some (.dT kvs)):TyOf K H (.ref a) (.type "dict")
 | ins {a C dx:Addr} {fs:List (Str × V)} (e:H a=some (.ins C dx fs)) (cl:Cls K C) (ha:W.findIn K (.ref C) "__class__"=some (some (.builtin "object.__class__")))
  (hn:W.specialIn K (.builtin "object.__class__") "__get__"=some (some (.builtin "getset_descriptor.__get__"))) (htk:W.takesIn K (.builtin "object.__class__")=some true)
  (hm:W.mroIn K C (.type "object")=some true):TyOf K H (.ref a) (.ref C)
theorem Yuy{x:V}{u t:Value}(I:Inv X pins σ H s)(rx:RelV x u)(ty:TyOf X.K H x t)(e:W.kitOne X.K t c=some b)(h:∀tk,Q (.bool b) { s with toks:=tk }) :
 wpAny (model X.prog X.w) A (call (.builtin "isinstance") [u,c]) Q E s:=by
 cases ty with
 | non=>cases (show u=Value.none from rx);exact W.kia_one W.kitx_none I.kIn True.intro e (fun z=>nomatch z) h
 | bl y=>cases (show u=Value.bool y from rx);exact W.kia_one W.kitx_bool I.kIn True.intro e (fun z=>nomatch z) h
 | int i=>obtain⟨t,q⟩:=(show ∃t,u=Value.int i t from rx);cases q;exact W.kia_one W.kitx_int I.kIn True.intro e (fun z=>nomatch z) h
 | str y=>obtain⟨t,q⟩:=(show ∃t,u=Value.str y t from rx);cases q;exact W.kia_one W.kitx_str I.kIn True.intro e (fun z=>nomatch z) h
 | flt y=>obtain⟨t,q⟩:=(show ∃t,u=Value.float y t from rx);cases q;exact W.kia_one W.kitx_float I.kIn True.intro e (fun z=>nomatch z) h
 | @lst a xs ea=>
   cases (show u=Value.ref a from rx)
   obtain⟨_,_,n,_,h1⟩:=(show ObjOk X.prog X.w H s.heap a (.lst xs) from I.hok a _ ea)
   exact W.kia_one W.kitx_list I.kIn ⟨_,h1,rfl⟩ e (fun z=>nomatch z) h
 | @frz a ob xs ea=>
   cases (show u=Value.ref a from rx)
   obtain⟨_,_,_,n,_,h1⟩:=(show ObjOk X.prog X.w H s.heap a (.frz ob (.lst xs)) from I.hok a _ ea)
   exact W.kia_one W.kitx_list I.kIn ⟨_,h1,rfl⟩ e (fun z=>nomatch z) h
 | @tup a xs ea=>
   cases (show u=Value.ref a from rx)
   obtain⟨_,_,_,p⟩:=(show ObjOk X.prog X.w H s.heap a (.tup xs) from I.hok a _ ea)
   obtain⟨o,h1,h2,_⟩:=p
   exact W.kia_one W.kitx_tuple I.kIn ⟨o,h1,h2⟩ e (fun z=>nomatch z) h
 | @dK a kvs ea=>
   cases (show u=Value.ref a from rx)
   obtain⟨_,_,vs,_,p⟩:=(show ObjOk X.prog X.w H s.heap a (.dK kvs) from I.hok a _ ea)
   obtain⟨o,es,ep,h1,h2,_⟩:=p
   exact W.kia_one W.kitx_dict I.kIn ⟨o,h1,h2.1⟩ e (fun z=>nomatch z) h
 | @dT a kvs ea=>
   cases (show u=Value.ref a from rx)
   obtain⟨_,_,xs,_,o,es,ep,h1,h2,_⟩:=(show ObjOk X.prog X.w H s.heap a (.dT kvs) from I.hok a _ ea)
   exact W.kia_one W.kitx_dict I.kIn ⟨o,h1,h2.1⟩ e (fun z=>nomatch z) h
 | @ins a C dx fs ea cl ha hn htk hm=>
   cases (show u=Value.ref a from rx)
   obtain⟨mA,O,_⟩:=y09 I.hok ea
   obtain⟨od,J,_⟩:=O.look
   exact W.kia_one (W.kitx_own (cl.get _) cl.hd ha hn htk hm) I.kIn J e (fun z=>nomatch z) h
end
end L2
namespace L2
open PySem PySem.Spec PyProof.Rows
structure Room(k:Nat)(A:Around):Prop where
 hd:A.handled=none
 dp:A.depth+3 * k+5 < recursionLimit
 un:A.units+16 * k+200 < cLine
theorem Room.mono{j k:Nat}{A:Around}(r:Room k A)(h:j≤k):Room j A:=⟨r.hd,by have:=r.dp;lia,by have:=r.un;lia⟩
theorem Room.deeper{k:Nat}{A:Around}(r:Room (k+1) A)(env:Env):Room k (A.deeper env):=
 ⟨r.hd,by have:=r.dp;show A.depth+1+3 * k+5 < _;lia,by have:=r.un;show A.units+3+16 * k+200 < _;lia⟩
theorem Room.depth{k:Nat}{A:Around}(r:Room k A):A.depth < recursionLimit:=by have:=r.dp;lia
theorem Room.units{k:Nat}{A:Around}(r:Room k A):A.units+64 < cLine:=by have:=r.un;lia
noncomputable def tNil:TA:=fun _ H Q=>Q [] H
noncomputable def y7r(ta:TE)(tr:TA):TA:=fun σ H Q=>ta σ H fun x H1=>tr σ H1 fun xs H2=>Q (x::xs) H2
section
variable {X:Cx} {e:Expr} {es:List Expr} {te:TE} {t:TA} {pos:Pos}
theorem Yjb:PA X [] tNil:=fun _ _ _ _ H Q I h=>Calls.spliced_nil ⟨[],H,I,.nil,h⟩
theorem Yex(ha:PE X e te)(hr:PA X es t)(hs:starEach (e::es) X.env=(false,eval e X.env)::starEach es X.env:=by rfl):PA X (e::es) (y7r te t):=by
 intro pos pins s σ H Q I h
 rw[hs]
 show wpAny _ _ (spliced ((false,eval e X.env)::backTo pos (starEach es X.env))) _ _ s
 refine Calls.spliced_cons (thn (ha pins s σ H _ I h) fun u s1 hx_=>?_)
 obtain⟨x,H1,I1,r1,q1⟩:=hx_
 refine thn (hr pos pins s1 σ H1 _ I1 q1) fun us s2 hx_=>?_
 obtain⟨xs,H2,I2,r2,q2⟩:=hx_
 exact⟨x::xs,H2,I2,.cons r1 r2,q2⟩
noncomputable def tTup(t:TA):TE:=fun σ H Q=>t σ H fun xs H1=>xs.length≤sizeLine∧∀p,H1 p=none→Q (.ref p) (upd H1 p (.tup xs))
noncomputable def tLst(t:TA):TE:=fun σ H Q=>t σ H fun xs H1=>xs.length≤sizeLine∧∀p,H1 p=none→Q (.ref p) (upd H1 p (.lst xs))
theorem y4d{x1}(h:PA X es t):PE X (.Tuple es x1 pos) (tTup t):=by
 intro pins s σ H Q I hq
 refine wpAny_Tuple_spliced (thn (h pos pins s σ H _ I hq) fun us s1 ⟨xs,H1,I1,r,z,q⟩=>⟨by rw[←r.length];exact z,?_⟩)
 have hf:H1 s1.heap.objs.size=none:=I1.hok.fresh (qu _)
 refine⟨.ref s1.heap.objs.size,upd H1 s1.heap.objs.size (.tup xs),I1.laid (t':=s1.toks) (fun b u e=>qe _ e) (qu _) ?_,rfl,q _ hf⟩
 exact⟨z,us,r,⟨_,qp _ rfl,rfl,_,rfl⟩⟩
theorem y4e(h:PA X es t):PE X (.List es pos) (tLst t):=by
 intro pins s σ H Q I hq
 refine wpAny_List_spliced (thn (h pos pins s σ H _ I hq) fun us s1 ⟨xs,H1,I1,r,z,q⟩=>⟨by rw[←r.length];exact z,?_⟩)
 have hf:H1 s1.heap.objs.size=none:=I1.hok.fresh (qu _)
 refine⟨.ref s1.heap.objs.size,upd H1 s1.heap.objs.size (.lst xs),I1.laid (t':=s1.toks) (fun b u e=>qe _ e) (qu _) ?_,rfl,q _ hf⟩
 exact⟨z,us,0,r,qp _ rfl⟩
end
noncomputable abbrev Sp:=List V→Hp→VK→XK→Prop
noncomputable abbrev CXT:=List Env→Hp→Shared→XK→Value→Shared→Prop
structure Env0(P:Program)(w:World)(K:W.Frag)(mg:Str→Option Value)(base:Heap)(A:Around)(outer:List Env)(s:Shared)(H:Hp):Prop where
 frames:A.frames=some outer
 mod:Mod K mg base
 bs:∀b o,base.get? b=some o→s.heap.get? b=some o∧H b=none
 bsz:base.objs.size≤s.heap.objs.size
 funs:s.heap.FunFrames base outer
 frf:∀b∈frs outer,H b=none
 hok:HOk P w H s.heap
 bare:AllBare s.gens
def CE(outer:List Env)(P:Program)(w:World)(H:Hp)(s:Shared)(Q:VK)(u:Value)(s':Shared):Prop:=
 ∃v H',s'.os=s.os∧AllBare s'.gens∧Un (frs outer) [] H H' s.heap s'.heap∧HOk P w H' s'.heap∧RelV v u∧Q v H'
def CR(CX:CXT)(outer:List Env)(P:Program)(w:World)(H:Hp)(s:Shared)(Q:VK)(E:XK)(r:Result)(s':Shared):Prop:=
 match r with
 | .ok (.ret u)=>CE outer P w H s Q u s'
 | .ok _=>False
 | .error e=>CX outer H s E e s'
structure FnOk(P:Program)(w:World)(K:W.Frag)(mg:Str→Option Value)(base:Heap)(CX:CXT)(k:Nat)(f:Addr)(fd:FuncData)(ps:List Str)(sp:Sp):Prop where
 len:∀vs H Q E,sp vs H Q E→vs.length=ps.length
 run:∀(A:Around) (outer:List Env) (s:Shared) (H:Hp) (args:Args) (us:List Value) (vs:List V) (Q:VK) (E:XK),Room k A→Env0 P w K mg base A outer s H→BindsTo s fd args (ps.zip us)→Vals vs us→sp vs H Q E→
  codeAny (model P w) A (.call (.ref f) args) (CR CX outer P w H s Q E) s
section
variable {X:Cx} {pins:List (Addr × Obj)} {σ:St} {H:Hp} {s s':Shared}
theorem Inv.env0(I:Inv X pins σ H s):Env0 X.prog X.w X.K X.mg X.base X.A X.stack s H:=
 ⟨I.ok.frames,I.ok.mod,I.bs,Nat.le_trans I.ok.bsz I.sz,I.stack,I.stkFree,I.hok,I.bare⟩
theorem Inv.after{Q:VK}{u:Value}(I:Inv X pins σ H s)(h:CE X.stack X.prog X.w H s Q u s'):EP X pins σ Q u s':=by
 obtain⟨v,H',os,bare,un,hok,r,q⟩:=h
 obtain⟨hh,g,d,t,os'⟩:=s'
 obtain rfl:os'=s.os:=os
 exact⟨v,H',I.call (h':=hh) (g':=g) (d':=d) (t':=t) (ch:=[]) un hok bare (fun b z=>absurd z (by simp)),r,q⟩
end
noncomputable def y7s(sp:Sp)(dvs:List V)(E:XK)(t:TA):TE:=fun σ H Q=>t σ H fun vs H1=>sp (vs++dvs) H1 Q E
def Binds(K:W.Frag)(fd:FuncData)(ps:List Str)(ds:List Value):Prop:=
 ∀(s:Shared) (us:List Value),K.In s.heap→(us++ds).length=ps.length→BindsTo s fd ⟨us,[]⟩ (ps.zip (us++ds))
theorem Binds.all{K:W.Frag}{fd:FuncData}{ps:List Str}(h:∀us:List Value,us.length=ps.length→bindArgs fd ⟨us,[]⟩=pure (ps.zip us)):Binds K fd ps []:=fun s us _ hl=>by
 rw[List.append_nil]at hl ⊢
 exact .of_eq (h us hl)
def Yuz(CX:CXT)(X:Cx)(E:XK):Prop:=∀(pins:List (Addr × Obj)) (σ:St) (H:Hp) (s:Shared) (e:Value) (s':Shared),Inv X pins σ H s→CX X.stack H s E e s'→X.xe e s'
section
variable {X:Cx} {CX:CXT} {k:Nat} {f C:Addr} {fd:FuncData} {ps:List Str} {sp:Sp} {dvs:List V} {ds:List Value} {E:XK} {x m:Str} {p pos apos:Pos} {e o:Expr} {es:List Expr} {ta:TE} {t:TA}
theorem y4f{pins:List (Addr × Obj)}{σ:St}{H:Hp}{s:Shared}{Q:VK}{us:List Value}{vs:List V}(F:FnOk X.prog X.w X.K X.mg X.base CX k f fd ps sp)(hr:Room k X.A)(hb:Binds X.K fd ps ds)(hd:Vals dvs ds)(hx:Yuz CX X E)
 (I:Inv X pins σ H s) (r:Vals vs us) (h:sp (vs++dvs) H Q E):wpAny (model X.prog X.w) X.A (call (.ref f) us) (EP X pins σ Q) X.xe s:=by
 have r2:Vals (vs++dvs) (us++ds):=r.append hd
 have hl:(us++ds).length=ps.length:=by rw[←r2.length];exact F.len _ _ _ _ h
 refine wpAny_call (codeAny_mono (F.run X.A X.stack s H ⟨us,[]⟩ (us++ds) (vs++dvs) Q E hr I.env0 (hb s us I.kIn hl) r2 h) fun r s' hq=>?_)
 cases r with
 | error e=>exact hx pins σ H s e s' I hq
 | ok fl=>
   cases fl with
   | ret u=>exact I.after hq
   | next=>exact False.elim hq
   | brk=>exact False.elim hq
   | cont=>exact False.elim hq
theorem y1a(F:FnOk X.prog X.w X.K X.mg X.base CX k f fd ps sp)(hr:Room k X.A)(hg:Gl X x)(hm:X.mg x=some (.ref f))(hk:W.keepIn X.K (.ref f)=true)(hb:Binds X.K fd ps ds)(hd:Vals dvs ds)(hx:Yuz CX X E)
 (ha:PA X (e::es) t) (hdb:(x==("__debug__":Str))=false:=by decide) (he:starEach (e::es) X.env=(false,eval e X.env)::starEach es X.env:=by rfl) (hpl:(backTo pos (starEach es X.env)).any (·.1)=false:=by rfl) :
 PE X (.Call (.Name x p) (e::es) [] pos) (y7s sp dvs E t):=by
 intro pins s σ H Q I h
 refine wpAny_Call_Name_kw (y0y I hg hm ?_ hdb)
 refine W.callWith_K (h₀:=X.base) I.ok.mod.kin hk (thn (ha pos pins s σ H _ I h) fun us s1 hx_=>?_) he hpl
 obtain⟨vs,H1,I1,r,q⟩:=hx_
 refine⟨I1.kIn,?_⟩
 exact y4f F hr hb hd hx I1 r q
structure Mk(K:W.Frag)(C f:Addr):Prop where
 makes:W.makesIn K C=true
 init:W.findIn K (.ref C) "__init__"=some (some (.ref f))
 fn:W.isFn K (.ref f)=true
 kp:W.keepIn K (.ref C)=true
end
section
variable {X:Cx} {CX:CXT} {k:Nat} {f C:Addr} {fd:FuncData} {ps ks:List Str} {sp:Sp} {E:XK} {x m:Str} {p pos apos kpos:Pos} {e o:Expr} {es:List Expr} {kws:List Keyword} {te ta:TE} {t tk:TA} {nm:Option Str}
structure KBinds(K:W.Frag)(fd:FuncData)(ps ks:List Str)(g:List Value→List Value→List Value)(gV:List V→List V→List V):Prop where
 to:∀(s:Shared) (us ws:List Value),K.In s.heap→(g us ws).length=ps.length→BindsTo s fd ⟨us,ks.zip ws⟩ (ps.zip (g us ws))
 rel:∀{vs:List V} {us:List Value} {zs:List V} {ws:List Value},Vals vs us→Vals zs ws→Vals (gV vs zs) (g us ws)
variable {g:List Value→List Value→List Value} {gV:List V→List V→List V}
end
structure FnScope(N P:List Str)(sc:Scope):Prop where
 kind:sc.kind=.function
 co:sc.isCoroutine=false
 gen:sc.isGenerator=false
 nd:N.Nodup
 pre:N.take P.length=P
 par:∀x∈P,sc.names.lookup x=some .local∨sc.names.lookup x=some .cell
 nofree:∀y∈sc.names,y.2≠.free
theorem Yn7{kindOf:Str→Option NameKind}{x:Str}:∀{binds:List (Str × Value)} {m:Str→Option Value},(∀v,(x,v)∉binds)→bindL kindOf binds m x=m x
 | [],_,_=>rfl
 | (n,v)::r,m,h=>by
   unfold bindL
   rw[Yn7 fun w hw=>h w (qg _ hw)]
   split
   ·have:x≠n:=by rintro rfl;exact h v qh
    simp[this]
   ·rfl
theorem Yn8{kindOf:Str→Option NameKind}{x:Str}:∀{binds:List (Str × Value)} {m:Str→Option Value},(∀v,(x,v)∉binds)→bindC kindOf binds m x=m x
 | [],_,_=>rfl
 | (n,v)::r,m,h=>by
   unfold bindC
   rw[Yn8 fun w hw=>h w (qg _ hw)]
   split
   ·rfl
   ·have:x≠n:=by rintro rfl;exact h v qh
    simp[this]
theorem Yn9{kindOf:Str→Option NameKind}{x:Str}{v:Value}:∀{P:List Str} {vs:List Value} {i:Nat} {m:Str→Option Value},P.Nodup→P[i]?=some x→vs[i]?=some v→kindOf x=some .local→
 bindL kindOf (P.zip vs) m x=some v
 | [],_,_,_,_,h,_,_=>by simp at h
 | _::_,[],_,_,_,_,h,_=>by simp at h
 | p::P,w::vs,0,m,nd,h1,h2,hk=>by
   simp at h1 h2;subst h1;subst h2
   show bindL kindOf ((p,w)::P.zip vs) m p=_
   unfold bindL
   rw[Yn7 fun v hv=>(List.nodup_cons.mp nd).1 (List.of_mem_zip hv).1,if_pos hk]
   simp
 | p::P,w::vs,i+1,m,nd,h1,h2,hk=>by
   show bindL kindOf ((p,w)::P.zip vs) m x=_
   unfold bindL
   exact Yn9 (i:=i) (List.nodup_cons.mp nd).2 (by simpa using h1) (by simpa using h2) hk
theorem Yoa{kindOf:Str→Option NameKind}{x:Str}{v:Value}:∀{P:List Str} {vs:List Value} {i:Nat} {m:Str→Option Value},P.Nodup→P[i]?=some x→vs[i]?=some v→kindOf x≠some .local→
 bindC kindOf (P.zip vs) m x=some v
 | [],_,_,_,_,h,_,_=>by simp at h
 | _::_,[],_,_,_,_,h,_=>by simp at h
 | p::P,w::vs,0,m,nd,h1,h2,hk=>by
   simp at h1 h2;subst h1;subst h2
   show bindC kindOf ((p,w)::P.zip vs) m p=_
   unfold bindC
   rw[Yn8 fun v hv=>(List.nodup_cons.mp nd).1 (List.of_mem_zip hv).1,if_neg hk]
   simp
 | p::P,w::vs,i+1,m,nd,h1,h2,hk=>by
   show bindC kindOf ((p,w)::P.zip vs) m x=_
   unfold bindC
   exact Yoa (i:=i) (List.nodup_cons.mp nd).2 (by simpa using h1) (by simpa using h2) hk
noncomputable def start(N:List Str)(vs:List V):St:=vs.map some++List.replicate (N.length - vs.length) none
noncomputable def cxOf(CX:CXT)(P:Program)(w:World)(K:W.Frag)(mg:Str→Option Value)(base:Heap)(N:List Str)(qual:Str)(scope:Scope)(f:Addr)(cd:Value)(A:Around)(outer:List Env)(s:Shared)(H:Hp)(E:XK):Cx where
 prog:=P
 w:=w
 K:=K
 mg:=mg
 base:=base
 A:=A.deeper (envOfC qual scope s.heap.objs.size f cd)
 N:=N
 s₀:=s
 H₀:=H
 env:=envOfC qual scope s.heap.objs.size f cd
 outer:=outer
 stack:=envOfC qual scope s.heap.objs.size f cd::outer
 ex:=[]
 calm:=true
 fn:=fun _=>true
 pn:=[]
 xe:=fun e s'=>wpAny (model P w) (A.deeper (envOfC qual scope s.heap.objs.size f cd)) (leaving (envOfC qual scope s.heap.objs.size f cd) e) (fun _ s''=>CX outer H s E e s'') (fun e' s''=>CX outer H s E e' s'') s'
theorem Ysb{sc:Scope}{n:Nat}{x:Str}(h:sc.names.lookup x=some .cell):∃c,(cellsFrom n sc.names []).lookup x=some c:=by
 have q:=PySem.W.cellsFrom_some sc.names n [] (.inl h)
 exact Option.isSome_iff_exists.mp q
theorem Yu0{CX:CXT}{P:Program}{w:World}{K:W.Frag}{mg:Str→Option Value}{base:Heap}{N ps:List Str}{qual:Str}{scope:Scope}{f:Addr}{cd:Value}{A:Around}{outer:List Env}{s s1:Shared}{H:Hp}{E:XK}{us:List Value}{vs:List V}
 (S:FnScope N ps scope) (hd:A.handled=none) (e0:Env0 P w K mg base A outer s H) (hl:vs.length=ps.length) (r:Vals vs us)
 (x:InCallC s s.heap.objs.size (bindL (envOfC qual scope s.heap.objs.size f cd).kindOf (ps.zip us) fun _=>none) (cellsFrom (s.heap.objs.size+1) scope.names []) (bindC (envOfC qual scope s.heap.objs.size f cd).kindOf (ps.zip us) fun _=>none) s1) :
 Inv (cxOf CX P w K mg base N qual scope f cd A outer s H E) [] (start N vs) H s1:=by
 have hpl:ps.length≤N.length:=by have:=congrArg List.length S.pre;rw[List.length_take]at this;lia
 obtain⟨h1,tk,rfl,hk⟩:=x.done
 have noA:∀b:Addr,b∉(cxOf CX P w K mg base N qual scope f cd A outer s H E).ex:=fun b z=>absurd (show b∈([]:List Addr) from z) (by simp)
 refine⟨⟨e0.mod,S.kind,rfl,rfl,qu _,fun y z c h1 h2=>?_,fun y hy=>?_,fun y c _ h=>?_,fun _=>hd,Around.frames_deeper e0.frames,.inr ⟨rfl,rfl⟩,fun b z=>absurd z (noA b),e0.bs,e0.bsz,fun b _ _=>noA b,fun b z=>absurd z (noA b),e0.funs,e0.frf⟩,
  rfl,e0.bare,Un.kept hk,⟨_,x.toInCall.ns,fun i y v h1 h2 h3=>?_⟩,fun y c h=>⟨_,x.cell y c h⟩,e0.hok.fresh (qu _),fun y c h=>?_,fun p hp=>absurd (show p∈([]:List (Addr × Obj)) from hp) (by simp),e0.hok.kept hk,?_⟩
 ·exact name_of_addr x.apart (PySem.mem_of_lookup h1) (PySem.mem_of_lookup h2)
 ·have hy:scope.names.lookup y=some .cell∨scope.names.lookup y=some .free:=hy
  rcases hy with hy | hy
  ·exact Ysb hy
  ·exact absurd rfl (S.nofree _ (PySem.mem_of_lookup hy))
 ·exact Nat.le_of_lt (x.above y c (PySem.mem_of_lookup h))
 ·have hi:i < vs.length:=by
   unfold start at h2
   by_cases hi:i < vs.length
   ·exact hi
   ·rw[List.getElem?_append_right (by simpa using hi)]at h2
    rw[List.getElem?_replicate]at h2
    split at h2<;>cases h2
  have ha:vs[i]?=some v:=by
   unfold start at h2
   rw[List.getElem?_append_left (by simpa using hi),Qk]at h2
   cases e:vs[i]? with
   | none=>rw[e]at h2;cases h2
   | some a=>rw[e]at h2;cases h2;rfl
  obtain⟨u,hu,rv⟩:=r.get ha
  have hp:ps[i]?=some y:=by
   rw[←S.pre,List.getElem?_take_of_lt (by lia)];exact h1
  have ndP:ps.Nodup:=by rw[←S.pre];exact S.nd.sublist (List.take_sublist _ _)
  refine⟨u,rv,?_⟩
  rcases S.par y (List.mem_of_getElem? hp)with k | k
  ·exact .inl ⟨k,Yn9 ndP hp hu k⟩
  ·obtain⟨c,e⟩:=Ysb (n:=s.heap.objs.size+1) k
   refine .inr ⟨.inl k,c,e,?_⟩
   have q:=x.cell y c e
   rw[Yoa ndP hp hu (by show scope.names.lookup y≠_;rw[k];decide)]at q
   exact q
 ·exact e0.hok.fresh (Nat.le_of_lt (x.above y c (PySem.mem_of_lookup h)))
 ·unfold start
  show _=N.length
  rw[qz,qf,List.length_replicate]
  lia
theorem y7t{CX:CXT}{P:Program}{w:World}{K:W.Frag}{mg:Str→Option Value}{base:Heap}{k:Nat}{f:Addr}{name qual:Str}{params:Arguments}{body:List Stmt}{scope:Scope}{dV kV doc pm cdv ct oc:Value}{an od:Option Addr}
 {osl:Array (Option Value)} {N ps:List Str} {sp:Sp} (lk:K.lookup f=some ⟨oc,od,.func (W.fnOf name qual params body scope dV kV doc pm an cdv ct),osl⟩) (hcd:W.codeIn K cdv qual=true) (S:FnScope N ps scope)
 (len:∀vs H Q E,sp vs H Q E→vs.length=ps.length)
 (hbody:∀(A:Around) (outer:List Env) (s:Shared) (H:Hp) (vs:List V) (Q:VK) (E:XK),Room k (A.deeper (envOfC qual scope s.heap.objs.size f cdv))→sp vs H Q E→
  ∃t,PSs (cxOf CX P w K mg base N qual scope f cdv A outer s H E) body t∧t { nx:=fun _ H'=>Q .non H',rt:=Q } (start N vs) H) :
 FnOk P w K mg base CX (k+1) f (W.fnOf name qual params body scope dV kV doc pm an cdv ct) ps sp:=by
 refine⟨len,fun A outer s H args us vs Q E hr e0 hb r hsp=>?_⟩
 have hl:=len _ _ _ _ hsp
 have KX:K.In s.heap:=e0.mod.kin.keeps fun b o e=>(e0.bs b o e).1
 have lim:s.heap.NoLimit:=e0.mod.nolimit.keeps fun b o e=>(e0.bs b o e).1
 have hkind:∀y∈ps.zip us,scope.names.lookup y.1=some .local∨(scope.names.lookup y.1=some .cell∧((cellsFrom (s.heap.objs.size+1) scope.names []).lookup y.1).isSome=true):=fun⟨n,v⟩ hy=>by
  rcases S.par n (List.of_mem_zip hy).1 with q | q
  ·exact .inl q
  ·exact .inr ⟨q,PySem.W.cellsFrom_some _ _ _ (.inl q)⟩
 refine codeAny_call_function hr.depth (KX _ _ lk) rfl S.co S.gen rfl (W.codeRec_of KX hcd) (hb _ _ _ _ ?_)
 refine wpAny_newFunctionEnv_cells S.kind hkind fun env he s1 x=>?_
 subst he
 refine⟨lim.keeps x.toInCall.keep,codeAny_func ?_⟩
 obtain⟨t,ht,hq⟩:=hbody A outer s H vs Q E (hr.deeper _) hsp
 have I:Inv (cxOf CX P w K mg base N qual scope f cdv A outer s H E) [] (start N vs) H s1:=Yu0 S hr.hd e0 hl r x
 refine wpAny_mono (ht [] s1 (start N vs) H _ I hq) (fun fl s' hs=>?_) fun e s' hs=>hs
 have fin:∀{σ':St} {H':Hp} {v:V} {u:Value},Inv (cxOf CX P w K mg base N qual scope f cdv A outer s H E) [] σ' H' s'→RelV v u→Q v H'→CE outer P w H s Q u s':=
  fun {σ' H' v u} J rv q=>⟨v,H',J.os,J.bare,J.base,J.hok,rv,q⟩
 cases fl with
 | ret u=>
   obtain⟨v,σ',H',J,rv,q⟩:=hs
   exact fin J rv q
 | next=>
   obtain⟨σ',H',J,q⟩:=hs
   exact fin (v:=V.non) (u:=Value.none) J rfl q
 | brk=>
   obtain⟨_,_,_,q⟩:=hs
   exact False.elim q
 | cont=>
   obtain⟨_,_,_,q⟩:=hs
   exact False.elim q
end L2
namespace L2
open PySem PySem.Spec PyProof.Rows
section
variable {X:Cx} {x:Str} {p pos:Pos} {e:Expr} {es:List Expr} {t:TA} {id T:String} {r:List V→Hp→VK→Prop}
noncomputable def tCB(r:List V→Hp→VK→Prop)(t:TA):TE:=fun σ H Q=>t σ H fun vs H1=>r vs H1 Q
theorem Ygv(hc:Yc2 X (.builtin id) r)(hg:Gl X x)(hm:X.mg x=none)(hv:bootBuiltins x=some (.builtin id))(ha:PA X (e::es) t)(hn:x≠"__name__":=by decide)(hdb:(x==("__debug__":Str))=false:=by decide)
 (he:starEach (e::es) X.env=(false,eval e X.env)::starEach es X.env:=by rfl) (hpl:(backTo pos (starEach es X.env)).any (·.1)=false:=by rfl):PE X (.Call (.Name x p) (e::es) [] pos) (tCB r t):=by
 intro pins s σ H Q I h
 refine wpAny_Call_Name_kw (Yij I hg hm hv ?_ hn hdb)
 refine PyProof.Rows.callWith_builtin1 (thn (ha pos pins s σ H _ I h) fun us s1 hx_=>?_) he hpl
 obtain⟨vs,H1,I1,r1,q1⟩:=hx_
 exact hc pins s1 σ H1 vs us Q I1 r1 q1
theorem Yc3(hc:Yc2 X (.type T) r)(hg:Gl X x)(hm:X.mg x=none)(hv:bootBuiltins x=some (.type T))(ha:PA X (e::es) t)(hn:x≠"__name__":=by decide)(hdb:(x==("__debug__":Str))=false:=by decide)
 (he:starEach (e::es) X.env=(false,eval e X.env)::starEach es X.env:=by rfl) (hpl:(backTo pos (starEach es X.env)).any (·.1)=false:=by rfl):PE X (.Call (.Name x p) (e::es) [] pos) (tCB r t):=by
 intro pins s σ H Q I h
 refine wpAny_Call_Name_kw (Yij I hg hm hv ?_ hn hdb)
 refine PyProof.Rows.callWith_type1 (thn (ha pos pins s σ H _ I h) fun us s1 hx_=>?_) he hpl
 obtain⟨vs,H1,I1,r1,q1⟩:=hx_
 exact hc pins s1 σ H1 vs us Q I1 r1 q1
end
end L2
namespace L2
open PySem PySem.Spec PyProof.Rows
section
variable {κ:Type} [DecidableEq κ]
noncomputable def valV(kvs:List (κ × V))(k:κ):Option V:=(kvs.find? fun kv=>decide (kv.1=k)).map (·.2)
noncomputable def putK(kvs:List (κ × V))(k:κ)(v:V):List (κ × V):=
 if (kvs.any fun kv=>decide (kv.1=k))=true then kvs.map (fun kv=>if kv.1=k then (kv.1,v)else kv)else kvs++[(k,v)]
theorem Yi1{p:κ × V}{r:List (κ × V)}{k:κ}(e:p.1=k):valV (p::r) k=some p.2:=by simp[valV,List.find?_cons,e]
theorem Yi2{p:κ × V}{r:List (κ × V)}{k:κ}(e:¬p.1=k):valV (p::r) k=valV r k:=by simp[valV,List.find?_cons,e]
theorem Ysc(k:κ):∀kvs:List (κ × V),(kvs.any fun kv=>decide (kv.1=k))=(valV kvs k).isSome
 | []=>rfl
 | p::r=>by
   rw[List.any_cons]
   by_cases e:p.1=k
   ·simp only[Yi1 e,decide_eq_true e,Bool.true_or,Option.isSome_some]
   ·rw[Yi2 e,decide_eq_false e,Bool.false_or];exact Ysc k r
theorem Yf8(kvs:List (κ × V))(k:κ)(v:V):(putK kvs k v).length≤kvs.length+1:=by
 unfold putK
 split
 ·rw[qf];lia
 ·rw[qz,qr,List.length_nil];lia
theorem RelO.isSome_eq{o:Option V}{u:Option Value}(r:RelO o u):o.isSome=u.isSome:=by
 cases o with
 | none=>cases u with
   | none=>rfl
   | some _=>exact(show False from r).elim
 | some _=>cases u with
   | none=>exact(show False from r).elim
   | some _=>rfl
theorem RelO.getD{o:Option V}{u:Option Value}{d:V}{d':Value}(r:RelO o u)(rd:RelV d d'):RelV (o.getD d) (u.getD d'):=by
 cases o with
 | none=>cases u with
   | none=>exact rd
   | some _=>exact(show False from r).elim
 | some _=>cases u with
   | none=>exact(show False from r).elim
   | some _=>exact r
theorem KV.val{kvs:List (κ × V)}{vs:List (κ × Value)}(r:KV kvs vs)(k:κ):RelO (valV kvs k) (valueAt vs k):=by
 unfold KV at r
 induction r with
 | nil=>exact True.intro
 | @cons p q ps qs h t ih=>
   obtain⟨h1,h2⟩:=h
   by_cases e:p.1=k
   ·have e':q.1=k:=h1.symm.trans e
    have b:valueAt (q::qs) k=some q.2:=by simp[valueAt,List.find?_cons,e']
    rw[Yi1 e,b];exact h2
   ·have e':¬q.1=k:=fun z=>e (h1.trans z)
    have b:valueAt (q::qs) k=valueAt qs k:=by simp[valueAt,List.find?_cons,e']
    rw[Yi2 e,b];exact ih
theorem KV.any{kvs:List (κ × V)}{vs:List (κ × Value)}(r:KV kvs vs)(k:κ):(kvs.any fun kv=>decide (kv.1=k))=vs.any fun kv=>decide (kv.1=k):=by
 unfold KV at r
 induction r with
 | nil=>rfl
 | cons h t ih=>rw[List.any_cons,List.any_cons,ih,h.1]
theorem KV.repl{kvs:List (κ × V)}{vs:List (κ × Value)}(r:KV kvs vs)(k:κ){y:V}{u:Value}(ry:RelV y u) :
 KV (kvs.map fun kv=>if kv.1=k then (kv.1,y)else kv) (vs.map fun kv=>if kv.1=k then (kv.1,u)else kv):=by
 unfold KV at r ⊢
 induction r with
 | nil=>exact .nil
 | @cons p q ps qs h t ih=>
   rw[Qd,Qd]
   refine .cons ?_ ih
   obtain⟨h1,h2⟩:=h
   by_cases e:p.1=k
   ·rw[if_pos e,if_pos (h1.symm.trans e)];exact⟨h1,ry⟩
   ·rw[if_neg e,if_neg (fun z=>e (h1.trans z))];exact⟨h1,h2⟩
theorem KV.put{kvs:List (κ × V)}{vs:List (κ × Value)}(r:KV kvs vs)(k:κ){y:V}{u:Value}(ry:RelV y u):KV (putK kvs k y) (stored vs k u):=by
 unfold putK stored
 rw[r.any k]
 by_cases e:(vs.any fun kv=>decide (kv.1=k))=true
 ·rw[if_pos e,if_pos e];exact r.repl k ry
 ·rw[if_neg e,if_neg e];exact Paired.snoc r ⟨rfl,ry⟩
theorem KV.length{kvs:List (κ × V)}{vs:List (κ × Value)}(r:KV kvs vs):kvs.length=vs.length:=Paired.length r
end
theorem Ytf{P:Program}{w:World}{k:Key}{u:Value}(r:RelV (kV k) u):(Yaf P w).is k u=true:=by
 cases k with
 | inl i=>obtain⟨t,e⟩:=(show ∃t,u=Value.int i t from r);subst e;exact Yqh P w i t
 | inr x=>obtain⟨t,e⟩:=(show ∃t,u=Value.str x t from r);subst e;exact Yqi P w x t
theorem Yob{P:Program}{w:World}:∀{ks:List Key} {us:List Value},Vals (ks.map kV) us→ItemsAre (Yaf P w) ks us
 | [],_,r=>by rw[List.map_nil]at r;cases r;exact .nil
 | k::ks,_,r=>by
   rw[Qd]at r
   cases r with
   | cons h t=>exact .cons (Ytf h) (Yob t)
noncomputable abbrev KT(H:Hp):List (List Key × V)→List (List Key × Addr × Value)→Prop:=Paired fun p q=>p.1=q.1∧H q.2.1=some (.tup (p.1.map kV))∧RelV p.2 q.2.2
theorem KT.val{H:Hp}{kvs:List (List Key × V)}{xs:List (List Key × Addr × Value)}(r:KT H kvs xs)(k:List Key):RelO (valV kvs k) ((atKey xs k).map (·.2)):=by
 induction r with
 | nil=>exact True.intro
 | @cons p q ps qs h t ih=>
   obtain⟨h1,_,h2⟩:=h
   by_cases e:p.1=k
   ·have e':q.1=k:=h1.symm.trans e
    have b:atKey (q::qs) k=some q.2:=by simp[atKey,List.find?_cons,e']
    rw[Yi1 e,b];exact h2
   ·have e':¬q.1=k:=fun z=>e (h1.trans z)
    have b:atKey (q::qs) k=atKey qs k:=by simp[atKey,List.find?_cons,e']
    rw[Yi2 e,b];exact ih
theorem KT.repl{H:Hp}{kvs:List (List Key × V)}{xs:List (List Key × Addr × Value)}(r:KT H kvs xs)(k:List Key){y:V}{u:Value}(ry:RelV y u) :
 KT H (kvs.map fun kv=>if kv.1=k then (kv.1,y)else kv) (xs.map (putAt k u)):=by
 induction r with
 | nil=>exact .nil
 | @cons p q ps qs h t ih=>
   rw[Qd,Qd]
   refine .cons ?_ ih
   obtain⟨h1,h2,h3⟩:=h
   unfold putAt
   by_cases e:p.1=k
   ·rw[if_pos e,if_pos (h1.symm.trans e)];exact⟨h1,h2,ry⟩
   ·rw[if_neg e,if_neg (fun z=>e (h1.trans z))];exact⟨h1,h2,h3⟩
theorem KT.put{H:Hp}{kvs:List (List Key × V)}{xs:List (List Key × Addr × Value)}(r:KT H kvs xs)(k:List Key){b:Addr}{y:V}{u:Value}(hb:H b=some (.tup (k.map kV)))(ry:RelV y u) :
 KT H (putK kvs k y) (storedH xs k b u):=by
 have e:(kvs.any fun kv=>decide (kv.1=k))=(atKey xs k).isSome:=by
  rw[Ysc,(r.val k).isSome_eq,Option.isSome_map]
 unfold putK storedH
 rw[e]
 by_cases q:(atKey xs k).isSome=true
 ·rw[if_pos q,if_pos q];exact r.repl k ry
 ·rw[if_neg q,if_neg q];exact Paired.snoc r ⟨rfl,hb,ry⟩
theorem KT.keeps{H H':Hp}{kvs:List (List Key × V)}{xs:List (List Key × Addr × Value)}(r:KT H kvs xs)(ht:∀b ys,H b=some (.tup ys)→H' b=some (.tup ys)):KT H' kvs xs:=
 Paired.mapP r fun _ _ z=>⟨z.1,ht _ _ z.2.1,z.2.2⟩
section
variable {P:Program} {w:World} {H:Hp} {h:Heap} {a:Addr}
theorem y4g{u:HO}(ok:HOk P w H h)(e:Rd H a u):ObjOk P w H h a u:=e.ok ok
theorem Yqj{kvs:List (Key × V)}(ok:HOk P w H h)(e:Rd H a (.dK kvs)):kvs.length≤sizeLine∧(a==sysModules)=false∧∃vs,KV kvs vs∧h.DictOf (Yaf P w) a vs:=
 show ObjOk P w H h a (.dK kvs) from y4g ok e
theorem y4h{kvs:List (Key × V)}(ok:HOk P w H h)(e:H a=some (.dK kvs)):kvs.length≤sizeLine∧(a==sysModules)=false∧∃vs,KV kvs vs∧h.DictOf (Yaf P w) a vs:=Yqj ok (.inl e)
theorem Yoc{ks:List Key}(ok:HOk P w H h)(e:H a=some (.tup (ks.map kV))):(tupleKind (Yaf P w)).is h ks a:=by
 obtain⟨_,its,r,o,h1,h2,n,h3⟩:=(show ObjOk P w H h a (.tup (ks.map kV)) from ok a _ e)
 exact⟨o,its.toArray,n,h1,h2,h3,by simpa using Yob r⟩
theorem Ytg{kvs:List (List Key × V)}(ok:HOk P w H h)(e:Rd H a (.dT kvs)):kvs.length≤sizeLine∧(a==sysModules)=false∧
 ∃xs,KT H kvs xs∧h.DictOfH (tupleKind (Yaf P w)) a xs:=by
 obtain⟨z,y,xs,r,o,es,ep,h1,h2,h3,h4,h5⟩:=(show ObjOk P w H h a (.dT kvs) from y4g ok e)
 refine⟨z,y,xs,r,o,es,ep,h1,h2,h3,h4,fun x hx=>?_,h5⟩
 have all:∀{l:List (List Key × V)} {m:List (List Key × Addr × Value)},KT H l m→∀x∈m,(tupleKind (Yaf P w)).is h x.1 x.2.1:=by
  intro l m q
  induction q with
  | nil=>intro x hx;exact nomatch hx
  | @cons p q ps qs hq t ih=>
    intro x hx
    rcases qt hx with e | hx
    ·subst e
     exact Yoc ok (by rw[←hq.1];exact hq.2.1)
    ·exact ih x hx
 exact all r x hx
theorem y7u{kvs:List (List Key × V)}(ok:HOk P w H h)(e:H a=some (.dT kvs)):kvs.length≤sizeLine∧(a==sysModules)=false∧
 ∃xs,KT H kvs xs∧h.DictOfH (tupleKind (Yaf P w)) a xs:=Ytg ok (.inl e)
end
def DGet(H:Hp)(a:Addr)(y:V)(r:Option V):Prop:=
 (∃kvs k,Rd H a (.dK kvs)∧y=kV k∧r=valV kvs k)∨∃kvs k b,Rd H a (.dT kvs)∧y=.ref b∧H b=some (.tup (k.map kV))∧r=valV kvs k
def DPut(H:Hp)(a:Addr)(y v:V)(H':Hp):Prop:=
 (∃kvs k,H a=some (.dK kvs)∧y=kV k∧kvs.length < sizeLine∧H'=upd H a (.dK (putK kvs k v)))∨
 ∃kvs k b,H a=some (.dT kvs)∧y=.ref b∧H b=some (.tup (k.map kV))∧kvs.length < sizeLine∧H'=upd H a (.dT (putK kvs k v))
theorem DGet.k{H:Hp}{a:Addr}{kvs:List (Key × V)}{k:Key}(e:H a=some (.dK kvs)):DGet H a (kV k) (valV kvs k):=.inl ⟨kvs,k,.inl e,rfl,rfl⟩
theorem DPut.k{H:Hp}{a:Addr}{kvs:List (Key × V)}{k:Key}{v:V}(e:H a=some (.dK kvs))(hl:kvs.length < sizeLine):DPut H a (kV k) v (upd H a (.dK (putK kvs k v))):=.inl ⟨kvs,k,e,rfl,hl,rfl⟩
section
variable {X:Cx} {pins:List (Addr × Obj)} {σ:St} {H:Hp} {s:Shared} {a:Addr} {y v:V} {u r:Value} {o:Option V} {A:Around} {E:Value→Shared→Prop}
theorem Inv.big(I:Inv X pins σ H s):sysModules < s.heap.objs.size:=by
 have h:mainGlobals < s.heap.objs.size:=(I.mod.glob.keeps I.bk).lt
 exact Nat.lt_trans (by decide) h
theorem Yu1{Q:Value→Shared→Prop}(hu:A.units+1 < cLine)(I:Inv X pins σ H s)(g:DGet H a y (some v))(ry:RelV y u)(h:∀w' s',Inv X pins σ H s'→RelV v w'→Q w' s') :
 wpAny (model X.prog X.w) A (getItem (.ref a) u) Q E s:=by
 rcases g with⟨kvs,k,e,ey,l⟩ | ⟨kvs,k,b,e,ey,eb,l⟩
 ·subst ey
  obtain⟨z,hd,vs,rel,dd⟩:=Yqj I.hok e
  obtain⟨w',hw,rw'⟩:=RelO.some_of (v:=v) (o:=valueAt vs k) (by rw[l];exact rel.val k)
  exact wpAny_getItem_of (Ytf ry) dd.mapOf hw (h w' _ (I.tok _) rw')
 ·subst ey
  cases (show u=Value.ref b from ry)
  obtain⟨z,hd,xs,rel,dd⟩:=Ytg I.hok e
  obtain⟨w',hw,rw'⟩:=RelO.some_of (v:=v) (o:=(atKey xs k).map (·.2)) (by rw[l];exact rel.val k)
  obtain⟨p,hp,hp2⟩:=qc hw
  refine wpAny_getItem_heap (tupleKind_room_in1 hu) (Yoc I.hok eb) dd hp ?_
  rw[hp2]
  exact h w' _ (I.tok _) rw'
theorem d_in{Q:Value→Shared→Prop}(hu:A.units+1 < cLine)(I:Inv X pins σ H s)(g:DGet H a y o)(ry:RelV y u)(h:∀s',Inv X pins σ H s'→Q (.bool o.isSome) s') :
 wpAny (model X.prog X.w) A (compareOp .In u (.ref a)) Q E s:=by
 rcases g with⟨kvs,k,e,ey,l⟩ | ⟨kvs,k,b,e,ey,eb,l⟩
 ·subst ey
  obtain⟨z,hd,vs,rel,dd⟩:=Yqj I.hok e
  refine wpAny_in_of (Ytf ry) hd dd.mapOf ?_
  rw[←(rel.val k).isSome_eq,←l]
  exact h _ (I.tok _)
 ·subst ey
  cases (show u=Value.ref b from ry)
  obtain⟨z,hd,xs,rel,dd⟩:=Ytg I.hok e
  refine wpAny_in_heap (tupleKind_room_in1 hu) (Yoc I.hok eb) hd dd ?_
  have q:=(rel.val k).isSome_eq
  rw[Option.isSome_map]at q
  rw[←q,←l]
  exact h _ (I.tok _)
theorem Yu2{h':Heap}{t':Nat}{ob:HO}(I:Inv X pins σ H s)(mu:Mut (H a))(hs:Heap.SameBut a s.heap h')(he:∃q,h'.get? a=some q)(new:ObjOk X.prog X.w (upd H a ob) h' a ob) :
 Inv X pins σ (upd H a ob) { s with heap:=h',toks:=t' }:=
 I.write (x:=a) (e:=a) mu (.inl rfl) (fun b q hb z=>(hs.2 b hb).trans z) he new
theorem Yz3{P:Program}{w:World}{H':Hp}{h':Heap}{kvs:List (Key × V)}{vs:List (Key × Value)}(z:kvs.length≤sizeLine)(hd:(a==sysModules)=false)(rel:KV kvs vs)(dd:h'.DictOf (Yaf P w) a vs) :
 ObjOk P w H' h' a (.dK kvs):=⟨z,hd,vs,rel,dd⟩
theorem Yu3{H':Hp}{Q:Unit→Shared→Prop}(hu:A.units+1 < cLine)(I:Inv X pins σ H s)(g:DPut H a y v H')(ry:RelV y u)(rv:RelV v r)(h:∀s',Inv X pins σ H' s'→Q () s') :
 wpAny (model X.prog X.w) A (setItem (.ref a) u r) Q E s:=by
 rcases g with⟨kvs,k,e,ey,l,eH⟩ | ⟨kvs,k,b,e,ey,eb,l,eH⟩
 ·subst ey eH
  obtain⟨z,hd,vs,rel,dd⟩:=y4h I.hok e
  have hz:vs.length≤sizeLine:=by rw[←rel.length];exact z
  have hl:(putK kvs k v).length≤sizeLine:=by have:=Yf8 kvs k v;lia
  refine wpAny_setItem_pairs (hsz:=hz) (Ytf ry) dd fun h' dd' hs=>h _ ?_
  have he:∃q,h'.get? a=some q:=let ⟨q,_,_,hq,_⟩:=dd';⟨q,hq⟩
  exact Yu2 I (by rw[e];exact True.intro) hs he (Yz3 hl hd (rel.put k rv) dd')
 ·subst ey eH
  cases (show u=Value.ref b from ry)
  obtain⟨z,hd,xs,rel,dd⟩:=y7u I.hok e
  have hz:xs.length≤sizeLine:=by rw[←Paired.length rel];exact z
  have hl:(putK kvs k v).length≤sizeLine:=by have:=Yf8 kvs k v;lia
  refine wpAny_setItem_heap (hsz:=hz) (tupleKind_room_in1 hu) (Yoc I.hok eb) dd fun h' dd' hs=>h _ ?_
  obtain⟨q,es,ep,hq,h2,h3,h4,_,h5⟩:=dd'
  refine Yu2 I (by rw[e];exact True.intro) hs ⟨q,hq⟩ ⟨hl,hd,_,(rel.put k eb rv).keeps fun c ys ec=>?_,q,es,ep,hq,h2,h3,h4,h5⟩
  rw[Yz (y7d ec e (fun z=>nomatch z))]
  exact ec
end
theorem Yqk{X:Cx}{pins:List (Addr × Obj)}{σ:St}{H:Hp}{s:Shared}{a:Addr}{y:V}{o:Option V}(I:Inv X pins σ H s)(g:DGet H a y o):s.TypeIs (.ref a) "dict":=by
 rcases g with⟨kvs,k,e,_,_⟩ | ⟨kvs,k,b,e,_,_,_⟩
 ·obtain⟨_,_,vs,_,dd⟩:=Yqj I.hok e
  exact dd.typeIs
 ·obtain⟨_,_,xs,_,dd⟩:=Ytg I.hok e
  exact dd.typeIs
theorem Yx8{P:Program}{w:World}{H:Hp}(h:Heap)(hb:sysModules < h.objs.size):ObjOk P w H (h.push { cls:=.type "dict",data:=.dict #[] }) h.objs.size (.dK []):=
 ⟨Nat.zero_le _,beq_eq_false_iff_ne.mpr (Ne.symm (qm hb)),[],.nil,Heap.DictOf.new h⟩
noncomputable def y4i:TE:=fun _ H Q=>∀p,H p=none→Q (.ref p) (upd H p (.dK []))
section
variable {X:Cx} {pos:Pos}
theorem Yx9:PE X (.Dict [] [] pos) y4i:=fun pins s σ H Q I h=>
 wpAny_Dict_empty ⟨.ref s.heap.objs.size,_,I.laid (a:=s.heap.objs.size) (o:=.dK []) (t':=s.toks) (fun _ _ q=>qe _ q) (qu _) (Yx8 s.heap I.big),rfl,h _ (I.hok.fresh (qu _))⟩
end
noncomputable def Yz4:List (TE × TE)→St→Hp→(List (V × V)→Hp→Prop)→Prop
 | [],_,H,Q=>Q [] H
 | (tk,tv)::r,σ,H,Q=>tk σ H fun x H1=>tv σ H1 fun y H2=>Yz4 r σ H2 fun ps H3=>Q ((x,y)::ps) H3
noncomputable abbrev VV:List (V × V)→List (Value × Value)→Prop:=Paired fun p q=>RelV p.1 q.1∧RelV p.2 q.2
def PPs(X:Cx)(pos:Pos)(keys:List (Option Expr))(values:List Expr)(trs:List (TE × TE)):Prop:=
 ∀(pins:List (Addr × Obj)) (s:Shared) (σ:St) (H:Hp) (Q:List (V × V)→Hp→Prop),Inv X pins σ H s→Yz4 trs σ H Q→
  wpAny (model X.prog X.w) X.A (evalPairs (pairTrees keys values X.env pos)) (fun vs s'=>∃ps H',Inv X pins σ H' s'∧VV ps vs∧Q ps H') X.xe s
structure M1(X:Cx)(o:Expr)(m:Str)(apos:Pos)(e:Expr)(cpos:Pos):Prop where
 base:attributeBase o m X.env (eval o X.env)=eval o X.env
 few:((backTo cpos (starEach [e] X.env)).all (fun x=>!x.1)&&(backToKw cpos (keywordEach [] X.env)).all (fun x=>x.1.isSome)
  &&decide (([e]:List Expr).length+([]:List Keyword).length+(if ([]:List Keyword).isEmpty then 0 else 1) < 30))=true
 line:(apos.endLine==cpos.line)=true
 trees:backTo cpos (starEach [e] X.env)=[(false,eval e X.env)]
structure M2(X:Cx)(o:Expr)(m:Str)(apos:Pos)(e f:Expr)(cpos:Pos):Prop where
 base:attributeBase o m X.env (eval o X.env)=eval o X.env
 few:((backTo cpos (starEach [e,f] X.env)).all (fun x=>!x.1)&&(backToKw cpos (keywordEach [] X.env)).all (fun x=>x.1.isSome)
  &&decide (([e,f]:List Expr).length+([]:List Keyword).length+(if ([]:List Keyword).isEmpty then 0 else 1) < 30))=true
 line:(apos.endLine==cpos.line)=true
 trees:backTo cpos (starEach [e,f] X.env)=[(false,eval e X.env),(false,eval f X.env)]
def IsD(H:Hp)(a:Addr):Prop:=(∃kvs,Rd H a (.dK kvs))∨∃kvs,Rd H a (.dT kvs)
theorem y4j{X:Cx}{pins:List (Addr × Obj)}{σ:St}{H:Hp}{s:Shared}{a:Addr}(I:Inv X pins σ H s)(d:IsD H a) :
 s.TypeIs (.ref a) "dict"∧(∀b,Value.ref a=.ref b→∃ob,s.heap.get? b=some ob∧ob.dict=none)∧(a==sysModules)=false:=by
 rcases d with⟨kvs,e⟩ | ⟨kvs,e⟩
 ·obtain⟨_,hd,vs,_,dd⟩:=Yqj I.hok e
  refine⟨dd.typeIs,fun b q=>?_,hd⟩
  cases q
  obtain⟨ob,_,_,h1,h2,_⟩:=dd
  exact⟨ob,h1,h2.2.1⟩
 ·obtain⟨_,hd,xs,_,dd⟩:=Ytg I.hok e
  refine⟨dd.typeIs,fun b q=>?_,hd⟩
  cases q
  obtain⟨ob,_,_,h1,h2,_⟩:=dd
  exact⟨ob,h1,h2.2.1⟩
section
variable {X:Cx} {pins:List (Addr × Obj)} {σ:St} {H:Hp} {s:Shared} {a:Addr} {y d:V} {u r:Value} {o:Option V} {A:Around} {E:Value→Shared→Prop}
theorem y4k{Q:Value→Shared→Prop}(hu:A.units+1 < cLine)(I:Inv X pins σ H s)(g:DGet H a y o)(ry:RelV y u)(rd:RelV d r)(h:∀w' s',Inv X pins σ H s'→RelV (o.getD d) w'→Q w' s') :
 wpAny (model X.prog X.w) A (call (.builtin "dict.get") [.ref a,u,r]) Q E s:=by
 rcases g with⟨kvs,k,e,ey,l⟩ | ⟨kvs,k,b,e,ey,eb,l⟩
 ·subst ey
  obtain⟨z,hd,vs,rel,dd⟩:=Yqj I.hok e
  refine call_meetsIn PySem.F.slot_dict_get dd.typeIs PySem.F.entry_dict_get (PySem.F.args_dict_get_3 _ _ _) (meets_dict_get_default (Yaf X.prog X.w) a (Ytf ry) hd r) ⟨_,dd.mapOf,h _ _ (I.tok _) ?_⟩
  rw[l]
  exact(rel.val k).getD rd
 ·subst ey
  cases (show u=Value.ref b from ry)
  obtain⟨z,hd,xs,rel,dd⟩:=Ytg I.hok e
  refine call_meetsIn PySem.F.slot_dict_get dd.typeIs PySem.F.entry_dict_get (PySem.F.args_dict_get_3 _ _ _) (meetsH_dict_get_default (tupleKind (Yaf X.prog X.w)) a b hd r) ⟨tupleKind_room_in1 hu,k,xs,Yoc I.hok eb,dd,h _ _ (I.tok _) ?_⟩
  rw[l]
  exact(rel.val k).getD rd
end
noncomputable def y4l(td ty tx:TE):TE:=fun σ H Q=>td σ H fun x H1=>∃a,x=.ref a∧IsD H1 a∧ty σ H1 fun y H2=>tx σ H2 fun z H3=>∃o,DGet H3 a y o∧Q (o.getD z) H3
section
variable {X:Cx} {o e f:Expr} {apos cpos:Pos} {td ty tx:TE}
theorem Yya(hu:X.A.units+1 < cLine)(ho:PE X o td)(he:PE X e ty)(hf:PE X f tx)(m:M2 X o "get" apos e f cpos):PE X (.Call (.Attribute o "get" apos) [e,f] [] cpos) (y4l td ty tx):=by
 intro pins s σ H Q I h
 refine wpAny_Call_method m.base m.few m.line PySem.F.plainAttrs_dict PySem.F.slot_dict_get PySem.F.type_dict_get (thn (ho pins s σ H _ I h) fun u s1 hx_=>?_)
 obtain⟨x,H1,I1,rx,a,ex,d,q1⟩:=hx_
 subst ex
 obtain rfl:u=Value.ref a:=rx
 obtain⟨t1,t2,_⟩:=y4j I1 d
 refine⟨t1,t2,?_⟩
 rw[m.trees]
 refine Calls.callWith_builtin rfl (Calls.evalArgs_plain (Calls.spliced_cons (thn (he pins s1 σ H1 _ I1 q1) fun iv s2 hx_=>?_)))
 obtain⟨y,H2,I2,ry,q2⟩:=hx_
 refine Calls.spliced_cons (thn (hf pins s2 σ H2 _ I2 q2) fun fv s3 hx_=>?_)
 obtain⟨z,H3,I3,rz,ov,g,q3⟩:=hx_
 refine Calls.spliced_nil ?_
 exact y4k hu I3 g ry rz fun w' s4 I4 rw'=>⟨_,H3,I4,rw',q3⟩
end
end L2
namespace HT
open PySem PyProof.Rows
section
variable {prog:Program} {w:World} {A:Around} {E:Value→Shared→Prop} {s:Shared}
theorem cat_tup{t b:Addr}{vs ws:List Value}{Q:Value→Shared→Prop}(ht:IsTup s.heap t vs.toArray)(hb:IsTup s.heap b ws.toArray)(hv:vs≠[])
 (h1:ws=[]→Q (.ref t) s) (h2:ws≠[]→Q (.ref s.heap.objs.size) { s with heap:=s.heap.push { cls:=.type "tuple",data:=.seq (vs++ws).toArray } })
 (hsz:vs.length+ws.length≤sizeLine):wpAny (model prog w) A (binaryOp .Add (.ref t) (.ref b)) Q E s:=by
 obtain⟨⟨cls,dd,data,sl⟩,ho,hc,n,hd⟩:=id ht
 obtain⟨⟨cls2,dd2,data2,sl2⟩,ho2,hc2,n2,hd2⟩:=id hb
 simp only at hc hd hc2 hd2
 subst hc hd hc2 hd2
 have e:vs.toArray++ws.toArray=(vs++ws).toArray:=by simp
 by_cases hw:ws=[]
 ·exact concat_meets ⟨_,ho,rfl⟩ ⟨_,ho2,rfl⟩ noFill_tuple_add seq_tuple_add PySem.F.slot_tuple_add PySem.F.entry_tuple_add (PySem.F.args_tuple_add_2 _ _)
   (tuple_addW1 t b vs.toArray ws.toArray n n2 dd dd2 sl sl2 (by simpa using hv) (by simp[hw])) ⟨ho,ho2,h1 hw⟩
 ·refine concat_meets ⟨_,ho,rfl⟩ ⟨_,ho2,rfl⟩ noFill_tuple_add seq_tuple_add PySem.F.slot_tuple_add PySem.F.entry_tuple_add (PySem.F.args_tuple_add_2 _ _)
   (tuple_addW2 t b vs.toArray ws.toArray n n2 dd dd2 sl sl2 (by simpa using hv) (by simpa using hw) (by rw[qk,qk];exact hsz)) ⟨ho,ho2,?_⟩
  rw[e]
  exact h2 hw
noncomputable def sIx(n d:Nat):Option Int→Nat
 | none=>d
 | some v=>if v < 0 then (v+(n:Int)).toNat else min v.toNat n
theorem sIx_none(n d:Nat):sIx n d none=d:=rfl
theorem sIx_nat(n d k:Nat):sIx n d (some (k:Int))=min k n:=by
 show(if (k:Int) < 0 then ((k:Int)+(n:Int)).toNat else min (k:Int).toNat n)=min k n
 rw[if_neg (by lia),Int.toNat_natCast]
theorem y4m(n d:Nat)(hd:d≤n)(o:Option Int):sIx n d o≤n:=by
 cases o with
 | none=>exact hd
 | some v=>
   show(if v < 0 then (v+(n:Int)).toNat else min v.toNat n)≤n
   by_cases hv:v < 0
   ·rw[if_pos hv];lia
   ·rw[if_neg hv];exact Nat.min_le_right _ _
theorem Yu4(v:Int)(n d:Nat):(if v < 0 then max (v+(n:Int)) 0 else min v (n:Int))=((sIx n d (some v):Nat):Int):=by
 show(if v < 0 then max (v+(n:Int)) 0 else min v (n:Int))=(((if v < 0 then (v+(n:Int)).toNat else min v.toNat n):Nat):Int)
 by_cases hv:v < 0
 ·simp only[if_pos hv];lia
 ·simp only[if_neg hv];lia
theorem Yth(lo hi:Option Int)(n:Nat):Builtin.Slice.sliceAdjust lo hi 1 (n:Int)=(((sIx n 0 lo:Nat):Int),((sIx n n hi:Nat):Int)):=by
 have h1:¬((1:Int) < 0):=by lia
 unfold Builtin.Slice.sliceAdjust
 simp only[h1,if_false]
 refine Prod.ext ?_ ?_
 ·cases lo with
  | none=>rfl
  | some v=>exact Yu4 v n 0
 ·cases hi with
  | none=>rfl
  | some v=>exact Yu4 v n n
theorem Yti(i j:Nat):Builtin.Slice.slicePlaces (i:Int) (j:Int) 1=j - i:=by
 unfold Builtin.Slice.slicePlaces
 have h1:(1:Int) > 0:=by lia
 simp only[h1,if_true,Int.ediv_one]
 split<;>lia
theorem Ylq{v:Value}{o:Option Int}{Q:Option Int→Shared→Prop}(p:IsPart v o)(h:Q o s):wpAny (model prog w) A (Builtin.Slice.slicePartIndex v) Q E s:=by
 cases p with
 | none=>exact slicePart_none h
 | int i t=>exact slicePart_int h
theorem sliceApplied_gen{sl:Addr}{vl vu:Value}{lo hi:Option Int}{n:Nat}{Q:Int × Int × Nat→Shared→Prop}(hs:s.heap.IsSliceOf sl vl vu .none)(pl:IsPart vl lo)(pu:IsPart vu hi)
 (h:Q (((sIx n 0 lo:Nat):Int),1,sIx n n hi - sIx n 0 lo) s):wpAny (model prog w) A (Builtin.Slice.sliceApplied (.ref sl) (pure (n:Int))) Q E s:=by
 obtain⟨os,hos,hcs,hds⟩:=id hs
 unfold Builtin.Slice.sliceApplied Builtin.Slice.sliceFields
 refine wpAny_bind (wpAny_bind (wpAny_field hos hds (x:=vl) rfl (wpAny_bind (wpAny_field hos hds (x:=vu) rfl (wpAny_bind (wpAny_field hos hds (x:=.none) rfl (wpAny_pure ?_)))))))
 refine wpAny_bind (slicePart_none ?_)
 show wpAny _ _ (if ((1:Int)==0)=true then _ else _) _ _ s
 rw[if_neg (by decide)]
 refine wpAny_bind (Ylq pl (wpAny_bind (Ylq pu (wpAny_bind (wpAny_pure ?_)))))
 show wpAny _ _ (match Builtin.Slice.sliceAdjust lo hi 1 (n:Int)with | (lo,hi)=>pure (lo,(1:Int),Builtin.Slice.slicePlaces lo hi 1)) _ _ s
 rw[Yth lo hi n]
 show wpAny _ _ (pure (((sIx n 0 lo:Nat):Int),(1:Int),Builtin.Slice.slicePlaces ((sIx n 0 lo:Nat):Int) ((sIx n n hi:Nat):Int) 1)) _ _ s
 rw[Yti]
 exact wpAny_pure h
theorem Yyb(xs:Array Value)(i k:Nat):((List.range k).filterMap fun(m:Nat)=>xs[((i:Int)+(m:Int) * 1).toNat]?).toArray=((xs.toList.drop i).take k).toArray:=by
 have e:(fun(m:Nat)=>xs[((i:Int)+(m:Int) * 1).toNat]?)=fun m=>xs[i+m]?:=by
  funext m
  have:((i:Int)+(m:Int) * 1).toNat=i+m:=by lia
  rw[this]
 rw[e]
 have:=pick_run xs i k
 rw[List.filterMap_map]at this
 have e2:((fun x=>xs[x]?) ∘ fun x=>i+x)=fun m=>xs[i+m]?:=rfl
 rw[e2]at this
 rw[this]
theorem getItem_tuple_cut{t sl:Addr}{items:Array Value}{vl vu:Value}{lo hi:Option Int}{Q:Value→Shared→Prop}(ht:IsTup s.heap t items)(hs:s.heap.IsSliceOf sl vl vu .none)(pl:IsPart vl lo)(pu:IsPart vu hi)
 (hw:¬(sIx items.size 0 lo=0∧sIx items.size items.size hi=items.size))
 (h:Q (.ref s.heap.objs.size) { s with heap:=s.heap.push { cls:=.type "tuple",data:=.seq ((items.toList.drop (sIx items.size 0 lo)).take (sIx items.size items.size hi - sIx items.size 0 lo)).toArray } })
 (hsz:items.size≤sizeLine):wpAny (model prog w) A (getItem (.ref t) (.ref sl)) Q E s:=by
 have htake:sizeOk (.seq ((items.toList.drop (sIx items.size 0 lo)).take (sIx items.size items.size hi - sIx items.size 0 lo)).toArray):=by
  show((items.toList.drop (sIx items.size 0 lo)).take (sIx items.size items.size hi - sIx items.size 0 lo)).toArray.size≤sizeLine
  rw[qk,List.length_take,List.length_drop,qj]
  lia
 have hj:sIx items.size items.size hi≤items.size:=y4m _ _ (qu _) hi
 obtain⟨os,hos,hcs,hds⟩:=id hs
 have hTs:s.TypeIs (.ref sl) "slice":=⟨os,hos,hcs⟩
 unfold getItem
 try with_reducible refine wpAny_holding ?_
 first | refine wpAny_bind (wpAny_pure ?_) | skip
 refine wpAny_bind (wpAny_sequenceKey ht.typeIs (by decide) ?_)
 refine wpAny_bind (wpAny_callSpecial?_slot (name:=Str.ofString "__getitem__") ht.typeIs PyProof.Rows.slot_tuple_getitem
  (wpAny_call_entry PyProof.Rows.slot_tuple_getitem ht.typeIs entry_tuple_getitem ?_ (args_tuple_getitem _ _)))
 show wpAny _ _ (Builtin.Tuple.tupleItemsOf (.ref t) >>= _) _ _ s
 refine wpAny_bind (tupleItemsOf_ ht ?_)
 refine wpAny_bind (wpAny_typeOf hTs ?_)
 rw[if_pos (by decide)]
 refine wpAny_bind (sliceApplied_gen hs pl pu ?_)
 have hno:¬((((sIx items.size 0 lo:Nat):Int)==0&&(1:Int)==1&&(sIx items.size items.size hi - sIx items.size 0 lo)==items.size)=true):=by
  intro q
  rw[Qe,Qe]at q
  have q1:((sIx items.size 0 lo:Nat):Int)=0:=eq_of_beq q.1.1
  have q2:sIx items.size items.size hi - sIx items.size 0 lo=items.size:=eq_of_beq q.2
  exact hw ⟨by lia,by lia⟩
 show wpAny _ _ (if (((sIx items.size 0 lo:Nat):Int)==0&&(1:Int)==1&&(sIx items.size items.size hi - sIx items.size 0 lo)==items.size)=true then _ else _) _ _ s
 rw[if_neg hno,Yyb]
 first
  | exact wpAny_bind (m:=Builtin.Tuple.tupleExact _) (wpAny_newObj_type (wpAny_pure ⟨_,rfl,wpAny_pure h⟩) htake)
  | exact wpAny_bind (m:=Builtin.Tuple.tupleExact _) (wpAny_newObj_type (wpAny_bind (wpAny_pure (wpAny_pure ⟨_,rfl,wpAny_pure h⟩))) htake)
  | exact wpAny_bind (wpAny_bind (m:=Builtin.Tuple.tupleExact _) (wpAny_newObj_type (wpAny_pure (wpAny_pure ⟨_,rfl,wpAny_pure h⟩)) htake))
  | exact wpAny_bind (wpAny_bind (m:=Builtin.Tuple.tupleExact _) (wpAny_newObj_type (wpAny_pure ⟨_,rfl,wpAny_pure h⟩) htake))
end
end HT
namespace L2
open PySem PySem.Spec PyProof.Rows
noncomputable abbrev TO:=St→Hp→(Option Int→Hp→Prop)→Prop
def PO(X:Cx)(e:Option Expr)(t:TO):Prop:=
 ∀(pins:List (Addr × Obj)) (s:Shared) (σ:St) (H:Hp) (Q:Option Int→Hp→Prop),Inv X pins σ H s→t σ H Q→
  wpAny (model X.prog X.w) X.A (evalPart e X.env) (fun u s'=>∃o H',Inv X pins σ H' s'∧IsPart u o∧Q o H') X.xe s
noncomputable def Yu5:TO:=fun _ H Q=>Q none H
noncomputable def y4n(t:TE):TO:=fun σ H Q=>t σ H fun x H1=>∃i,x=.int i∧Q (some i) H1
theorem Yfo{ns:List Int}:∀{us:List Value},Vals (ns.map V.int) us→IntsAre us ns:=by
 induction ns with
 | nil=>intro us r;rw[List.map_nil]at r;cases r;exact .nil
 | cons n ns ih=>
   intro us r
   rw[Qd]at r
   cases r with
   | cons r1 r2=>
     obtain⟨t,e⟩:=r1
     subst e
     exact .cons n t (ih r2)
section
variable {X:Cx} {e:Expr} {te:TE} {lo hi:Option Expr} {tl th:TO} {pos p2:Pos}
theorem y1b:PO X none Yu5:=by
 intro pins s σ H Q I h
 rw[evalPart_none]
 exact wpAny_pure ⟨none,H,I,.none,h⟩
theorem y1c(h:PE X e te):PO X (some e) (y4n te):=by
 intro pins s σ H Q I hw
 rw[evalPart_some]
 refine thn (h pins s σ H _ I hw) fun u s1 hx_=>?_
 obtain⟨x,H1,I1,r1,q1⟩:=hx_
 obtain⟨i,rfl,q⟩:=q1
 obtain⟨t,rfl⟩:=r1
 exact⟨some i,H1,I1,.int i t,q⟩
def SlR(X:Cx)(r:V→Option Int→Option Int→Hp→VK→Prop):Prop:=
 ∀(pins:List (Addr × Obj)) (s:Shared) (σ:St) (H:Hp) (x:V) (v vl vu:Value) (lo hi:Option Int) (sl:Addr) (Q:VK),Inv X pins σ H s→RelV x v→s.heap.IsSliceOf sl vl vu .none→IsPart vl lo→IsPart vu hi→r x lo hi H Q→
  ∃T id,typeLookup (.type T) "__getitem__"=pure (some (.builtin id))∧s.TypeIs v T∧wpAny (model X.prog X.w) X.A (getItem v (.ref sl)) (EP X pins σ Q) X.xe s
theorem SlR.or{r r':V→Option Int→Option Int→Hp→VK→Prop}(h:SlR X r)(h':SlR X r'):SlR X (fun x lo hi H Q=>r x lo hi H Q∨r' x lo hi H Q):=by
 intro pins s σ H x v vl vu lo hi sl Q I rx hs pl pu q
 rcases q with q | q
 ·exact h pins s σ H x v vl vu lo hi sl Q I rx hs pl pu q
 ·exact h' pins s σ H x v vl vu lo hi sl Q I rx hs pl pu q
noncomputable def tSl(r:V→Option Int→Option Int→Hp→VK→Prop)(te:TE)(tl th:TO):TE:=fun σ H Q=>te σ H fun x H1=>tl σ H1 fun l H2=>th σ H2 fun u H3=>r x l u H3 Q
theorem Ysd{r:V→Option Int→Option Int→Hp→VK→Prop}(hr:SlR X r)(he:PE X e te)(hl:PO X lo tl)(hu:PO X hi th):PE X (.Subscript e (.Slice lo hi none p2) pos) (tSl r te tl th):=by
 intro pins s σ H Q I h
 refine Subscript_ (thn (he pins s σ H _ I h) fun v s1 hx_=>?_)
 obtain⟨x,H1,I1,r1,q1⟩:=hx_
 refine wpAny_Slice (thn (hl pins s1 σ H1 _ I1 q1) fun vl s2 hx_=>?_)
 obtain⟨l,H2,I2,pl,q2⟩:=hx_
 refine thn (hu pins s2 σ H2 _ I2 q2) fun vu s3 hx_=>?_
 obtain⟨u,H3,I3,pu,q3⟩:=hx_
 rw[evalPart_none]
 refine wpAny_pure ?_
 have I4:Inv X pins σ H3 { s3 with heap:=s3.heap.push { cls:=.type "slice",data:=.fields #[vl,vu,.none] } }:=I3.kept (t':=s3.toks) fun b ob q=>qe _ q
 obtain⟨T,id,hT,ht,hg⟩:=hr pins { s3 with heap:=s3.heap.push { cls:=.type "slice",data:=.fields #[vl,vu,.none] } } σ H3 x v vl vu l u s3.heap.objs.size Q I4 r1 (Heap.IsSliceOf.new ..) pl pu q3
 show wpAny (model X.prog X.w) X.A (subscriptTail e (.Slice lo hi none p2) v (.ref s3.heap.objs.size)) (EP X pins σ Q) X.xe { s3 with heap:=s3.heap.push { cls:=.type "slice",data:=.fields #[vl,vu,.none] } }
 exact tail_any (ops:=[.ref s3.heap.objs.size,v]) ht hT hg (by with_unfolding_all rfl)
noncomputable def cutV(xs:List V)(lo hi:Option Int):List V:=(xs.drop (HT.sIx xs.length 0 lo)).take (HT.sIx xs.length xs.length hi - HT.sIx xs.length 0 lo)
theorem Yjc(xs:List V)(lo hi:Option Int):(cutV xs lo hi).length≤xs.length:=by
 unfold cutV
 rw[List.length_take,List.length_drop]
 lia
noncomputable def rSlT(K:W.Frag):V→Option Int→Option Int→Hp→VK→Prop:=fun x lo hi H Q=>∃a xs,x=.ref a∧SqT K H a xs∧
 ¬(HT.sIx xs.length 0 lo=0∧HT.sIx xs.length xs.length hi=xs.length)∧∀p,H p=none→Q (.ref p) (upd H p (.tup (cutV xs lo hi)))
theorem y4o:SlR X (rSlT X.K):=by
 intro pins s σ H x v vl vu lo hi sl Q I rx hs pl pu h
 obtain⟨a,xs,rfl,hx,hw,q⟩:=h
 cases rx
 obtain⟨its,r,ht,hz⟩:=I.tuple hx
 have hlen:its.toArray.size=xs.length:=by rw[qk];exact r.length.symm
 refine⟨"tuple",_,PyProof.Rows.slot_tuple_getitem.lookup,ht.typeIs,?_⟩
 refine HT.getItem_tuple_cut ht hs pl pu (by rw[hlen];exact hw) ?_ (by rw[hlen];exact hz)
 rw[hlen]
 refine⟨.ref s.heap.objs.size,_,I.laid (t':=s.toks) (o:=.tup (cutV xs lo hi)) (fun b ob q=>qe _ q) (qu _) ?_,rfl,q _ (I.hok.fresh (qu _))⟩
 exact⟨Nat.le_trans (Yjc xs lo hi) hz,_,(r.drop (HT.sIx xs.length 0 lo)).take (HT.sIx xs.length xs.length hi - HT.sIx xs.length 0 lo),IsTup.new _ _⟩
noncomputable def y7v(K:W.Frag):R2:=fun x y H Q=>∃a b xs ys,x=.ref a∧y=.ref b∧SqT K H a xs∧SqT K H b ys∧xs≠[]∧xs.length+ys.length≤sizeLine∧
 (ys=[]→Q (.ref a) H)∧(ys≠[]→∀p,H p=none→Q (.ref p) (upd H p (.tup (xs++ys))))
theorem Vals.nil_iff{xs:List V}{us:List Value}(r:Vals xs us):us=[]↔xs=[]:=by
 cases r with
 | nil=>simp
 | cons _ _=>simp
theorem y1d:OpR X (binaryOp .Add) (y7v X.K):=by
 intro pins s σ H x y v u Q I rx ry h
 obtain⟨a,b,xs,ys,rfl,rfl,ha,hb,hx,hz,q1,q2⟩:=h
 cases rx
 cases ry
 obtain⟨its,r1,p1,_⟩:=I.tuple ha
 obtain⟨its2,r2,p2,_⟩:=I.tuple hb
 refine HT.cat_tup p1 p2 (fun z=>hx (r1.nil_iff.mp z)) (fun z=>⟨.ref a,H,I,rfl,q1 (r2.nil_iff.mp z)⟩) (fun z=>?_) (by rw[←r1.length,←r2.length];exact hz)
 refine⟨.ref s.heap.objs.size,_,I.laid (t':=s.toks) (o:=.tup (xs++ys)) (fun b ob q=>qe _ q) (qu _) ?_,rfl,q2 (fun w=>z (r2.nil_iff.mpr w)) _ (I.hok.fresh (qu _))⟩
 exact⟨by rw[qz];exact hz,_,r1.append r2,IsTup.new _ _⟩
end
end L2
namespace L2
open PySem PySem.Spec PyProof.Rows
noncomputable def ixN(n:Nat)(i:Int):Option Nat:=if 0≤i then (if i < n then some i.toNat else none)else if -(n:Int)≤i then some (i+n).toNat else none
noncomputable def atI{α:Type}(xs:List α)(i:Int):Option α:=(ixN xs.length i).bind fun j=>xs[j]?
theorem y1e{n:Nat}{i:Int}{j:Nat}(h:ixN n i=some j):seqIndex? i n=some j∧j < n∧-(n:Int)≤i∧i < n:=by
 unfold ixN at h
 by_cases h0:0≤i
 ·rw[if_pos h0]at h
  by_cases h1:i < n
  ·rw[if_pos h1]at h
   have e:i.toNat=j:=Option.some.inj h
   exact⟨by rw[seqIndex_of h0 h1,e],by lia,by lia,h1⟩
  ·rw[if_neg h1]at h;cases h
 ·rw[if_neg h0]at h
  by_cases h1:-(n:Int)≤i
  ·rw[if_pos h1]at h
   have e:(i+n).toNat=j:=Option.some.inj h
   exact⟨by rw[seqIndex_neg (by lia) h1,e],by lia,h1,by lia⟩
  ·rw[if_neg h1]at h;cases h
theorem Yql{α:Type}{xs:List α}{i:Int}{v:α}(h:atI xs i=some v):∃j,seqIndex? i xs.length=some j∧xs[j]?=some v∧j < xs.length∧-(xs.length:Int)≤i∧i < xs.length:=by
 unfold atI at h
 cases e:ixN xs.length i with
 | none=>rw[e]at h;cases h
 | some j=>
   rw[e]at h
   obtain⟨h1,h2,h3,h4⟩:=y1e e
   exact⟨j,h1,h,h2,h3,h4⟩
theorem Yl8{α:Type}{xs:List α}{j:Nat}{v:α}(h:xs[j]?=some v):atI xs (j:Int)=some v:=by
 have hj:j < xs.length:=(qo h).1
 have e:ixN xs.length (j:Int)=some j:=by
  unfold ixN
  rw[if_pos (by lia),if_pos (by lia)];simp
 unfold atI;rw[e];exact h
def Yey(b:Expr):Prop:=∀o i,subscripted b false o i=operate [o,i] (getItem o i)
def IxR(X:Cx)(r:R2):Prop:=
 ∀(value slice:Expr) (pins:List (Addr × Obj)) (s:Shared) (σ:St) (H:Hp) (x y:V) (v u:Value) (Q:VK),Inv X pins σ H s→RelV x v→RelV y u→r x y H Q→
  subscripted slice false v u=operate [v,u] (getItem v u)→wpAny (model X.prog X.w) X.A (subscriptTail value slice v u) (EP X pins σ Q) X.xe s
def MtR(X:Cx)(id:String)(r:V→List V→Hp→VK→Prop):Prop:=
 ∀(pins:List (Addr × Obj)) (s:Shared) (σ:St) (H:Hp) (x:V) (xs:List V) (v:Value) (us:List Value) (Q:VK),Inv X pins σ H s→RelV x v→Vals xs us→r x xs H Q→
  wpAny (model X.prog X.w) X.A (call (.builtin id) (v::us)) (EP X pins σ Q) X.xe s
section
variable {X:Cx} {a b:Expr} {ta tb:TE} {pos:Pos}
theorem IxR.or{r r':R2}(h:IxR X r)(h':IxR X r'):IxR X (fun x y H Q=>r x y H Q∨r' x y H Q):=by
 intro value slice pins s σ H x y v u Q I rx ry q hs
 rcases q with q | q
 ·exact h value slice pins s σ H x y v u Q I rx ry q hs
 ·exact h' value slice pins s σ H x y v u Q I rx ry q hs
theorem y7w{r:R2}(hr:IxR X r)(ha:PE X a ta)(hb:PE X b tb)(hs:Yey b):PE X (.Subscript a b pos) (tOp r ta tb):=by
 intro pins s σ H Q I h
 exact Subscript_ (binT ha hb I h fun v u s2 x y H2 I2 rx ry q=>hr a b pins s2 σ H2 x y v u Q I2 rx ry q (hs _ _))
noncomputable def rIxL(K:W.Frag):R2:=fun x y H Q=>∃p xs i v,x=.ref p∧y=.int i∧SqL K H p xs∧atI xs i=some v∧Q v H
noncomputable def rIxT(K:W.Frag):R2:=fun x y H Q=>∃p xs i v,x=.ref p∧y=.int i∧SqT K H p xs∧atI xs i=some v∧Q v H
noncomputable def rIxS:R2:=fun x y H Q=>∃z i c,x=.str z∧y=.int i∧z.length≤sizeLine∧atI z.cps.toList i=some c∧Q (.str ⟨#[c]⟩) H
theorem ix_list:IxR X (rIxL X.K):=by
 intro value slice pins s σ H x y v u Q I rx ry h hs
 obtain⟨p,xs,i,z,rfl,rfl,hq,he,q⟩:=h
 cases rx
 obtain⟨t,rfl⟩:=ry
 obtain⟨its,r,pl,hz⟩:=I.list hq
 obtain⟨j,h1,h2,h3,h4,h5⟩:=Yql he
 obtain⟨w,ew,rw'⟩:=r.get h2
 have hl:=r.length
 have hn:=Yn5
 have fin:EP X pins σ Q w s:=⟨z,H,I,rw',q⟩
 by_cases h0:0≤i
 ·have hj:i.toNat=j:=by
   rw[seqIndex_of h0 h5]at h1
   exact Option.some.inj h1
  exact item_listR pl.isList h0 (by lia) (by rw[hj];simpa using ew) fin hs
 ·have hj:(i+(its.toArray.size:Int)).toNat=j:=by
   rw[seqIndex_neg (by lia) h4]at h1
   rw[qk,←hl]
   exact Option.some.inj h1
  exact subscriptTail_builtinR (x:=w) pl.isList.typeIs slot_list_getitem.lookup
   (wpAny_getItem_list_neg (Q:=fun r s'=>r=w∧EP X pins σ Q r s') pl.isList (by lia) (by rw[qk]<;>lia) (by lia) (by rw[hj];simpa using ew) ⟨rfl,fin⟩) hs
theorem ix_tup:IxR X (rIxT X.K):=by
 intro value slice pins s σ H x y v u Q I rx ry h hs
 obtain⟨p,xs,i,z,rfl,rfl,hq,he,q⟩:=h
 cases rx
 obtain⟨t,rfl⟩:=ry
 obtain⟨its,r,pl,hz⟩:=I.tuple hq
 obtain⟨j,h1,h2,h3,h4,h5⟩:=Yql he
 obtain⟨w,ew,rw'⟩:=r.get h2
 have hl:=r.length
 have hn:=Yn5
 have fin:EP X pins σ Q w s:=⟨z,H,I,rw',q⟩
 exact subscriptTail_builtinR (x:=w) pl.typeIs slot_tuple_getitem.lookup
  (getItem_tuple (j:=j) (Q:=fun r s'=>r=w∧EP X pins σ Q r s') pl (by lia) (by lia) (by rw[qk,←hl];exact h1) (by simpa using ew) ⟨rfl,fin⟩) hs
theorem y4p:IxR X rIxS:=by
 intro value slice pins s σ H x y v u Q I rx ry h hs
 obtain⟨z,i,c,rfl,rfl,hz,he,q⟩:=h
 obtain⟨t,rfl⟩:=rx
 obtain⟨t',rfl⟩:=ry
 obtain⟨j,h1,h2,h3,h4,h5⟩:=Yql he
 have hl:z.cps.toList.length=z.length:=by simp[Str.length]
 rw[hl]at h1 h4 h5
 have hn:=Yn5
 exact tail_any (typeIs_str s z t) slot_str_getitem.lookup (getItem_str (c:=c) (by
  have e1:decide (i < -(2 ^ 63:Int))=false:=decide_eq_false (by lia)
  have e2:decide (i≥2 ^ 63)=false:=decide_eq_false (by lia)
  rw[e1,e2,Bool.or_false]) (by rw[h1];simpa using h2) ⟨.str ⟨#[c]⟩,H,I.tok _,⟨_,rfl⟩,q⟩) hs
noncomputable def rIx(K:W.Frag):R2:=fun x y H Q=>rIxL K x y H Q∨rIxT K x y H Q∨rIxS x y H Q
theorem y4q:IxR X (rIx X.K):=ix_list.or (ix_tup.or y4p)
theorem Yod(lo hi:Option Int)(n:Nat):(sliceBounds lo hi none n).1=((HT.sIx n 0 lo:Nat):Int)∧(sliceBounds lo hi none n).2.1=((HT.sIx n n hi:Nat):Int)∧(sliceBounds lo hi none n).2.2=1:=by
 refine⟨?_,?_,rfl⟩
 ·cases lo with
  | none=>simp[sliceBounds,HT.sIx]
  | some i=>
    simp only[sliceBounds,HT.sIx,Option.getD_none,show(1:Int) > 0 by decide,if_true]
    by_cases h:i < 0
    ·simp only[h,if_true]<;>lia
    ·simp only[h,if_false]<;>lia
 ·cases hi with
  | none=>simp[sliceBounds,HT.sIx]
  | some i=>
    simp only[sliceBounds,HT.sIx,Option.getD_none,show(1:Int) > 0 by decide,if_true]
    by_cases h:i < 0
    ·simp only[h,if_true]<;>lia
    ·simp only[h,if_false]<;>lia
theorem Yl9(its:List Value)(lo hi:Option Int):slicePick its.toArray lo hi none=((its.drop (HT.sIx its.length 0 lo)).take (HT.sIx its.length its.length hi - HT.sIx its.length 0 lo)).toArray:=by
 obtain⟨h1,h2,h3⟩:=Yod lo hi its.toArray.size
 unfold slicePick
 rw[h1,h2,h3]
 simp only[sliceRange_one,pick_run,qk]<;>rfl
noncomputable def rSlL(K:W.Frag):V→Option Int→Option Int→Hp→VK→Prop:=fun x lo hi H Q=>∃a xs,x=.ref a∧SqL K H a xs∧∀p,H p=none→Q (.ref p) (upd H p (.lst (cutV xs lo hi)))
theorem Yu6:SlR X (rSlL X.K):=by
 intro pins s σ H x v vl vu lo hi sl Q I rx hs pl pu h
 obtain⟨a,xs,rfl,hx,q⟩:=h
 cases rx
 obtain⟨its,r,ht,hz⟩:=I.list hx
 have hlen:=r.length
 refine⟨"list",_,slot_list_getitem.lookup,ht.isList.typeIs,?_⟩
 refine wpAny_getItem_list_slice ht.isList hs pl pu .none (by simp) ?_ (by rw[qk]<;>lia)
 rw[Yl9,←hlen]
 refine⟨.ref s.heap.objs.size,_,I.laid (t':=s.toks) (o:=.lst (cutV xs lo hi)) (fun b ob q=>qe _ q) (qu _) ?_,rfl,q _ (I.hok.fresh (qu _))⟩
 exact⟨Nat.le_trans (Yjc xs lo hi) hz,_,0,(r.drop (HT.sIx xs.length 0 lo)).take (HT.sIx xs.length xs.length hi - HT.sIx xs.length 0 lo),qp _ rfl⟩
theorem Ya1:Yc2 X (.builtin "len") (fun xs H Q=>∃p ys,xs=[.ref p]∧(SqL X.K H p ys∨SqT X.K H p ys)∧Q (.int ys.length) H):=by
 intro pins s σ H xs us Q I r h
 obtain⟨p,ys,rfl,hq,q⟩:=h
 obtain⟨u,rfl,rx⟩:=Yf7 r
 cases rx
 have hn:=Yn5
 rcases hq with hq | hq
 ·obtain⟨its,r',pl,hz⟩:=I.list hq
  have hlen:=r'.length
  exact Calls.call_len_list pl.isList (by simp only[qk]<;>lia) ⟨.int ys.length,H,I.tok _,⟨s.toks+1,by rw[qk,hlen]⟩,q⟩
 ·obtain⟨its,r',pl,hz⟩:=I.tuple hq
  have hlen:=r'.length
  exact len_tuple pl (by simp only[qk]<;>lia) ⟨.int ys.length,H,I.tok _,⟨s.toks+1,by rw[qk,hlen]⟩,q⟩
theorem Ycg:Yc2 X (.type "list") (fun xs H Q=>∃p ys,xs=[.ref p]∧(SqL X.K H p ys∨SqT X.K H p ys)∧∀l,H l=none→Q (.ref l) (upd H l (.lst ys))):=by
 intro pins s σ H xs us Q I r h
 obtain⟨p,ys,rfl,hq,q⟩:=h
 obtain⟨u,rfl,rx⟩:=Yf7 r
 cases rx
 have fin:∀(its:List Value),Vals ys its→ys.length≤sizeLine→∀(h':Heap) (c':Nat),(∀b o',s.heap.get? b=some o'→h'.get? b=some o')→
  h'.get? s.heap.objs.size=some { cls:=.type "list",dict:=none,data:=.seq its.toArray c',slots:=#[] }→EP X pins σ Q (.ref s.heap.objs.size) { s with heap:=h' }:=fun its r' hz h' c' kp e=>
  ⟨.ref s.heap.objs.size,_,I.laid (t':=s.toks) kp (qu _) (show ObjOk X.prog X.w _ h' _ (.lst ys) from⟨hz,its,c',r',e⟩),rfl,q _ (I.hok.fresh (qu _))⟩
 rcases hq with hq | hq
 ·obtain⟨its,r',pl,hz⟩:=I.list hq
  have hlen:=r'.length
  obtain⟨o,ho,hc,n,hd⟩:=pl.isList
  exact call_list_seq p (.inl rfl) ho hc hd (fun h' c' kp e=>fin its r' hz h' c' kp e) (by simp only[qk]<;>lia)
 ·obtain⟨its,r',pl,hz⟩:=I.tuple hq
  have hlen:=r'.length
  obtain⟨o,ho,hc,n,hd⟩:=pl
  exact call_list_seq p (.inr rfl) ho hc hd (fun h' c' kp e=>fin its r' hz h' c' kp e) (by simp only[qk]<;>lia)
theorem Yah:Yc2 X (.type "tuple") (fun xs H Q=>∃p ys,xs=[.ref p]∧((SqL X.K H p ys∧∀l,H l=none→Q (.ref l) (upd H l (.tup ys)))∨(SqT X.K H p ys∧Q (.ref p) H))):=by
 intro pins s σ H xs us Q I r h
 obtain⟨p,ys,rfl,h⟩:=h
 obtain⟨u,rfl,rx⟩:=Yf7 r
 cases rx
 rcases h with⟨hq,q⟩ | ⟨hq,q⟩
 ·obtain⟨its,r',pl,hz⟩:=I.list hq
  have hlen:=r'.length
  refine call_tuple_list pl.isList (fun h' kp=>?_) (by simp only[qk]<;>lia)
  have I1:Inv X pins σ H { s with heap:=h' }:=I.kept (t':=s.toks) kp
  have I2:Inv X pins σ (upd H h'.objs.size (.tup ys)) { s with heap:=h'.push { cls:=.type "tuple",data:=.seq its.toArray } }:=
   I1.laid (t':=s.toks) (fun b o e=>qe _ e) (qu _) (show ObjOk X.prog X.w _ _ _ (.tup ys) from⟨hz,its,r',IsTup.new _ _⟩)
  exact⟨.ref h'.objs.size,_,I2,rfl,q _ (I1.hok.fresh (qu _))⟩
 ·obtain⟨its,r',pl,hz⟩:=I.tuple hq
  exact call_tuple_same pl ⟨.ref p,H,I,rfl,q⟩
def tyV(K:W.Frag)(T:String)(x:V)(H:Hp):Prop:=match x with
 | .str _=>T="str"
 | .int _=>T="int"
 | .ref p=>(T="list"∧∃xs,SqL K H p xs)∨(T="tuple"∧∃o,K.lookup p=some o∧o.cls=.type "tuple"∧o.dict=none)∨
  (T="dict"∧((∃kvs,H p=some (.dK kvs))∨∃kvs,H p=some (.dT kvs)))∨(T="set"∧∃S n,H p=some (.set S n))
 | _=>False
theorem y4r{pins:List (Addr × Obj)}{σ:St}{H:Hp}{s:Shared}{T:String}{x:V}{v:Value}(I:Inv X pins σ H s)(r:RelV x v)(ty:tyV X.K T x H) :
 s.TypeIs v T∧∀a,v=.ref a→∃ob,s.heap.get? a=some ob∧ob.dict=none:=by
 cases x with
 | str z=>
   obtain⟨t,rfl⟩:=r
   cases (show T="str" from ty)
   exact⟨typeIs_str s z t,fun _ e=>nomatch e⟩
 | int i=>
   obtain⟨t,rfl⟩:=r
   cases (show T="int" from ty)
   exact⟨typeIs_int s i t,fun _ e=>nomatch e⟩
 | ref p=>
   cases r
   rcases ty with⟨rfl,xs,hq⟩ | ⟨rfl,o,hk,hc,hd⟩ | ⟨rfl,hk⟩ | ⟨rfl,S,n,hk⟩
   ·obtain⟨its,_,pl,_⟩:=I.list hq
    refine⟨pl.isList.typeIs,fun a e=>?_⟩
    cases e
    obtain⟨o,n,e,c,hd,_⟩:=pl
    exact⟨o,e,hd⟩
   ·refine⟨⟨o,I.kIn p o hk,hc⟩,fun a e=>?_⟩
    cases e
    exact⟨o,I.kIn _ o hk,hd⟩
   ·have z:∃o,s.heap.get? p=some o∧o.ExactDict:=by
     rcases hk with⟨kvs,hk⟩ | ⟨kvs,hk⟩
     ·obtain⟨_,_,_,_,o,_,_,e,ex,_⟩:=I.hok p _ hk
      exact⟨o,e,ex⟩
     ·obtain⟨_,_,_,_,o,_,_,e,ex,_⟩:=I.hok p _ hk
      exact⟨o,e,ex⟩
    obtain⟨o,e,ex⟩:=z
    refine⟨⟨o,e,ex.1⟩,fun a e2=>?_⟩
    cases e2
    exact⟨o,e,ex.2.1⟩
   ·obtain⟨o,_,_,_,e,ex,_⟩:=I.hok p _ hk
    refine⟨⟨o,e,ex.1⟩,fun a e2=>?_⟩
    cases e2
    exact⟨o,e,ex.2.1⟩
 | _=>exact False.elim ty
noncomputable def tBM(K:W.Frag)(T:String)(r:V→List V→Hp→VK→Prop)(to:TE)(t:TA):TE:=fun σ H Q=>to σ H fun x H1=>tyV K T x H1∧t σ H1 fun xs H2=>r x xs H2 Q
variable {o e:Expr} {es:List Expr} {to:TE} {t:TA} {name:Str} {apos cpos:Pos} {T id:String} {r:V→List V→Hp→VK→Prop}
theorem y4s(pa:PlainAttrs T)(slot:Slot T name id)(hty:typeOf (.builtin id)=pure (.type "method_descriptor"))(hm:MtR X id r)(ho:PE X o to)(ha:PA X (e::es) t)
 (hbase:attributeBase o name X.env (eval o X.env)=eval o X.env:=by rfl)
 (hfew:((backTo cpos (starEach (e::es) X.env)).all (fun x=>!x.1)&&(backToKw cpos (keywordEach [] X.env)).all (fun x=>x.1.isSome)
  &&decide ((e::es).length+([]:List Keyword).length+(if ([]:List Keyword).isEmpty then 0 else 1) < 30))=true:=by rfl)
 (hline:(apos.endLine==cpos.line)=true:=by rfl) (hs:starEach (e::es) X.env=(false,eval e X.env)::starEach es X.env:=by rfl) (hplain:(backTo cpos (starEach es X.env)).any (·.1)=false:=by rfl) :
 PE X (.Call (.Attribute o name apos) (e::es) [] cpos) (tBM X.K T r to t):=by
 intro pins s σ H Q I h
 refine wpAny_Call_method_late hbase hfew hline rfl (thn (ho pins s σ H _ I h) fun v s1 hx_=>?_)
 obtain⟨x,H1,I1,r1,ty,q1⟩:=hx_
 obtain⟨h1,h2⟩:=y4r I1 r1 ty
 refine⟨T,id,pa,slot,hty,h1,h2,?_⟩
 have hA:=ha cpos pins s1 σ H1 _ I1 q1
 rw[hs]at hA ⊢
 refine Calls.callWith_builtin (by show(false||(backTo cpos (starEach es X.env)).any (·.1))=false;rw[hplain]<;>rfl) (Calls.evalArgs_plain ?_)
 refine thn hA fun us s2 hx_=>?_
 obtain⟨vs,H2,I2,r2,q2⟩:=hx_
 exact hm pins s2 σ H2 x vs v us Q I2 r1 r2 q2
end
end L2
namespace L2
open PySem PySem.Spec PyProof.Rows
def MtM(X:Cx)(id:String)(r:V→List V→Hp→VK→Prop):Prop:=
 ∀(pins:List (Addr × Obj)) (s:Shared) (σ:St) (H:Hp) (x:V) (xs:List V) (v:Value) (us:List Value) (Q:VK),Inv X pins σ H s→RelV x v→Vals xs us→r x xs H Q→
  wpAny (model X.prog X.w) X.A (call (.builtin id) (v::us)) (EP X pins σ Q) X.xe s
theorem Vals.one:∀{x:V} {us:List Value},Vals [x] us→∃u,us=[u]∧RelV x u
 :=by
  intro x us h
  cases h with
  | cons r t=>
    cases t
    exact⟨_,rfl,r⟩
section
variable {X:Cx} {pins:List (Addr × Obj)} {σ:St} {H:Hp} {s:Shared} {l b:Addr} {xs ys zs:List V}
theorem Inv.lset{its its':List Value}{n:Nat}{f:Array Value→Array Value}{t':Nat}(I:Inv X pins σ H s)(hH:H l=some (.lst xs))
 (e:s.heap.get? l=some { cls:=.type "list",data:=.seq its.toArray n }) (hf:f its.toArray=its'.toArray) (hv:Vals ys its') (hz:ys.length≤sizeLine) :
 Inv X pins σ (upd H l (.lst ys)) { s with heap:=s.heap.update l (Obj.mapSeq f),toks:=t' }:=by
 have q:=PySem.IsL.update e f
 rw[hf]at q
 refine I.write (x:=l) (e:=l) (by rw[hH];exact trivial) (.inl rfl) (fun b' u hb hu=>(Heap.get?_update_other s.heap (Obj.mapSeq f) (Ne.symm hb)).trans hu) ⟨_,q⟩ ?_
 exact⟨hz,its',_,hv,q⟩
theorem Inv.lnew{its:List Value}{t':Nat}(I:Inv X pins σ H s)(hv:Vals ys its)(hz:ys.length≤sizeLine) :
 Inv X pins σ (upd H s.heap.objs.size (.lst ys)) { s with heap:=s.heap.push { cls:=.type "list",data:=.seq its.toArray },toks:=t' }:=
 I.laid (fun _ _ q=>qe _ q) (qu _) ⟨hz,its,0,hv,qp _ rfl⟩
theorem Inv.fresh(I:Inv X pins σ H s):H s.heap.objs.size=none:=I.hok.fresh (qu _)
theorem Inv.lstM(I:Inv X pins σ H s)(hH:H l=some (.lst xs)):xs.length≤sizeLine∧∃(its:List Value) (n:Nat),Vals xs its∧xs.length=its.length∧s.heap.get? l=some { cls:=.type "list",data:=.seq its.toArray n }:=by
 obtain⟨z,its,n,r,e⟩:=I.hok l _ hH
 exact⟨z,its,n,r,r.length,e⟩
end
section
variable {X:Cx}
noncomputable def y1f:V→List V→Hp→VK→Prop:=fun x vs H Q=>∃l xs y,x=.ref l∧vs=[y]∧H l=some (.lst xs)∧xs.length < sizeLine∧Q .non (upd H l (.lst (xs++[y])))
theorem Yoe:MtM X "list.append" y1f:=by
 intro pins s σ H x vs v us Q I rx rv h
 obtain⟨l,xs,y,rfl,rfl,hH,hz,q⟩:=h
 cases rx
 obtain⟨u,rfl,ru⟩:=rv.one
 obtain⟨z,its,n,r,hl,e⟩:=I.lstM hH
 refine call_meets F.slot_list_append ⟨_,e,rfl⟩ F.entry_list_append (F.args_list_append_2 _ _) (PySem.list_append l its.toArray n u (by rw[qk];lia)) ⟨e,?_⟩
 refine⟨.non,_,I.lset (its':=its++[u]) hH e (by simp) (r.append (.cons ru .nil)) ?_,rfl,q⟩
 rw[qz,List.length_singleton]
 lia
end
end L2
namespace Att
open PySem PySem.W PySem.Calls PyProof.Rows
theorem Yjd{P:Params}{h:Heap}:∀(ns:List Int) (vs:List Value),WellAll P h vs (ns.map WData.int)→IntsAre vs ns:=by
 intro ns
 induction ns with
 | nil=>
   intro vs w
   rw[List.map_nil]at w
   cases w
   exact .nil
 | cons n ns ih=>
   intro vs w
   rw[Qd]at w
   cases w with
   | cons a b=>
     cases a
     exact .cons _ _ (ih _ b)
theorem Yu7{l:OpenLaw}{n:Nat}(hn:l.most=some n){P:Params}{h:Heap}{args:List WData}{vals:List Value}
 (hpre:l.row.toRowW.claim.pre args=true) (hwl:WellAll P h vals args) :
 ∃a vs ns,vals=[Value.ref a]∧args=[WData.list (ns.map WData.int)]∧h.get? a=some { cls:=.type "list",data:=.seq vs.toArray }∧IntsAre vs ns∧ns.length≤n:=by
 have hsh:WShape.hasAll [] args [.list .int]=true:=(pre_splitW hpre).1
 have hc:l.pre.holds [] { args:=args }=true:=(pre_splitW hpre).2
 obtain⟨d,r,rfl,h1,h2⟩:=hasAllW_cons hsh
 obtain rfl:=hasAllW_nil h2
 obtain⟨xs,rfl,h3⟩:=hasW_list h1
 obtain⟨ns,rfl⟩:=items_int h3
 have hlen:ns.length≤n:=by
  unfold OpenLaw.pre at hc
  have h4:(WTm.not (.lt (.lit (.int (n:Int))) (.len (.arg 0)))).holds [] { args:=[.list (ns.map .int)] }=true:=by
   have h4:=(holds_andW hc).1
   rw[hn]at h4
   exact h4
  have h5:=condW_of h4 (w_not (w_lt w_lit (w_len_list (w_arg rfl))))
  rw[qf]at h5
  refine Nat.le_of_not_lt fun q=>?_
  have q':(n:Int) < ((ns.length:Nat):Int):=by lia
  first
   | (rw[decide_eq_true q']at h5;exact absurd h5 (by decide))
   | (simp at h5;lia)
 cases hwl with
 | cons w1 w2=>
   cases w2
   cases w1 with
   | list ho hall=>exact⟨_,_,ns,rfl,rfl,ho,Yjd ns _ hall,hlen⟩
theorem Yu8(l:OpenLaw)(args:List WData):l.row.toRowW.claim.post args (.bool true) args=true:=
 postW_of (r:=l.row.toRowW) (X:=(true==true))
  (show WShape.has [] (.bool true) .bool=true by first | rfl | decide | simp[WShape.has,WShape.arms,WShape.armsAll])
  (show(WTm.eq .res (.lit (.bool true))).value [] { args:=args,res:=some (.bool true),after:=args }=some (.bool (true==true)) from w_eq_bool (w_res rfl) w_lit) rfl
theorem attach_call{l:OpenLaw}{n:Nat}{q:Program}{loose:List Str}{XP:(Str→Option Value)→Heap→Prop}{YP:World→Heap→Prop}{d:DefRec}
 (hn:l.most=some n) (hdf:d.params.defaults=[])
 (call:∀(w:World) (s₀ s₁:Shared) (mg mb:Str→Option Value) (fa:Addr) (o:Obj) (pm cd doc:Value) (a:Addr) (vs:List Value) (ns:List Int),
  Ground q loose [] XP w s₀ mg mb s₁.heap→YP w s₁.heap→
  s₁.heap.get? fa=some o→o.data=.func (docDef d.name d.params d.body d.scope pm cd doc)→s₁.heap.CodeRec cd d.name→mg d.name=some (.ref fa)→
  s₁.heap.get? a=some { cls:=.type "list",data:=.seq vs.toArray }→IntsAre vs ns→ns.length≤n→s₁.gens=#[]→
  codeAny (model l.prog w) callerA (.call (.ref fa) ⟨[.ref a],[]⟩) (fun r s'=>r=.ok (.ret (.bool true))∧OldK s₁.heap s'.heap∧s'.os=s₁.os∧AllBare s'.gens) s₁) :
 WalkO q loose XP YP l.row.toRowW d [] (fun f vs=>PySem.call f vs):=by
 intro w s₀ s₁ mg mb G Y fa o pm cd doc dV kV ho hd hcd hD hmg hg args vals as hpre hlay hrd hwl hlo
 obtain rfl:dV=.none:=Dflts.none hD hdf
 obtain rfl:kV=.none:=Dflts.noKw hD
 obtain⟨a,vs,ns,rfl,rfl,hobj,hints,hlen⟩:=Yu7 hn hpre hwl
 refine enter_call (codeAny_mono (call w s₀ s₁ mg mb fa o pm cd doc a vs ns G Y ho (fd_plain hd) hcd hmg hobj hints hlen hg) fun r s' hq=>?_)
 obtain⟨rfl,h2,h3,h4⟩:=hq
 exact⟨.inl ⟨.bool true,.bool true,[],rfl,fun _=>rfl,.bool true,Yu8 l _,fun _=>⟨List.Pairwise.nil,fun _ hm=>(nomatch hm)⟩⟩,h2,h3,h4⟩
end Att
namespace L2
open PySem PySem.Spec PyProof.Rows
theorem Yez:∀{vs:List Value} {ns:List Int},IntsAre vs ns→Vals (ns.map V.int) vs
 | _,_,.nil=>.nil
 | _,_,.cons n t h=>.cons ⟨t,rfl⟩ (Yez h)
def Only(H:Hp):Prop:=∀b,H b=none∨∃o xs,H b=some (.frz o (.lst xs))
theorem Yyc{P:Program}{w:World}{K:W.Frag}{mg mb:Str→Option Value}{CX:CXT}{k:Nat}{fa a:Addr}{fd:FuncData}{x:Str}{sp:Sp}{s₁:Shared}{vs:List Value}{ns:List Int}
 (KX:K.In s₁.heap) (hns:s₁.heap.Ns mainGlobals mg) (hb:s₁.heap.Ns builtinsNs mb) (hbb:∀x:Str,x≠"__name__"→mb x=bootBuiltins x) (hlim:s₁.heap.NoLimit) (hg:s₁.gens=#[])
 (ha:s₁.heap.get? a=some { cls:=.type "list",data:=.seq vs.toArray }) (hi:IntsAre vs ns) (hl:ns.length≤sizeLine) (hr:Room k callerA)
 (F:∀base:Heap,K.In base→base.Ns mainGlobals mg→FnOk P w K mg base CX k fa fd [x] sp) (hbind:∀(s:Shared) (u:Value),BindsTo s fd ⟨[u],[]⟩ [(x,u)])
 (hsp:∀H:Hp,Only H→SqL K H a (ns.map V.int)→sp [.ref a] H (fun v _=>v=.bl true) fun _ _ _=>False)
 (hCX:∀H e s',CX [] H s₁ (fun _ _ _=>False) e s'→False) :
 codeAny (model P w) callerA (.call (.ref fa) ⟨[.ref a],[]⟩) (fun r s'=>r=.ok (.ret (.bool true))∧OldK s₁.heap s'.heap∧s'.os=s₁.os∧AllBare s'.gens) s₁:=by
 have rv:=Yez hi
 have lenV:=hi.length
 have core:∀H:Hp,Only H→SqL K H a (ns.map V.int)→HOk P w H s₁.heap→(∀b,H b≠none→b=a)→(H a≠none→K.lookup a=none)→
  codeAny (model P w) callerA (.call (.ref fa) ⟨[.ref a],[]⟩) (fun r s'=>r=.ok (.ret (.bool true))∧OldK s₁.heap s'.heap∧s'.os=s₁.os∧AllBare s'.gens) s₁:=by
  intro H hO hS hok hA hK
  have base_of:∀{b:Addr} {o:Obj},s₁.heap.get? b=some o→H b=none→(hidT s₁.heap H).get? b=some o:=fun e n=>Yx1 e n
  have noA:∀{b:Addr} {o:Obj} {es:Array DictEntry} {ep:Nat},s₁.heap.get? b=some o→o.data=.dict es ep→H b=none:=fun {b o es ep} e d=>by
   cases q:H b with
   | none=>rfl
   | some u=>
     have e':b=a:=hA b (by rw[q];simp)
     subst e'
     rw[ha]at e;cases e
     have d':Data.seq vs.toArray _=Data.dict es ep:=d
     cases d'
  have nsK:∀{b:Addr} {m:Str→Option Value},s₁.heap.Ns b m→(hidT s₁.heap H).Ns b m:=fun {b m} ⟨o,es,ep,e,d,r⟩=>⟨o,es,ep,base_of e (noA e d),d,r⟩
  have hKb:K.In (hidT s₁.heap H):=fun b o e=>base_of (KX b o e) (by
   cases q:H b with
   | none=>rfl
   | some u=>
     have e':b=a:=hA b (by rw[q];simp)
     subst e'
     rw[hK (by rw[q];simp)]at e;cases e)
  have hM:Mod K mg (hidT s₁.heap H):=⟨hKb,nsK hns,⟨mb,nsK hb,hbb⟩,let ⟨mc,h1,h2⟩:=hlim;⟨mc,nsK h1,h2⟩⟩
  have e0:Env0 P w K mg (hidT s₁.heap H) callerA [] s₁ H:=⟨rfl,hM,fun b o e=>y0x e,Nat.le_of_eq (Yuo _ _),trivial,fun b hb=>absurd (show b∈([]:List Addr) from hb) (by simp),hok,.of_eq hg⟩
  refine codeAny_mono ((F _ hKb (nsK hns)).run callerA [] s₁ H ⟨[.ref a],[]⟩ [.ref a] [.ref a] _ _ hr e0 (hbind s₁ (.ref a)) (.cons rfl .nil) (hsp H hO hS)) fun r s' h=>?_
  cases r with
  | error e=>exact(hCX H e s' h).elim
  | ok fl=>
    cases fl with
    | next=>exact False.elim h
    | brk=>exact False.elim h
    | cont=>exact False.elim h
    | ret u=>
      obtain⟨v,H',os,bare,un,hok',r',q⟩:=h
      have q':v=.bl true:=q
      subst q'
      obtain rfl:u=Value.bool true:=r'
      refine⟨rfl,OldK.of_keep fun b o e=>?_,os,bare⟩
      cases q:H b with
      | none=>exact un.keep b o e q (by intro z;exact absurd (show b∈([]:List Addr) from z) (by simp)) (by simp)
      | some u=>
        rcases hO b with z | ⟨ob,xs,z⟩
        ·rw[q]at z;cases z
        ·have z2:=un.frzs b ob _ z
         obtain⟨e1,_⟩:=hok b _ z
         obtain⟨e2,_⟩:=hok' b _ z2
         rw[e]at e1;cases e1
         exact e2
 cases hk:K.lookup a with
 | some o=>
   have e:=KX a o hk
   rw[ha]at e
   cases e
   refine core (fun _=>none) (fun _=>.inl rfl) (.inr ⟨_,vs.toArray,_,hk,rfl,rfl,rfl,by rw[qk,lenV];exact hl,by simpa using rv⟩) (fun b u z=>by have z':(none:Option HO)=some u:=z;cases z') (fun b z=>absurd rfl z) fun z=>absurd rfl z
 | none=>
   refine core (fun b=>if b=a then some (.frz { cls:=.type "list",data:=.seq vs.toArray } (.lst (ns.map V.int)))else none) (fun b=>?_) (.inl (.inr ⟨{ cls:=.type "list",data:=.seq vs.toArray },if_pos rfl⟩)) (fun b u z=>?_) (fun b z=>?_) fun _=>hk
   ·by_cases hb:b=a
    ·exact .inr ⟨_,_,if_pos hb⟩
    ·exact .inl (if_neg hb)
   ·by_cases hb:b=a
    ·have z':=(if_pos hb).symm.trans z
     cases z'
     subst hb
     exact⟨ha,by rw[qf];exact hl,vs,_,rv,ha⟩
    ·have z':=(if_neg hb).symm.trans z
     cases z'
   ·by_cases hb:b=a
    ·exact hb
    ·exact absurd (if_neg hb) z
end L2
namespace L2
open PySem PySem.Spec PyProof.Rows
theorem walk_of{l:W.OpenLaw}{n k:Nat}{q:Program}{loose:List Str}{XP:(Str→Option Value)→Heap→Prop}{YP:World→Heap→Prop}{d:DefRec}{K:Params→W.Frag}{CX:World→CXT}{sp:World→Sp}{x:Str}
 (hn:l.most=some n) (hn2:n≤sizeLine) (hdf:d.params.defaults=[]) (hr:Room k callerA)
 (hY:∀(w:World) (h:Heap),YP w h→(K w.params).In h)
 (F:∀(w:World) (mg:Str→Option Value) (fa:Addr) (h:Heap),(K w.params).In h→h.Ns mainGlobals mg→mg d.name=some (.ref fa)→
  ∃fd:FuncData,(∀(s:Shared) (u:Value),BindsTo s fd ⟨[u],[]⟩ [(x,u)])∧
   ∀base:Heap,(K w.params).In base→base.Ns mainGlobals mg→FnOk l.prog w (K w.params) mg base (CX w) k fa fd [x] (sp w))
 (hsp:∀(w:World) (H:Hp) (a:Addr) (ns:List Int),ns.length≤n→Only H→SqL (K w.params) H a (ns.map V.int)→sp w [.ref a] H (fun v _=>v=.bl true) fun _ _ _=>False)
 (hCX:∀(w:World) (H:Hp) (s:Shared) (e:Value) (s':Shared),CX w [] H s (fun _ _ _=>False) e s'→False) :
 W.WalkO q loose XP YP l.row.toRowW d [] (fun f vs=>PySem.call f vs):=by
 refine Att.attach_call hn hdf fun w s₀ s₁ mg mb fa o pm cd doc a vs ns G Y ho hd hcd hmg hobj hints hlen hg=>?_
 have KX:=hY w _ Y
 obtain⟨fd,hb,hF⟩:=F w mg fa _ KX G.T.g hmg
 exact Yyc KX G.T.g G.T.b G.T.builtins G.T.nolimit hg hobj hints (Nat.le_trans hlen hn2) hr hF hb (fun H hO hS=>hsp w H a ns hlen hO hS) fun H e s'=>hCX w H s₁ e s'
end L2
namespace L2
open PySem PySem.Spec PyProof.Rows
noncomputable def defArgs(s:Stmt):Arguments:=match s with
 | .FunctionDef _ a _ _ _ _ _ _ _ _=>a
 | _=>{ posonlyargs:=[],args:=[],vararg:=none,kwonlyargs:=[],kw_defaults:=[],kwarg:=none,defaults:=[] }
noncomputable def defBody(s:Stmt):List Stmt:=match s with
 | .FunctionDef _ _ b _ _ _ _ _ _ _=>b
 | _=>[]
noncomputable def defScope(s:Stmt):Scope:=match s with
 | .FunctionDef _ _ _ _ _ _ sc _ _ _=>sc
 | _=>{ kind:=.function,names:=[],isGenerator:=false,isCoroutine:=false }
noncomputable abbrev CX0:CXT:=fun _ _ _ _ _ _=>False
noncomputable abbrev E0:XK:=fun _ _ _=>False
theorem y7x{X:Cx}:Yuz CX0 X E0:=fun _ _ _ _ _ _ _ h=>h.elim
structure Fun(K:W.Frag)(x qual:Str)(st:Stmt)(f:Addr)(fd:FuncData):Prop where
 ex:∃(oc:Value) (od:Option Addr) (kV doc pm:Value) (an:Option Addr) (cdv ct:Value) (osl:Array (Option Value)),
  fd=W.fnOf x qual (defArgs st) (defBody st) (defScope st) .none kV doc pm an cdv ct∧K.lookup f=some ⟨oc,od,.func fd,osl⟩∧W.codeIn K cdv qual=true
 kp:W.keepIn K (.ref f)=true
section
variable {P:Program} {w:World} {K:W.Frag} {mg:Str→Option Value} {base:Heap}
theorem Fun.ok{x qual:Str}{st:Stmt}{f:Addr}{fd:FuncData}{N ps:List Str}{k:Nat}{sp:Sp}(F:Fun K x qual st f fd)(S:FnScope N ps (defScope st))(len:∀vs H Q E,sp vs H Q E→vs.length=ps.length)
 (hbody:∀(cdv:Value) (A:Around) (outer:List Env) (s:Shared) (H:Hp) (vs:List V) (Q:VK) (E:XK),Room k (A.deeper (envOfC qual (defScope st) s.heap.objs.size f cdv))→sp vs H Q E→
  ∃t,PSs (cxOf CX0 P w K mg base N qual (defScope st) f cdv A outer s H E).nox (defBody st) t∧t { nx:=fun _ H'=>Q .non H',rt:=Q } (start N vs) H):FnOk P w K mg base CX0 (k+1) f fd ps sp:=by
 obtain⟨oc,od,kV,doc,pm,an,cdv,ct,osl,rfl,lk,hcd⟩:=F.ex
 refine y7t lk hcd S len fun A outer s H vs Q E hr hsp=>?_
 obtain⟨t,h,q⟩:=hbody cdv A outer s H vs Q E hr hsp
 exact⟨t,h.nox,q⟩
theorem Fun.binds{x qual:Str}{st:Stmt}{f:Addr}{fd:FuncData}{ps:List Str}(F:Fun K x qual st f fd)
 (h:∀(kV doc pm:Value) (an:Option Addr) (cdv ct:Value) (us:List Value),us.length=ps.length→bindArgs (W.fnOf x qual (defArgs st) (defBody st) (defScope st) .none kV doc pm an cdv ct) ⟨us,[]⟩=pure (ps.zip us)):Binds K fd ps []:=by
 obtain⟨oc,od,kV,doc,pm,an,cdv,ct,osl,rfl,lk,hcd⟩:=F.ex
 exact .all (h kV doc pm an cdv ct)
theorem fun_mk{x qual:Str}{st:Stmt}{f:Addr}{oc:Value}{od an:Option Addr}{osl:Array (Option Value)}{kV doc pm cdv ct:Value}(l:K.lookup f=some ⟨oc,od,.func (W.fnOf x qual (defArgs st) (defBody st) (defScope st) .none kV doc pm an cdv ct),osl⟩)
 (c:W.codeIn K cdv qual=true) (k:W.keepIn K (.ref f)=true):Fun K x qual st f (W.fnOf x qual (defArgs st) (defBody st) (defScope st) .none kV doc pm an cdv ct):=⟨⟨oc,od,kV,doc,pm,an,cdv,ct,osl,rfl,l,c⟩,k⟩
end
def Same(H H':Hp):Prop:=∀b o,H b=some o→H' b=some o
theorem Same.refl(H:Hp):Same H H:=fun _ _ h=>h
theorem Same.trans{H H1 H2:Hp}(a:Same H H1)(b:Same H1 H2):Same H H2:=fun c o h=>b c o (a c o h)
theorem Same.free{H H':Hp}(e:Same H H'){l:Addr}(h:H' l=Option.none):H l=Option.none:=by
 cases q:H l with
 | none=>rfl
 | some o=>
   rw[e l o q]at h
   cases h
theorem Same.seq{K:W.Frag}{H H':Hp}{a:Addr}{xs:List V}(e:Same H H')(h:SqL K H a xs):SqL K H' a xs:=by
 rcases h with(h | ⟨o,h⟩) | h
 ·exact .inl (.inl (e _ _ h))
 ·exact .inl (.inr ⟨o,e _ _ h⟩)
 ·exact .inr h
end L2
namespace L2
open PySem PySem.Spec PyProof.Rows
noncomputable def clOf(env:Env):List (Str × NameKind)→List (Str × Addr)→List (Str × Addr)
 | [],cs=>cs
 | (n,k)::r,cs=>if (k==NameKind.free)=true then (match env.cells.lookup n with | some c=>clOf env r ((n,c)::cs) | none=>clOf env r cs)else clOf env r cs
theorem Ye0{scope:Scope}{env:Env}(h:∀x∈scope.names,x.2=NameKind.free→∃c,env.cells.lookup x.1=some c):closureFor scope env=pure (clOf env scope.names []):=by
 have key:∀(l:List (Str × NameKind)) (cs:List (Str × Addr)),(∀x∈l,x.2=NameKind.free→∃c,env.cells.lookup x.1=some c)→
  (forIn l cs fun(x:Str × NameKind) (r:List (Str × Addr))=>if (x.2==NameKind.free)=true then (do let c ←cellOf env x.1;pure (ForInStep.yield ((x.1,c)::r)))else pure (ForInStep.yield r))=(pure (clOf env l cs):Sem (List (Str × Addr))):=by
  intro l
  induction l with
  | nil=>intro cs _;rfl
  | cons x l ih=>
    intro cs hl
    obtain⟨n,k⟩:=x
    have ht:=fun y hy=>hl y (qg _ hy)
    rw[List.forIn_cons]
    by_cases hk:k=NameKind.free
    ·subst hk
     obtain⟨c,hc⟩:=hl (n,NameKind.free) qh rfl
     have hc':env.cells.lookup n=some c:=hc
     have e1:cellOf env n=pure c:=by unfold cellOf;rw[hc']
     have hff:(NameKind.free==NameKind.free)=true:=rfl
     show(if (NameKind.free==NameKind.free)=true then (do let c ←cellOf env n;pure (ForInStep.yield ((n,c)::cs)))else pure (ForInStep.yield cs)) >>= _=_
     rw[if_pos hff,e1,pure_bind,pure_bind]
     show forIn l ((n,c)::cs) _=_
     rw[ih _ ht]
     show _=pure (if (NameKind.free==NameKind.free)=true then (match env.cells.lookup n with | some c=>clOf env l ((n,c)::cs) | none=>clOf env l cs)else clOf env l cs)
     rw[if_pos hff,hc']
    ·have hb:(k==NameKind.free)=false:=by simpa using hk
     show(if (k==NameKind.free)=true then _ else pure (ForInStep.yield cs)) >>= _=_
     rw[if_neg (by rw[hb];exact qi),pure_bind]
     show forIn l cs _=_
     rw[ih _ ht]
     show _=pure (if (k==NameKind.free)=true then (match env.cells.lookup n with | some c=>clOf env l ((n,c)::cs) | none=>clOf env l cs)else clOf env l cs)
     rw[if_neg (by rw[hb];exact qi)]
 have:=key scope.names [] h
 unfold closureFor
 simpa using this
theorem Yi3{env:Env}:∀(l:List (Str × NameKind)) (cs:List (Str × Addr)),(∀x c,(x,c)∈cs→env.cells.lookup x=some c)→∀x c,(x,c)∈clOf env l cs→env.cells.lookup x=some c
 | [],cs,h,x,c,e=>h x c e
 | (n,k)::r,cs,h,x,c,e=>by
   unfold clOf at e
   split at e
   ·split at e
    ·rename_i d hd
     refine Yi3 r _ (fun y b hy=>?_) x c e
     rcases qt hy with q | q
     ·cases q;exact hd
     ·exact h y b q
    ·exact Yi3 r cs h x c e
   ·exact Yi3 r cs h x c e
theorem Yfp{env:Env}:∀(l:List (Str × NameKind)) (cs:List (Str × Addr)) (p:Str × Addr),p∈cs→p∈clOf env l cs
 | [],_,_,h=>h
 | (n,k)::r,cs,p,h=>by
   unfold clOf
   split
   ·split
    ·exact Yfp r _ p (qg _ h)
    ·exact Yfp r _ p h
   ·exact Yfp r _ p h
theorem Ygw{env:Env}:∀(l:List (Str × NameKind)) (cs:List (Str × Addr)) (x:Str) (c:Addr),(x,NameKind.free)∈l→env.cells.lookup x=some c→(x,c)∈clOf env l cs
 | (n,k)::r,cs,x,c,h,hc=>by
   rcases qt h with q | q
   ·cases q
    unfold clOf
    rw[if_pos (show(NameKind.free==NameKind.free)=true from rfl),hc]
    exact Yfp r _ _ qh
   ·unfold clOf
    split
    ·split
     ·exact Ygw r _ x c q hc
     ·exact Ygw r _ x c q hc
    ·exact Ygw r _ x c q hc
theorem Ygx{x:Str}{c:Addr}{cl:List (Str × Addr)}(h:(x,c)∈cl):∃d,cl.lookup x=some d:=by
 induction cl with
 | nil=>cases h
 | cons p r ih=>
   obtain⟨n,b⟩:=p
   rw[List.lookup_cons]
   cases e:(x==n)with
   | true=>exact⟨b,rfl⟩
   | false=>
     rcases qt h with q | q
     ·cases q;simp at e
     ·exact ih q
structure CompSc(XN:List Str)(xsc:Scope)(N:List Str)(src:List (Option Nat))(sc:Scope):Prop where
 kind:sc.kind=.function
 xkind:xsc.kind=.function
 cellU:∀y∈sc.names,y.2=NameKind.cell→sc.names.lookup y.1=some NameKind.cell
 names:∀y∈sc.names,y.2=NameKind.local→sc.names.lookup y.1=some NameKind.local
 len:src.length=N.length
 nd:N.Nodup
 cap:∀(i j:Nat) (x:Str),N[i]?=some x→src[i]?=some (some j)→XN[j]?=some x∧sc.names.lookup x=some NameKind.free
 fr:∀y∈sc.names,y.2=NameKind.free→xsc.names.lookup y.1=some NameKind.cell∨xsc.names.lookup y.1=some NameKind.free
noncomputable def capB(XN:List Str)(sc:Scope):List Str→List (Option Nat)→Bool
 | [],[]=>true
 | x::N,none::src=>capB XN sc N src
 | x::N,some j::src=>decide (XN[j]?=some x)&&decide (sc.names.lookup x=some NameKind.free)&&capB XN sc N src
 | _,_=>false
theorem Yma{XN:List Str}{sc:Scope}:∀{N:List Str} {src:List (Option Nat)},capB XN sc N src=true→src.length=N.length
 | [],[],_=>rfl
 | _::N,none::src,h=>by
   have:=Yma (N:=N) (src:=src) h
   simp[this]
 | _::N,some j::src,h=>by
   replace h:(decide (XN[j]?=some _)&&decide (sc.names.lookup _=some NameKind.free)&&capB XN sc N src)=true:=h
   simp only[Qe]at h
   have:=Yma (N:=N) (src:=src) h.2
   simp[this]
 | [],_::_,h=>Bool.noConfusion h
 | _::_,[],h=>Bool.noConfusion h
theorem Ymb{XN:List Str}{sc:Scope}:∀{N:List Str} {src:List (Option Nat)},capB XN sc N src=true→∀(i j:Nat) (x:Str),N[i]?=some x→src[i]?=some (some j)→XN[j]?=some x∧sc.names.lookup x=some NameKind.free
 | [],[],_,i,j,x,h,_=>by simp at h
 | _::N,none::src,h,i,j,x,h1,h2=>by
   cases i with
   | zero=>simp at h2
   | succ i=>exact Ymb (N:=N) (src:=src) h i j x (by simpa using h1) (by simpa using h2)
 | y::N,some k::src,h,i,j,x,h1,h2=>by
   replace h:(decide (XN[k]?=some y)&&decide (sc.names.lookup y=some NameKind.free)&&capB XN sc N src)=true:=h
   simp only[Qe,decide_eq_true_eq]at h
   cases i with
   | zero=>
     simp at h1 h2
     subst h1;subst h2
     exact h.1
   | succ i=>exact Ymb (N:=N) (src:=src) h.2 i j x (by simpa using h1) (by simpa using h2)
 | [],_::_,h,_,_,_,_,_=>Bool.noConfusion h
 | _::_,[],h,_,_,_,_,_=>Bool.noConfusion h
noncomputable def y4t(XN:List Str)(xsc:Scope)(N:List Str)(src:List (Option Nat))(sc:Scope):Bool:=
 decide (sc.kind=.function)&&decide (xsc.kind=.function)&&sc.names.all (fun y=>decide (y.2=NameKind.cell→sc.names.lookup y.1=some NameKind.cell))&&sc.names.all (fun y=>decide (y.2=NameKind.local→sc.names.lookup y.1=some NameKind.local))&&
  decide N.Nodup&&capB XN sc N src&&sc.names.all (fun y=>decide (y.2=NameKind.free→xsc.names.lookup y.1=some NameKind.cell∨xsc.names.lookup y.1=some NameKind.free))
theorem y9{XN:List Str}{xsc:Scope}{N:List Str}{src:List (Option Nat)}{sc:Scope}(h:y4t XN xsc N src sc=true):CompSc XN xsc N src sc:=by
 unfold y4t at h
 simp only[Qe,decide_eq_true_eq,List.all_eq_true]at h
 obtain⟨⟨⟨⟨⟨⟨h1,h2⟩,h3⟩,h4⟩,h5⟩,h6⟩,h7⟩:=h
 exact⟨h1,h2,h3,h4,Yma h6,h5,Ymb h6,h7⟩
noncomputable abbrev Yau(X:Cx)(scope:Scope)(N:List Str)(cl:List (Str × Addr))(C:Addr)(fp:List Addr)(s:Shared)(H:Hp):Cx where
 prog:=X.prog
 w:=X.w
 K:=X.K
 mg:=X.mg
 base:=X.base
 A:=X.A
 N:=N
 s₀:=s
 H₀:=H
 env:=compEnvC scope cl C X.env
 outer:=X.stack
 stack:=X.stack
 ex:=fp
 fn:=fun x=>scope.names.lookup x==some NameKind.cell
 calm:=X.calm
 pn:=[]
 xe:=fun _ _=>False
noncomputable def capσ(src:List (Option Nat))(σ:St):St:=src.map fun o=>o.bind fun j=>(σ[j]?).join
def PIfs(X:Cx)(ifs:List Expr)(t:TT):Prop:=
 ∀(pins:List (Addr × Obj)) (s:Shared) (σ:St) (H:Hp) (Q:Bool→Hp→Prop),Inv X pins σ H s→t σ H Q→
  wpAny (model X.prog X.w) X.A (forIn ifs true fun c r=>if r=true then do let ok ←isTrue c X.env (eval c X.env);pure (ForInStep.yield ok)else pure (ForInStep.yield r)) (TP X pins σ Q) X.xe s
noncomputable def tYes:TT:=fun _ H Q=>Q true H
theorem y1g{X:Cx}:PIfs X [] tYes:=fun _ _ _ H _ I h=>wpAny_tests_nil ⟨H,I,h⟩
theorem y1h{X:Cx}{c:Expr}{t:TT}(h:PT X c t):PIfs X [c] t:=fun pins s σ H Q I hq=>wpAny_tests_one (h pins s σ H Q I hq)
noncomputable def tLC(wi:TI)(src:List (Option Nat))(g:TG)(ti:TT)(te:TE):TE:=fun σ H Q=>wi σ H fun J H1=>∀p,H1 p=none→
 ∃W:Nat→Nat→St→Hp→Prop,(∃m,W 0 m (capσ src σ) (upd H1 p (.lst [])))∧∀i m σ1 H2,W i m σ1 H2→
  (J.stop i H2∧Q (.ref p) H2)∨
  (J.go i H2∧∀x H3,J.yld i H2 x H3→g x σ1 H3 fun σ4 H4=>ti σ4 H4 fun b H5=>if b=true then te σ4 H5 fun v H6=>∃xs,H6 p=some (.lst xs)∧xs.length < sizeLine∧∃m',m' < m∧W (i+1) m' σ4 (upd H6 p (.lst (xs++[v])))else ∃m',m' < m∧W (i+1) m' σ4 H5)
section
variable {prog:Program} {w:World} {A:Around} {R:Result→Shared→Prop} {s:Shared}
theorem Yfx{elt target iter:Expr}{ifs:List Expr}{scope:Scope}{pos:Pos}{it acc:Value}{env:Env}(I:Nat→Shared→Prop)
 (turn:∀n s,I n s→wpAny (model prog w) A (pyNext it) (fun r s₁=>match r with
  | none=>R (.ok .next) s₁
  | some v=>wpAny (model prog w) A (letOwnedTupleGo target it v) (fun _ s₁=>wpAny (model prog w) A (assign target env v) (fun _ s₂=>
   wpAny (model prog w) A (forIn ifs true fun c r=>if r=true then do let ok ←isTrue c env (eval c env);pure (ForInStep.yield ok)else pure (ForInStep.yield r)) (fun ok s₃=>
    if ok=true then wpAny (model prog w) A (eval elt env) (fun x s₄=>
     wpAny (model prog w) A (call (.builtin "list.append") [acc,x]) (fun _ s₅=>∃m,m < n∧I m s₅) (notedBy (model prog w) A env fun e s'=>R (.error e) s') s₄) (notedBy (model prog w) A env fun e s'=>R (.error e) s') s₃
    else ∃m,m < n∧I m s₃) (notedBy (model prog w) A env fun e s'=>R (.error e) s') s₂) (notedBy (model prog w) A env fun e s'=>R (.error e) s') s₁) (notedBy (model prog w) A env fun e s'=>R (.error e) s') s₁) (notedBy (model prog w) A env fun e s'=>R (.error e) s') s)
 (n:Nat) (h:I n s) :
 codeAny (model prog w) A (.compLoop (.ListComp elt [⟨target,iter,ifs,0⟩] scope pos) 0 it acc env) R s:=by
 refine codeAny_loop rfl I (fun n s hI=>?_) n h
 show wpAny _ A ((compTurn (.ListComp elt [⟨target,iter,ifs,0⟩] scope pos) 0 it acc env).onRaise (fun x=>do noteFrame x env;theTreesLotGoes x)) _ _ s
 refine wpAny_noted ?_
 rw[compTurn_list]
 refine wpAny_bind (wpAny_standAt (wpAny_bind (wpAny_mono (turn n s hI) (fun r s₁ h₁=>?_) fun _ _ h'=>h')))
 cases r with
 | none=>exact wpAny_pure h₁
 | some v=>
   refine wpAny_bind (wpAny_mono h₁ (fun _ s₁ h₁=>?_) fun _ _ h'=>h')
   refine wpAny_bind (wpAny_mono h₁ (fun _ s₂ h₂=>wpAny_bind (wpAny_mono h₂ (fun ok s₃ h₃=>?_) fun _ _ h'=>h')) fun _ _ h'=>h')
   cases ok with
   | false=>exact wpAny_pure ⟨rfl,h₃⟩
   | true=>
     exact wpAny_bind (wpAny_bind (wpAny_mono h₃ (fun x s₄ h₄=>wpAny_bind (wpAny_mono h₄ (fun _ s₅ h₅=>wpAny_pure (wpAny_pure ⟨rfl,h₅⟩)) fun _ _ h'=>h')) fun _ _ h'=>h'))
end
section
variable {X:Cx} {elt tg iter:Expr} {ifs:List Expr} {scope:Scope} {pos:Pos} {wi:TI} {g:TG} {ti:TT} {te:TE} {N:List Str} {src:List (Option Nat)}
theorem Yf9{scope:Scope}{env:Env}{x:Str}(h:scope.names.lookup x=some NameKind.free)(hk:env.kindOf x=some NameKind.cell∨env.kindOf x=some NameKind.free) :
 (relabel scope env).names.lookup x=some NameKind.cell∨(relabel scope env).names.lookup x=some NameKind.free:=by
 unfold relabel
 show List.lookup x (scope.names.map _)=_∨List.lookup x (scope.names.map _)=_
 generalize scope.names=l at h
 induction l with
 | nil=>cases h
 | cons p r ih=>
   obtain⟨n,k⟩:=p
   rw[List.lookup_cons]at h
   rw[Qd]
   cases e:(x==n)with
   | true=>
     rw[e]at h
     cases h
     by_cases hc:(NameKind.free==NameKind.free&&env.scope.kind==ScopeKind.function&&env.kindOf n==some NameKind.cell)=true
     ·left;simp only[hc,if_true];rw[List.lookup_cons,e]
     ·right;simp only[hc];rw[if_neg qi,List.lookup_cons,e]
   | false=>
     rw[e]at h
     have q:=ih h
     by_cases hc:(k==NameKind.free&&env.scope.kind==ScopeKind.function&&env.kindOf n==some NameKind.cell)=true
     ·simp only[hc,if_true];rw[List.lookup_cons,e];exact q
     ·simp only[hc];rw[if_neg qi,List.lookup_cons,e];exact q
theorem Yje{scope:Scope}{env:Env}{x:Str}(h:(relabel scope env).names.lookup x=some NameKind.cell∨(relabel scope env).names.lookup x=some NameKind.free) :
 (x,NameKind.free)∈scope.names∨(x,NameKind.cell)∈scope.names:=by
 unfold relabel at h
 change List.lookup x (scope.names.map _)=_∨List.lookup x (scope.names.map _)=_ at h
 revert h
 generalize scope.names=l
 intro h
 induction l with
 | nil=>rcases h with h | h<;>cases h
 | cons p r ih=>
   obtain⟨n,k⟩:=p
   rw[Qd]at h
   have hr:=fun z=>ih z
   cases e:(x==n)with
   | true=>
     have en:x=n:=by simpa using e
     subst en
     by_cases hk:k=NameKind.free
     ·subst hk;exact .inl qh
     ·have hb:(k==NameKind.free)=false:=by simpa using hk
      simp only[hb,Bool.false_and,Qo,if_false]at h
      rw[List.lookup_cons,e]at h
      rcases h with h | h
      ·cases h;exact .inr qh
      ·cases h;exact absurd rfl hk
   | false=>
     refine(hr ?_).imp (qg _) (qg _)
     by_cases hk:(k==NameKind.free&&env.scope.kind==ScopeKind.function&&env.kindOf n==some NameKind.cell)=true
     ·simp only[hk,if_true]at h;rw[List.lookup_cons,e]at h;exact h
     ·simp only[hk]at h;rw[if_neg qi,List.lookup_cons,e]at h;exact h
theorem Ybu:∀(names:List (Str × NameKind)) (n:Nat) (acc:List (Str × Addr)),cellsFrom n names acc=cellsFrom n names []++acc
 | [],_,_=>rfl
 | (x,k)::r,n,acc=>by
   unfold cellsFrom
   split
   ·rw[Ybu r (n+1) ((x,n)::acc),Ybu r (n+1) [(x,n)],List.append_assoc];rfl
   ·exact Ybu r n acc
theorem Yea:∀(names:List (Str × NameKind)) (n:Nat) (x:Str) (c:Addr),(x,c)∈cellsFrom n names []→(x,NameKind.cell)∈names
 | [],_,_,_,h=>(nomatch h)
 | (y,k)::r,n,x,c,h=>by
   unfold cellsFrom at h
   split at h
   ·rename_i hk
    rw[Ybu]at h
    rcases qv h with h | h
    ·exact qg _ (Yea r _ x c h)
    ·rw[Qi]at h
     cases h
     have:k=NameKind.cell:=by simpa using hk
     rw[this];exact qh
   ·exact qg _ (Yea r n x c h)
theorem Yhj{own cl:List (Str × Addr)}{x:Str}:(own++cl).lookup x=(own.lookup x).or (cl.lookup x):=by
 induction own with
 | nil=>rfl
 | cons p r ih=>
   obtain⟨y,b⟩:=p
   rw[List.cons_append,List.lookup_cons,List.lookup_cons]
   cases (x==y)with
   | true=>rfl
   | false=>exact ih
theorem Ya3{own cl:List (Str × Addr)}{x:Str}{c:Addr}(h:(own++cl).lookup x=some c):own.lookup x=some c∨(own.lookup x=none∧cl.lookup x=some c):=by
 rw[Yhj]at h
 cases e:own.lookup x with
 | none=>rw[e]at h;exact .inr ⟨rfl,h⟩
 | some d=>rw[e]at h;exact .inl h
theorem Yqm{M:Model}{A:Around}{E:Value→Shared→Prop}{scope:Scope}{globals:Addr}{cl:List (Str × Addr)}{qual:Str}{outer:Env}{Q:Env→Shared→Prop}{s:Shared}{bt:Addr}
 (h:Q (newEnv scope s.heap.objs.size globals (cellsFrom (s.heap.objs.size+1) scope.names []++cl) qual none .none (some outer) bt) { s with heap:=pushCells (s.heap.push { cls:=.type "dict",data:=.dict #[] }) scope.names }) :
 wpAny M A (newFunctionEnv scope globals cl [] qual none .none (some outer) bt) Q E s:=by
 simp only[newFunctionEnv,Option.isSome_some,if_true]
 refine wpAny_bind (wpAny_alloc ?_)
 refine wpAny_bind (wpAny_layCells _ (fun name kind cells=>by cases hkc:kind==NameKind.cell<;>simp[hkc]) _ _ _ _ ?_)
 rw[show({ s with heap:=s.heap.push { cls:=.type "dict",data:=.dict #[] } }:Shared).heap.objs.size=s.heap.objs.size+1 from Heap.size_push ..,Ybu]
 rw[List.forIn_nil]
 exact wpAny_bind (wpAny_pure (wpAny_pure h))
theorem Ytj{pins:List (Addr × Obj)}{σ:St}{H:Hp}{s:Shared}{fp:List Addr}{h₁:Heap}{tk:Nat}{own:List (Str × Addr)}(S:CompSc X.N X.env.scope N src scope)(I:Inv X pins σ H s)(hf:∀b∈fp,FpOk X pins H b)(ho:∀b∈fp,∃o,s.heap.get? b=some o)
 (hn:h₁.Ns s.heap.objs.size fun _=>none) (hk:∀b o,s.heap.get? b=some o→h₁.get? b=some o) (hc:CellsOk h₁ (s.heap.objs.size+1) own) (ow:∀x c,(x,c)∈own→(x,NameKind.cell)∈scope.names) (has:∀x,scope.names.lookup x=some NameKind.cell→∃c,own.lookup x=some c) :
 Inv (Yau X scope N (own++clOf X.env scope.names []) s.heap.objs.size fp s H) [] (capσ src σ) H { s with heap:=h₁,toks:=tk }:=by
 have sub:∀x c,(clOf X.env scope.names []).lookup x=some c→X.env.cells.lookup x=some c:=fun x c e=>Yi3 scope.names [] (fun _ _ z=>nomatch z) x c (PySem.mem_of_lookup e)
 have clt:∀x c,(clOf X.env scope.names []).lookup x=some c→c < s.heap.objs.size:=fun x c e=>by
  obtain⟨v,q⟩:=I.cell x c (sub x c e)
  exact q.lt
 have owl:∀x c,own.lookup x=some c→s.heap.objs.size < c:=fun x c e=>(hc.empty x c (PySem.mem_of_lookup e)).2
 have nofree:∀x,scope.names.lookup x=some NameKind.free→own.lookup x=none:=fun x hx=>by
  cases e:own.lookup x with
  | none=>rfl
  | some c=>
    have:=S.cellU _ (ow x c (PySem.mem_of_lookup e)) rfl
    rw[hx]at this
    cases this
 have fpl:∀b∈fp,b < s.heap.objs.size:=fun b hb=>by
  obtain⟨o,e⟩:=ho b hb
  exact ql e
 have nfs:∀b∈fp,b∉frs X.stack:=fun b hb z=>by
  rcases qt (I.stkSub b z)with e | e
  ·exact(hf b hb).2.1 e
  ·exact(hf b hb).2.2.1 e
 refine⟨⟨I.ok.mod,S.kind,I.ok.glob,I.ok.blt,qu _,fun x y c h1 h2=>?_,fun x hx=>?_,fun x c z e=>?_,I.ok.hd,I.ok.frames,.inl rfl,fun b hb=>⟨qm (fpl b hb),fun x c e=>?_⟩,
  I.bs,Nat.le_trans I.ok.bsz I.sz,fun b o e hb=>?_,nfs,I.stack,I.stkFree⟩,rfl,I.bare,Un.kept hk,⟨_,hn,fun i x v h1 h2 h3=>?_⟩,fun x c e=>?_,I.fresh,fun x c e=>?_,fun p hp=>(nomatch hp),I.hok.kept hk,?_⟩
 ·rcases Ya3 h1 with h1 | ⟨_,h1⟩
  ·rcases Ya3 h2 with h2 | ⟨_,h2⟩
   ·exact name_of_addr hc.apart (PySem.mem_of_lookup h1) (PySem.mem_of_lookup h2)
   ·exact absurd (Nat.lt_trans (owl x c h1) (clt y c h2)) (Qg _)
  ·rcases Ya3 h2 with h2 | ⟨_,h2⟩
   ·exact absurd (Nat.lt_trans (owl y c h2) (clt x c h1)) (Qg _)
   ·exact I.ok.inj x y c (sub x c h1) (sub y c h2)
 ·show ∃c,(own++clOf X.env scope.names []).lookup x=some c
  rw[Yhj]
  cases e:own.lookup x with
  | some c=>exact⟨c,rfl⟩
  | none=>
    rcases Yje hx with hm | hm
    ·obtain⟨c,hc⟩:=I.ok.has x (S.fr _ hm rfl)
     exact Ygx (Ygw scope.names [] x c hm hc)
    ·obtain⟨c,hc⟩:=has x (S.cellU _ hm rfl)
     rw[e]at hc
     cases hc
 ·have z':scope.names.lookup x=some NameKind.cell:=by simpa using z
  obtain⟨d,hd⟩:=has x z'
  rcases Ya3 e with e | ⟨e,_⟩
  ·exact Nat.le_of_lt (owl x c e)
  ·rw[hd]at e;cases e
 ·rcases Ya3 e with e | ⟨_,e⟩
  ·exact Nat.ne_of_gt (Nat.lt_trans (fpl b hb) (owl x c e))
  ·exact(hf b hb).2.2.2.2.1 x c (sub x c e)
 ·rcases(hf b hb).2.2.2.1 with z | z
  ·exact I.ok.noex b o e z
  ·exact absurd (Qh (ql e) (Nat.le_trans I.ok.bsz z)) (Qg _)
 ·have hi:i < src.length:=by
   have:=(qo h2).1
   unfold capσ at this
   simpa using this
  have hs:src[i]?=some src[i]:=qq hi
  unfold capσ at h2
  rw[Qk,hs]at h2
  have h2':(src[i].bind fun j=>(σ[j]?).join)=some v:=Option.some.inj h2
  cases q:src[i]with
  | none=>rw[q]at h2';cases h2'
  | some j=>
    rw[q]at h2' hs
    have h2'':(σ[j]?).join=some v:=h2'
    obtain⟨hx,hfr⟩:=S.cap i j x h1 hs
    obtain⟨m,_,hl⟩:=I.loc
    have hk2:X.env.kindOf x=some NameKind.cell∨X.env.kindOf x=some NameKind.free:=S.fr (x,NameKind.free) (PySem.mem_of_lookup hfr) rfl
    have hσ:σ[j]?=some (some v):=by
     cases z:σ[j]? with
     | none=>rw[z]at h2'';cases h2''
     | some o=>
       rw[z]at h2''
       have:o=some v:=h2''
       rw[this]
    obtain⟨u,r,l⟩:=hl j x v hx hσ (.inr hk2)
    refine⟨u,r,.inr ⟨Yf9 hfr hk2,?_⟩⟩
    rcases l with⟨z,_⟩ | ⟨_,c,hc,hcell⟩
    ·rcases hk2 with q2 | q2
     ·rw[q2]at z;cases z
     ·rw[q2]at z;cases z
    ·obtain⟨d,hd⟩:=Ygx (Ygw (env:=X.env) scope.names [] x c (PySem.mem_of_lookup hfr) hc)
     have e2:=sub x d hd
     rw[hc]at e2
     cases e2
     refine⟨c,?_,hcell.keeps hk⟩
     show(own++clOf X.env scope.names []).lookup x=some c
     rw[Yhj,nofree x hfr]
     exact hd
 ·rcases Ya3 e with e | ⟨_,e⟩
  ·exact⟨_,(hc.empty x c (PySem.mem_of_lookup e)).1⟩
  ·obtain⟨v,q⟩:=I.cell x c (sub x c e)
   exact⟨v,q.keeps hk⟩
 ·rcases Ya3 e with e | ⟨_,e⟩
  ·exact I.hok.fresh (Nat.le_of_lt (owl x c e))
  ·exact I.freeC x c (sub x c e)
 ·unfold capσ
  rw[qf]
  exact S.len
theorem Yyd{pins:List (Addr × Obj)}{σ σ1:St}{H H':Hp}{s s':Shared}{fp:List Addr}{cl:List (Str × Addr)}{C:Addr}{pn:List (Addr × Obj)}(I:Inv X pins σ H s)(hf:∀b∈fp,FpOk X pins H b)(J:Inv (Yau X scope N cl C fp s H) pn σ1 H' s'):Inv X pins σ H' s':=
 I.call' J.os J.base J.hok J.bare fun b hb=>⟨(hf b hb).2.2.2.1,(hf b hb).2.1,(hf b hb).2.2.2.2.1,(hf b hb).2.2.2.2.2⟩
theorem Yof{pins:List (Addr × Obj)}{σ:St}{H:Hp}{s:Shared}{Q:VK}{it:Addr}{fp:List Addr}{tn:Nat→Heap→Prop}{J:It}{R:Value→Addr→Result→Shared→Prop}{E:Value→Shared→Prop}
 (S:CompSc X.N X.env.scope N src scope) (hc:X.calm=true) (hg:∀cl C fp s H,PG (Yau X scope N cl C fp s H) tg g) (hi:∀cl C fp s H,PIfs (Yau X scope N cl C fp s H) ifs ti) (he:∀cl C fp s H,PE (Yau X scope N cl C fp s H) elt te)
 (I:Inv X pins σ H s) (T:Turn X.prog X.w X.K tg J fp it tn) (st:tn 0 s.heap) (hf:∀b∈fp,FpOk X pins H b)
 (h:∀p,H p=none→∃W:Nat→Nat→St→Hp→Prop,(∃m,W 0 m (capσ src σ) (upd H p (.lst [])))∧∀i m σ1 H2,W i m σ1 H2→
  (J.stop i H2∧Q (.ref p) H2)∨
  (J.go i H2∧∀x H3,J.yld i H2 x H3→g x σ1 H3 fun σ4 H4=>ti σ4 H4 fun b H5=>if b=true then te σ4 H5 fun v H6=>∃xs,H6 p=some (.lst xs)∧xs.length < sizeLine∧∃m',m' < m∧W (i+1) m' σ4 (upd H6 p (.lst (xs++[v])))else ∃m',m' < m∧W (i+1) m' σ4 H5))
 (hR:∀(D C:Addr) (s':Shared) (H':Hp) (m:Str→Option Value),Inv X pins σ H' s'→s'.heap.Ns C m→H' C=none→C≠X.env.locals→X.s₀.heap.objs.size≤C→(∀x c,X.env.cells.lookup x=some c→c≠C)→(∀p∈X.pn++pins,p.1≠C)→Q (.ref D) H'→R (.ref D) C (.ok .next) s') :
 wpAny (model X.prog X.w) X.A (newList []) (fun acc s₃=>wpAny (model X.prog X.w) X.A (newFunctionEnv scope X.env.globals (clOf X.env scope.names []) [] X.env.qual none .none (some X.env)) (fun cenv s₄=>
  codeAny (model X.prog X.w) X.A (.compStart (.ListComp elt [⟨tg,iter,ifs,0⟩] scope pos) 0 (.ref it) acc { cenv with scope:=relabel scope X.env }) (R acc cenv.locals) s₄) E s₃) E s:=by
 refine wpAny_newObj_type (Yqm ?_)
 have hfree:H s.heap.objs.size=none:=I.fresh
 obtain⟨W,⟨m0,w0⟩,turn⟩:=h s.heap.objs.size hfree
 have I3:Inv X pins σ (upd H s.heap.objs.size (.lst [])) { s with heap:=s.heap.push { cls:=.type "list",dict:=none,data:=.seq ([]:List Value).toArray },toks:=s.toks }:=I.lnew (ys:=[]) (its:=[]) .nil (Nat.zero_le _)
 generalize hD:s.heap.objs.size=Dd at *
 generalize hH3:upd H Dd (.lst [])=H3 at *
 have kp0:∀b o,s.heap.get? b=some o→(s.heap.push { cls:=.type "list",dict:=none,data:=.seq ([]:List Value).toArray }).get? b=some o:=fun b o e=>qe _ e
 have lt0:∀b o,s.heap.get? b=some o→b≠Dd:=fun b o e=>by rw[←hD];exact qm (ql e)
 generalize hs3:s.heap.push { cls:=.type "list",dict:=none,data:=.seq ([]:List Value).toArray }=hp3 at *
 have f3:∀b∈fp,FpOk X pins H3 b:=fun b hb=>by
  obtain⟨o,e,_⟩:=T.obj _ _ st b hb
  refine⟨?_,(hf b hb).2⟩
  rw[←hH3,Yz (lt0 b o e)]
  exact(hf b hb).1
 have ob3:∀b∈fp,∃o,hp3.get? b=some o:=fun b hb=>by
  obtain⟨o,e,_⟩:=T.obj _ _ st b hb
  exact⟨o,kp0 b o e⟩
 dsimp only
 have hns₁:(pushCells (hp3.push { cls:=.type "dict",data:=.dict #[] }) scope.names).Ns hp3.objs.size (fun _=>none):=(Heap.Ns.new hp3 (.type "dict")).keeps (pushCells_keeps _ _)
 have old:∀b o,hp3.get? b=some o→(pushCells (hp3.push { cls:=.type "dict",data:=.dict #[] }) scope.names).get? b=some o:=fun b o e=>pushCells_keeps _ _ b o (qe _ e)
 have cok:=cellsFrom_ok scope.names (hp3.push { cls:=.type "dict",data:=.dict #[] }) (hp3.objs.size+1) [] ⟨fun _ _ hm=>(nomatch hm),List.Pairwise.nil⟩ (by rw[Heap.size_push];exact qu _)
 rw[Heap.size_push]at cok
 have chas:∀x,scope.names.lookup x=some NameKind.cell→∃c,(cellsFrom (hp3.objs.size+1) scope.names []).lookup x=some c:=fun x hx=>Option.isSome_iff_exists.mp (PySem.W.cellsFrom_some _ _ _ (.inl hx))
 have cmem:∀x c,(x,c)∈cellsFrom (hp3.objs.size+1) scope.names []→(x,NameKind.cell)∈scope.names:=fun x c h=>Yea _ _ x c h
 generalize cellsFrom (hp3.objs.size+1) scope.names []=own at *
 generalize pushCells (hp3.push { cls:=.type "dict",data:=.dict #[] }) scope.names=h₁ at *
 have I4:Inv (Yau X scope N (own++clOf X.env scope.names []) hp3.objs.size fp { s with heap:=hp3,toks:=s.toks } H3) [] (capσ src σ) H3 { s with heap:=h₁,toks:=s.toks }:=
  Ytj (s:={ s with heap:=hp3,toks:=s.toks }) (tk:=s.toks) S I3 f3 ob3 hns₁ old cok cmem chas
 have st4:tn 0 h₁:=T.keep _ _ _ st fun b _ o e=>old b o (kp0 b o e)
 have hCl:hp3.objs.size≠X.env.locals:=Nat.ne_of_gt I3.lt
 have hCc:∀x c,X.env.cells.lookup x=some c→c≠hp3.objs.size:=fun x c e=>by
  obtain⟨v,q⟩:=I3.cell x c e
  exact qm q.lt
 have hCp:∀p∈X.pn++pins,p.1≠hp3.objs.size:=fun p hp=>qm (ql (I3.pin p hp).1)
 have stat:∀{H':Hp},(∀b∈fp,H' b=none)→∀b∈fp,FpOk (Yau X scope N (own++clOf X.env scope.names []) hp3.objs.size fp { s with heap:=hp3,toks:=s.toks } H3) [] H' b:=fun {H'} hn b hb=>by
  obtain⟨e1,e2⟩:=I4.ok.exf b hb
  exact⟨hn b hb,e1,I4.ok.exfs b hb,.inl hb,e2,fun p hp=>nomatch hp⟩
 have loop:codeAny (model X.prog X.w) X.A (.compLoop (.ListComp elt [⟨tg,iter,ifs,0⟩] scope pos) 0 (.ref it) (.ref Dd) (compEnvC scope (own++clOf X.env scope.names []) hp3.objs.size X.env)) (R (.ref Dd) hp3.objs.size) { s with heap:=h₁,toks:=s.toks }:=by
  refine Yfx (fun n s'=>∃i σ' H',Inv (Yau X scope N (own++clOf X.env scope.names []) hp3.objs.size fp { s with heap:=hp3,toks:=s.toks } H3) [] σ' H' s'∧tn i s'.heap∧(∀b∈fp,H' b=none)∧W i n σ' H') ?_ m0 ⟨0,_,H3,I4,st4,fun b hb=>(f3 b hb).1,w0⟩
  rintro n s3 ⟨i,σ3,H3',I3',st3,fr3,w3⟩
  rcases turn i n σ3 H3' w3 with⟨stop,qn⟩ | ⟨go,step⟩
  ·refine thn (T.done (Yau X scope N (own++clOf X.env scope.names []) hp3.objs.size fp { s with heap:=hp3,toks:=s.toks } H3) rfl rfl rfl hc i [] s3 σ3 H3' _ I3' (stat fr3) st3 stop) fun r s4 hx_=>?_
   obtain⟨hr,I5⟩:=hx_
   subst hr
   obtain⟨m,hm,_⟩:=I5.loc
   exact hR Dd hp3.objs.size s4 H3' m (Yyd I3 f3 I5) hm I5.free hCl (Nat.le_trans I3.sz (qu _)) hCc hCp qn
  ·refine thn (T.item (Yau X scope N (own++clOf X.env scope.names []) hp3.objs.size fp { s with heap:=hp3,toks:=s.toks } H3) rfl rfl rfl hc i [] s3 σ3 H3' _ I3' (stat fr3) st3 go) fun r s4 hx_=>?_
   obtain⟨u,hr,h4⟩:=hx_
   subst hr
   refine thn h4 fun _ s5 hx_=>?_
   obtain⟨x,H5,I5,r5,y5,st5,fr5⟩:=hx_
   have I5':=I5.pinned (stat fr5) (T.obj _ _ st5)
   have un:∀{α:Type} {t:Sem α} {Q':α→Shared→Prop} {E':Value→Shared→Prop} {s':Shared},wpAny (model X.prog X.w) X.A t Q' (fun _ _=>False) s'→wpAny (model X.prog X.w) X.A t Q' E' s':=fun h=>wpAny_mono h (fun _ _ q=>q) fun _ _ f=>f.elim
   refine un (thn (hg _ _ _ _ _ _ s5 σ3 H5 x u _ I5' r5 (step x H5 y5)) fun _ s6 hx_=>?_)
   obtain⟨σ6,H6,I6,q6⟩:=hx_
   refine un (thn (hi _ _ _ _ _ _ s6 σ6 H6 _ I6 q6) fun ok s7 hx_=>?_)
   obtain⟨H7,I7,q7⟩:=hx_
   have again:∀{H8:Hp} {s8:Shared} {m':Nat},m' < n→Inv (Yau X scope N (own++clOf X.env scope.names []) hp3.objs.size fp { s with heap:=hp3,toks:=s.toks } H3) ([]++Yn4 fp s5.heap) σ6 H8 s8→W (i+1) m' σ6 H8→
    ∃m,m < n∧∃i σ' H',Inv (Yau X scope N (own++clOf X.env scope.names []) hp3.objs.size fp { s with heap:=hp3,toks:=s.toks } H3) [] σ' H' s8∧tn i s8.heap∧(∀b∈fp,H' b=none)∧W i m σ' H':=fun {H8 s8 m'} hm I8 w8=>by
    refine⟨m',hm,i+1,σ6,H8,I8.unpinned,T.keep _ _ _ st5 fun b hb o e=>(I8.pin (b,o) (Qq _ (Qq _ (Yfn hb e)))).1,fun b hb=>?_,w8⟩
    obtain⟨o,e,d⟩:=T.obj _ _ st5 b hb
    exact(I8.pin (b,o) (Qq _ (Qq _ (Yfn hb e)))).2.1
   cases ok with
   | false=>
     rw[if_neg qi]at q7 ⊢
     obtain⟨m',hm,w7⟩:=q7
     exact again hm I7 w7
   | true=>
     rw[if_pos rfl]at q7 ⊢
     refine un (thn (he _ _ _ _ _ _ s7 σ6 H7 _ I7 q7) fun y s8 hx_=>?_)
     obtain⟨v,H8,I8,r8,q8⟩:=hx_
     obtain⟨xs,e8,z8,m',hm,w8⟩:=q8
     refine un (thn (Yoe _ s8 σ6 H8 (.ref Dd) [v] (.ref Dd) [y] (fun _ H9=>H9=upd H8 Dd (.lst (xs++[v]))) I8 rfl (.cons r8 .nil) ⟨Dd,xs,v,rfl,rfl,e8,z8,rfl⟩) fun _ s9 hx_=>?_)
     obtain⟨_,H9,I9,_,q9⟩:=hx_
     subst q9
     exact again hm I9 w8
 exact codeAny_compStart_list loop (T.self _ _ _ _ _ st4 loop)
theorem y1i(S:CompSc X.N X.env.scope N src scope)(hc:X.calm=true)(hit:PI X tg iter wi)(hg:∀cl C fp s H,PG (Yau X scope N cl C fp s H) tg g)(hi:∀cl C fp s H,PIfs (Yau X scope N cl C fp s H) ifs ti)(he:∀cl C fp s H,PE (Yau X scope N cl C fp s H) elt te)
 (hs:∀x,foldedSetIterable iter X.env x=pure x:=by intro _;rfl):PE X (.ListComp elt [⟨tg,iter,ifs,0⟩] scope pos) (tLC wi src g ti te):=by
 intro pins s σ H Q I h
 rw[eval_ListComp]
 have hcl:closureFor scope X.env=pure (clOf X.env scope.names []):=Ye0 fun y hy hf=>I.ok.has y.1 (S.fr y hy hf)
 refine wpAny_comprehension_free (use:=none) rfl hs hcl S.kind S.names ?_
 refine thn (hit pins s σ H _ I h) fun v s1 h1=>thn h1 fun itv s2 hx_=>?_
 obtain⟨it,fp,tn,J,H2,e,I2,T,st2,f2,q⟩:=hx_
 subst e
 refine Yof (Q:=Q) (R:=fun acc C=>compPost (model X.prog X.w) X.A X.xe none (EP X pins σ Q) acc C) S hc hg hi he I2 T st2 f2 q fun D C s' H' m I' hm hC hCl hCs hCc hCp hq=>?_
 refine⟨m,hm,fun h' sb=>?_⟩
 exact⟨.ref D,H',I'.turned (t':=s'.toks) (fun b o hb e=>(sb.2 b hb).trans e) hC hCl (.inr hCs) hCc hCp,rfl,hq⟩
theorem y1j{i:Nat}{y:Str}{py spos:Pos}(S:CompSc X.N X.env.scope N src scope)(hc:X.calm=true)(hit:PI X tg iter wi)(hg:∀cl C fp s H,PG (Yau X scope N cl C fp s H) tg g)(hi:∀cl C fp s H,PIfs (Yau X scope N cl C fp s H) ifs ti)(he:∀cl C fp s H,PE (Yau X scope N cl C fp s H) elt te)
 (hN:X.N.Nodup) (hy:X.N[i]?=some y) (hx:Loc X.env.scope y) (hsw:swapsWith (.ListComp elt [⟨tg,iter,ifs,0⟩] scope pos) (some (.Name y py)) spos.line X.env=pure true)
 (hf:X.fn y=true∨X.env.scope.names.lookup y=some .local:=by first | exact .inl rfl | exact .inr rfl | assumption)
 (hs:∀x,foldedSetIterable iter X.env x=pure x:=by intro _;rfl):PS X (.Assign [.Name y py] (.ListComp elt [⟨tg,iter,ifs,0⟩] scope pos) spos) (tAsg (tLC wi src g ti te) (Yta i)):=by
 intro pins s σ H D I h
 rw[exec_Assign_Name_used _ _ _ _ hsw]
 refine wpAny_bind (wpAny_standAt (wpAny_bind ?_))
 show wpAny _ X.A (do let _ ←comprehension (.ListComp elt [⟨tg,iter,ifs,0⟩] scope pos) scope X.env _ (newList []) false (eval iter X.env) (some (assign (.Name y py) X.env))) _ _ s
 have hcl:closureFor scope X.env=pure (clOf X.env scope.names []):=Ye0 fun y hy hf=>I.ok.has y.1 (S.fr y hy hf)
 refine wpAny_bind (wpAny_mono (wpAny_comprehension_free (use:=some (assign (.Name y py) X.env)) (Q:=fun _ s'=>SP X pins D .next s') rfl hs hcl S.kind S.names ?_) (fun _ s' hq=>wpAny_pure (wpAny_pure hq)) fun _ _ e=>e)
 refine thn (hit pins s σ H _ I h) fun v s1 h1=>thn h1 fun itv s2 hx_=>?_
 obtain⟨it,fp,tn,J,H2,e,I2,T,st2,f2,q⟩:=hx_
 subst e
 refine Yof (Q:=fun x H1=>Yta i x σ H1 D.nx) (R:=fun acc C=>compPost (model X.prog X.w) X.A X.xe (some (assign (.Name y py) X.env)) (fun _ s'=>SP X pins D .next s') acc C) S hc hg hi he I2 T st2 f2 q fun Dd C s' H' m I' hm hC hCl hCs hCc hCp hq=>?_
 show wpAny _ X.A (assign (.Name y py) X.env (.ref Dd)) _ _ s'
 refine wpAny_assign_Name (Yn3 I' hN hy hx (v:=.ref Dd) rfl (fun s'' I'' hsb=>?_) hf)
 obtain⟨a,sb,ha⟩:=hsb
 have hCa:C≠a:=by
  rcases ha with e | e
  ·rw[e];exact hCl
  ·exact Ne.symm (hCc y a e)
 refine⟨m,hm.sameBut sb hCa,fun h' sb'=>?_⟩
 exact⟨_,H',I''.turned (t':=s''.toks) (fun b o hb e=>(sb'.2 b hb).trans e) hC hCl (.inr hCs) hCc hCp,hq⟩
end
end L2
namespace M
open PySem PySem.Spec PyProof.Rows L2
section
section
def Rise(xs:Array Nat):Prop:=xs.toList.Pairwise (· < ·)
theorem Ymc{xs:Array Nat}(hr:Rise xs)(j:Nat):∀(fuel lo hi:Nat),lo≤hi→hi≤xs.size→hi - lo≤fuel→
 (∀(i:Nat) (h:i < xs.size),i < lo→xs[i] < j)→(∀(i:Nat) (h:i < xs.size),hi≤i→j≤xs[i])→
 SetTable.below.go xs j fuel lo hi≤xs.size∧(∀(i:Nat) (h:i < xs.size),i < SetTable.below.go xs j fuel lo hi→xs[i] < j)∧(∀(i:Nat) (h:i < xs.size),SetTable.below.go xs j fuel lo hi≤i→j≤xs[i])
 | 0,lo,hi,h1,h2,h3,h4,h5=>by
   have e:lo=hi:=by lia
   subst e
   rw[SetTable.below.go]
   exact⟨h2,h4,h5⟩
 | fuel+1,lo,hi,h1,h2,h3,h4,h5=>by
   have mono:∀(i k:Nat) (hi:i < xs.size) (hk:k < xs.size),i < k→xs[i] < xs[k]:=fun i k hi hk h=>by
    have:=List.pairwise_iff_getElem.mp hr i k (by simpa using hi) (by simpa using hk) h
    simpa using this
   rw[SetTable.below.go]
   by_cases hl:lo < hi
   ·rw[if_pos hl]
    have hm:(lo+hi) / 2 < xs.size:=by lia
    have hg:xs.getD ((lo+hi) / 2) j=xs[(lo+hi) / 2]:=by simp[Array.getD,hm]
    dsimp only
    rw[hg]
    by_cases hlt:xs[(lo+hi) / 2] < j
    ·rw[if_pos hlt]
     refine Ymc hr j fuel _ _ (by lia) h2 (by lia) (fun i hi' hh=>?_) h5
     by_cases e:i=(lo+hi) / 2
     ·subst e;exact hlt
     ·exact Nat.lt_trans (mono i _ hi' hm (by lia)) hlt
    ·rw[if_neg hlt]
     refine Ymc hr j fuel _ _ (by lia) (by lia) (by lia) h4 (fun i hi' hh=>?_)
     by_cases e:i=(lo+hi) / 2
     ·subst e;lia
     ·have:=mono _ i hm hi' (by lia)
      lia
   ·rw[if_neg hl]
    have e:lo=hi:=by lia
    subst e
    exact⟨h2,h4,h5⟩
theorem Ylr{xs:Array Nat}(hr:Rise xs)(j:Nat):SetTable.below xs j≤xs.size∧(∀a∈xs.toList.take (SetTable.below xs j),a < j)∧(∀a∈xs.toList.drop (SetTable.below xs j),j≤a):=by
 obtain⟨h1,h2,h3⟩:=Ymc hr j xs.size 0 xs.size (Nat.zero_le _) (qu _) (by lia) (fun i _ h=>absurd h (Nat.not_lt_zero _)) (fun i h h'=>absurd h (by lia))
 have e:SetTable.below xs j=SetTable.below.go xs j xs.size 0 xs.size:=rfl
 rw[e]
 refine⟨h1,fun a ha=>?_,fun a ha=>?_⟩
 ·obtain⟨i,hi,rfl⟩:=List.mem_iff_getElem.mp ha
  rw[List.length_take]at hi
  have hi':i < xs.size:=by have:xs.toList.length=xs.size:=by simp
                           lia
  rw[List.getElem_take,Array.getElem_toList]
  exact h2 i hi' (by lia)
 ·obtain⟨i,hi,rfl⟩:=List.mem_iff_getElem.mp ha
  rw[List.length_drop]at hi
  have hs:xs.toList.length=xs.size:=by simp
  rw[List.getElem_drop,Array.getElem_toList]
  exact h3 _ (by lia) (by lia)
theorem Ygy{α:Type}(xs:Array α)(p:Nat)(x:α):(SetTable.insertAt xs p x).toList=xs.toList.take p++x::xs.toList.drop p:=by
 unfold SetTable.insertAt
 simp[Array.toList_extract,List.extract_eq_drop_take]
 exact List.take_of_length_le (by simp)
theorem Yqn{xs:Array Nat}(hr:Rise xs)(j:Nat)(hn:xs[SetTable.below xs j]?≠some j):Rise (SetTable.insertAt xs (SetTable.below xs j) j):=by
 obtain⟨h1,h2,h3⟩:=Ylr hr j
 unfold Rise at hr ⊢
 rw[Ygy]
 generalize hp:SetTable.below xs j=p at h1 h2 h3 hn ⊢
 rw[←Array.getElem?_toList]at hn
 generalize xs.toList=l at hr h2 h3 hn ⊢
 have hr2:=hr
 rw[←List.take_append_drop p l,List.pairwise_append]at hr
 obtain⟨r1,r2,r3⟩:=hr
 have hgt:∀a∈l.drop p,j < a:=by
  cases hd:l.drop p with
  | nil=>intro a ha;cases ha
  | cons b r=>
    rw[hd]at r2 h3
    have hb:l[p]?=some b:=by
     have:(l.drop p)[0]?=some b:=by rw[hd];rfl
     rwa [List.getElem?_drop,Nat.add_zero]at this
    have hjb:j < b:=Nat.lt_of_le_of_ne (h3 b qh) (fun z=>hn (by rw[hb,z]))
    intro a ha
    rcases qt ha with rfl | ha
    ·exact hjb
    ·exact Nat.lt_trans hjb ((List.pairwise_cons.mp r2).1 a ha)
 rw[List.pairwise_append]
 refine⟨r1,List.pairwise_cons.mpr ⟨hgt,r2⟩,fun a ha b hb=>?_⟩
 rcases qt hb with rfl | hb
 ·exact h2 a ha
 ·exact Nat.lt_trans (h2 a ha) (hgt b hb)
theorem Yu9{t:SetTable}{j:Nat}(h:∀i,t.slot j≠.live i):t.place[SetTable.below t.place j]?≠some j:=fun z=>by
 refine h (SetTable.below t.place j) ?_
 unfold SetTable.slot
 dsimp only
 rw[z]
 simp
theorem Yhk{t:SetTable}{ha:Nat→Int}{h:Int}:∀(fuel:Nat) (p:SetTable.Probe) {j:Nat} {d:Option Nat},(∀x,p.dummy=some x→∀i,t.slot x≠.live i)→
 SetTable.probe.go t ha h fuel p=some (.empty j d)→∀i,t.slot (d.getD j)≠.live i
 | 0,p,j,d,_,e=>by rw[SetTable.probe.go]at e;cases e
 | fuel+1,p,j,d,hd,e=>by
   rw[SetTable.probe.go]at e
   split at e
   ·rename_i hs
    cases e
    intro i
    cases hp:p.dummy with
    | none=>rw[Option.getD_none,hs];exact fun z=>nomatch z
    | some x=>exact hd x hp i
   ·rename_i hs
    refine Yhk fuel _ (fun x hx i=>?_) e
    have hx':x=p.j:=by
     unfold SetTable.advance at hx
     split at hx
     ·exact(Option.some.inj hx).symm
     ·exact(Option.some.inj hx).symm
    rw[hx',hs]
    exact fun z=>nomatch z
   ·split at e
    ·cases e
    ·refine Yhk fuel _ (fun x hx i=>hd x ?_ i) e
     unfold SetTable.advance at hx
     split at hx
     ·exact hx
     ·exact hx
def Tab(bt:Bool)(t:SetTable):Prop:=(bt=false→t.led=true)∧(t.plain=true→Rise t.place)
theorem Tab.standIn{bt:Bool}{t:SetTable}(h:Tab bt t)(n:Nat):Tab bt (t.standIn n):=⟨h.1,fun z=>nomatch z⟩
theorem Tab.off{bt:Bool}{t:SetTable}(h:Tab bt t):Tab bt { t with plain:=false }:=⟨h.1,fun z=>nomatch z⟩
theorem Tab.fresh{bt:Bool}:Tab bt (.fresh 0 0 (!bt)):=⟨fun h=>by subst h;rfl,fun _=>.nil⟩
theorem Tab.layNew{bt:Bool}{t:SetTable}(h:Tab bt t)(es:Array (Int × Value))(hh:Int)(x:Value):Tab bt (PySem.layNew t es hh x).2.1:=by
 unfold PySem.layNew
 split
 ·rename_i slot wd hf
  dsimp only
  unfold SetTable.orStandIn
  split
  ·refine⟨h.1,fun z=>?_⟩
   refine Yqn (h.2 z) slot (Yu9 ?_)
   unfold SetTable.freeSlot at hf
   split at hf
   ·rename_i j dummy hp
    cases hf
    exact Yhk _ _ (fun x hx=>by simp[SetTable.probeStart]at hx) hp
   ·cases hf
  ·exact⟨h.1,fun z=>nomatch z⟩
 ·exact h.standIn _
theorem Yjf{mask finger moves:Nat}{led plain:Bool}{hs:Array Int}{t:SetTable}{o:Array Nat}(h:SetTable.laid mask finger moves led plain hs=some (t,o)):Rise t.place∧t.led=led∧t.plain=plain:=by
 unfold SetTable.laid at h
 obtain⟨owner,_,h⟩:=qa h
 cases h
 refine⟨?_,rfl,rfl⟩
 unfold Rise
 show(((List.range (mask+1)).filterMap fun j=>(owner.getD j none).map (j,·)).map (·.1)).Pairwise (· < ·)
 rw[List.map_filterMap]
 refine List.Pairwise.filterMap _ (fun a b hab x hx y hy=>?_) List.pairwise_lt_range
 simp at hx hy
 obtain⟨_,_,rfl⟩:=hx
 obtain⟨_,_,rfl⟩:=hy
 exact hab
theorem Tab.relayAll{bt:Bool}{t:SetTable}(h:Tab bt t)(es:Array (Int × Value))(n:Nat):Tab bt (PySem.relayAll t es n).2.1:=by
 unfold PySem.relayAll
 split
 ·rename_i t' order hr
  obtain⟨h1,h2,h3⟩:=Yjf hr
  dsimp only
  split
  ·exact⟨fun z=>by rw[h2];exact h.1 z,fun _=>h1⟩
  ·exact h.standIn _
 ·exact h.standIn _
end
end
section
section
variable {prog:Program} {w:World} {A:Around} {E:Value→Shared→Prop} {s:Shared}
noncomputable def kOf(e:Int × Value):Int:=match e.2 with
 | .int n _=>n
 | _=>0
noncomputable abbrev byT(w:World):Bool:=w.params.followText "set-order"
def SetI(prog:Program)(w:World)(h:Heap)(a:Addr)(ns:List Int):Prop:=
 ∃o es ep t,h.get? a=some o∧o.ExactSet∧o.data=.set es ep t∧ElemsOf (intKind prog w) es.toList∧es.toList.map kOf=ns∧ns.Nodup∧es.size < scanBound∧t.fits es.size=true∧Tab (byT w) t
theorem Yva{k:Int}{e:Int × Value}(h:(intKind prog w).is k e.2=true):kOf e=k:=by
 obtain⟨t,ht⟩:=Value.isInt_shape h
 unfold kOf
 rw[ht]
theorem Yfq{es:List (Int × Value)}(h:ElemsOf (intKind prog w) es){e:Int × Value}(he:e∈es):∃t,e=(hashInt (kOf e),.int (kOf e) t):=by
 obtain⟨⟨k,hk,hh⟩,_⟩:=h e he
 have hk':=Yva hk
 obtain⟨t,ht⟩:=Value.isInt_shape hk
 refine⟨t,?_⟩
 rw[hk']
 exact Prod.ext hh ht
theorem SetI.at{h h':Heap}{a:Addr}{ns:List Int}(x:SetI prog w h a ns)(e:∀o,h.get? a=some o→h'.get? a=some o):SetI prog w h' a ns:=
 let ⟨o,es,ep,t,ho,r⟩:=x
 ⟨o,es,ep,t,e o ho,r⟩
theorem SetI.len{h:Heap}{a:Addr}{ns:List Int}(x:SetI prog w h a ns):ns.length < scanBound:=by
 obtain⟨o,es,ep,t,ho,hex,hd,hel,hns,hnd,hb,_⟩:=x
 rw[←hns,qf,qj]
 exact hb
theorem Yga{h:Heap}{a:Addr}{o:Obj}{es:Array (Int × Value)}{ep:Nat}{t:SetTable}(ho:h.get? a=some o)(hd:o.data=.set es ep t)(es':Array (Int × Value))(t':SetTable) :
 (h.update a (Obj.putSet es' t')).get? a=some { o with data:=.set es' (ep+1) t' }:=by
 have:=Heap.get?_update_self (Obj.putSet es' t') ho (by rw[putSet_of es' t' hd];rfl)
 rw[putSet_of es' t' hd]at this
 exact this
theorem Yse{g:Bool→Sem Unit}(hg:∀(b:Bool) (s₁:Shared) (Q':Unit→Shared→Prop),Q' () s₁→wpAny (model prog w) A (g b) Q' E s₁)
 {a:Addr} {o:Obj} {es:Array (Int × Value)} {ep:Nat} {t:SetTable} (ho:s.heap.get? a=some o) (hex:o.ExactSet) (hd:o.data=.set es ep t)
 {es1:Array (Int × Value)} {t2:SetTable} {ms:List Int} (hel1:ElemsOf (intKind prog w) es1.toList) (hms:(es1.toList.map kOf).Perm ms) (hnd:ms.Nodup)
 (hb1:es1.size < scanBound) (hf2:t2.fits es1.size=true) (ht2:Tab (byT w) t2) {wasDummy:Bool} {R:Option Bool→Shared→Prop}
 (h:∀h' ns',Heap.SameBut a s.heap h'→SetI prog w h' a ns'→ns'.Perm ms→R (some true) { s with heap:=h' }) :
 wpAny (model prog w) A (do
  storeSet a es1 t2
  if (!wasDummy&&t2.tooFull)=true then do
      g (relayAll t2 es1 (SetTable.grown es1.size)).2.2
      storeSet a (relayAll t2 es1 (SetTable.grown es1.size)).1 (relayAll t2 es1 (SetTable.grown es1.size)).2.1
      pure (some true)
   else pure (some true)) R E s:=by
 refine wpAny_bind (wpAny_storeSet_of ho hd ?_ (fits_of_scanBound hb1))
 have ho1:=Yga ho hd es1 t2
 have hsb1:=Heap.SameBut.update s.heap a (Obj.putSet es1 t2)
 split
 ·have hp:=relayAll_perm t2 es1 (SetTable.grown es1.size)
  have hfr:=relayAll_fits t2 es1 (SetTable.grown es1.size)
  have htr:=ht2.relayAll es1 (SetTable.grown es1.size)
  generalize hRl:relayAll t2 es1 (SetTable.grown es1.size)=Rl at hp hfr htr ⊢
  obtain⟨es2,t3,gave2⟩:=Rl
  dsimp only at hp hfr htr ⊢
  have hel2:ElemsOf (intKind prog w) es2.toList:=hel1.perm hp
  have hsz:es2.size=es1.size:=by rw[←qj,hp.length_eq,qj]
  have hb2:es2.size < scanBound:=by rw[hsz];exact hb1
  have hp2:=(hp.map kOf).trans hms
  refine wpAny_bind (hg _ _ _ ?_)
  refine wpAny_bind (wpAny_storeSet_of ho1 rfl ?_ (fits_of_scanBound hb2))
  have ho2:=Yga ho1 rfl es2 t3
  exact wpAny_pure (h _ _ (hsb1.trans (Heap.SameBut.update _ a _)) ⟨_,es2,_,t3,ho2,hex,rfl,hel2,rfl,hp2.nodup_iff.mpr hnd,hb2,hfr,htr⟩ hp2)
 ·exact wpAny_pure (h _ _ hsb1 ⟨_,es1,_,t2,ho1,hex,rfl,hel1,rfl,hms.nodup_iff.mpr hnd,hb1,hf2,ht2⟩ hms)
theorem Yvb{a:Addr}{ns:List Int}{k:Int}{u:Tok}{Q:Bool→Shared→Prop}(hS:SetI prog w s.heap a ns)(hroom:ns.length+1 < scanBound)
 (h:∀h' ns',Heap.SameBut a s.heap h'→SetI prog w h' a ns'→ns'.Perm (if k∈ns then ns else ns++[k])→Q (!decide (k∈ns)) { s with heap:=h' }) :
 wpAny (model prog w) A (setAddHashed a (.int k u) (hashInt k)) Q E s:=by
 have hS0:=hS
 obtain⟨o,es,ep,t,ho,hex,hd,hel,hns,hnd,hb,hf,ht⟩:=hS
 have hkey:(intKind prog w).is k (.int k u)=true:=intKind_is _ _ _ _
 have hsc:(Value.int k u).scannable=true:=rfl
 have hsz:es.size=ns.length:=by rw[←hns,qf,qj]
 unfold setAddHashed setAddHashedIn
 refine wpAny_holding (wpAny_bind (wpAny_setState_of ho hd hf ?_))
 dsimp only
 rw[byScan_of hsc hb hel]
 simp only[↓reduceIte]
 unfold setAddByScan
 refine wpAny_bind ?_
 refine wpAny_bind (wpAny_rule ?_)
 refine wpAny_bind (wpAny_setScan_of (knd:=intKind prog w) (k:=k) hkey ho hd hf hel ?_)
 cases hr:List.findIdx? (fun e=>(intKind prog w).is k e.2) es.toList with
 | some j=>
   dsimp only
   obtain⟨hj,hpj,_⟩:=List.findIdx?_eq_some_iff_getElem.mp hr
   have hk:k∈ns:=by
    rw[←hns,←Yva hpj]
    exact Qm (qy hj)
   refine wpAny_pure (wpAny_pure ?_)
   have e:s={ s with heap:=s.heap }:=by cases s;rfl
   have:=h s.heap ns (Heap.SameBut.refl a s.heap) hS0 (by rw[if_pos hk])
   rw[decide_eq_true hk]at this
   rw[e];exact this
 | none=>
   dsimp only
   have hk:k∉ns:=fun hk=>by
    rw[←hns]at hk
    obtain⟨e,he,hke⟩:=qx hk
    have h1:=List.findIdx?_eq_none_iff.mp hr e he
    obtain⟨t',ht'⟩:=Yfq hel he
    rw[ht',hke]at h1
    have h2:(intKind prog w).is k (.int k t')=true:=intKind_is _ _ _ _
    rw[h2]at h1
    exact Bool.noConfusion h1
   have hgw:∀(b:Bool) {s₁:Shared} {Q':Unit→Shared→Prop},Q' () s₁→wpAny (model prog w) A (match b with | true=>rule "set.scan.the-table-gave-way" | false=>pure ()) Q' E s₁:=
    fun b s₁ Q' hq=>by cases b<;>first | exact wpAny_pure hq | exact wpAny_rule hq
   have hperm:=layNew_perm t es (hashInt k) (.int k u)
   have hfits:=layNew_fits t es (hashInt k) (.int k u)
   have htab:=ht.layNew es (hashInt k) (.int k u)
   show wpAny (model prog w) A (do
    let (es,t,wasDummy,gave):=PySem.layNew t es (hashInt k) (.int k u)
    _) _ _ _
   generalize hL:layNew t es (hashInt k) (.int k u)=L at hperm hfits htab ⊢
   obtain⟨es1,t1,wasDummy,gave⟩:=L
   dsimp only at hperm hfits htab ⊢
   rw[Array.toList_push]at hperm
   have hel1:ElemsOf (intKind prog w) es1.toList:=(hel.push (knd:=intKind prog w) (k:=k) hkey hsc).perm hperm
   have hb1':es1.size < scanBound:=by rw[←qj,hperm.length_eq,qz,qj];simp;lia
   have hms:(es1.toList.map kOf).Perm (ns++[k]):=by
    have:=hperm.map kOf
    rw[List.map_append,hns]at this
    exact this
   have hnd1:(ns++[k]).Nodup:=by
    rw[List.nodup_append]
    refine⟨hnd,by simp,fun x hx y hy z=>?_⟩
    simp at hy
    subst hy
    exact hk (z ▸ hx)
   have hend:∀h' ns',Heap.SameBut a s.heap h'→SetI prog w h' a ns'→ns'.Perm (ns++[k])→Q true { s with heap:=h' }:=by
    intro h' ns' hsb hS' hp
    have:=h h' ns' hsb hS' (by rw[if_neg hk];exact hp)
    rw[decide_eq_false hk]at this
    exact this
   refine wpAny_bind (hgw _ ?_)
   split
   ·refine wpAny_bind ?_
    rw[hashByValue_scannable 8 hsc]
    refine wpAny_pure ?_
    refine Yse ?_ ho hex hd hel1 hms hnd1 hb1' ?_ ?_ ?_
    ·intro b s₁ Q' hq;cases b<;>first | exact wpAny_pure hq | exact wpAny_rule hq
    ·split
     ·exact hfits
     ·exact SetTable.fits_plain_off hfits
    ·split
     ·exact htab
     ·exact htab.off
    ·intro h' ns' hsb hS' hp;dsimp only;exact wpAny_pure (hend h' ns' hsb hS' hp)
   ·refine wpAny_bind (wpAny_pure ?_)
    simp only[↓reduceIte]
    refine Yse ?_ ho hex hd hel1 hms hnd1 hb1' hfits htab ?_
    ·intro b s₁ Q' hq;cases b<;>first | exact wpAny_pure hq | exact wpAny_rule hq
    ·intro h' ns' hsb hS' hp;dsimp only;exact wpAny_pure (hend h' ns' hsb hS' hp)
end
noncomputable def ddup:List Int→List Int→List Int
 | acc,[]=>acc
 | acc,k::r=>ddup (if k∈acc then acc else acc++[k]) r
theorem Yog:∀(r a b:List Int),a.Perm b→(ddup a r).Perm (ddup b r)
 | [],_,_,h=>h
 | k::r,a,b,h=>by
   rw[ddup,ddup]
   refine Yog r _ _ ?_
   by_cases hk:k∈a
   ·rw[if_pos hk,if_pos (h.mem_iff.mp hk)];exact h
   ·rw[if_neg hk,if_neg (fun z=>hk (h.mem_iff.mpr z))];exact h.append_right _
section
variable {prog:Program} {w:World} {A:Around} {R:Result→Shared→Prop} {I:Addr} {fp wr:List Addr} {G:Array GenState→Array GenState→Prop} {n:Nat} {P:Nat→Value→Prop} {St:Nat→Shared→Prop}
theorem Ysf(W:WalksS prog w A.in1 I fp wr G n P St)(S:Addr)(hSf:S∉fp)(ms:List Int)(hn:ms.length=n)
 (hval:∀i v,P i v→∃t,v=.int (ms.getD i 0) t) (hb:n+1 < scanBound) :
 ∀(k i:Nat) (s:Shared) (ns:List Int),n - i=k→i≤n→St i s→ns.length≤i→SetI prog w s.heap S ns→
  (∀s' ns',Moved (S::wr) G s s'→SetI prog w s'.heap S ns'→ns'.Perm (ddup ns (ms.drop i))→R (.ok (.ret .none)) s')→
  codeAny (model prog w) A (.builtin "set.update.loop" ⟨[.ref S,.ref I],[]⟩) R s:=by
 have hSw:S∉wr:=fun h=>hSf (W.sub _ h)
 have hsub:∀b∈wr,b∈S::wr:=fun b hb=>qg _ hb
 intro k
 induction k with
 | zero=>
   intro i s ns hk hi hst hl hS hR
   have hin:i=n:=by lia
   subst hin
   refine codeAny_builtin F.entry_set_update_loop ?_
   rw[Around.under_plainId F.plain_set_update_loop _]
   show wpAny _ A.in1 (pyNext (.ref I) >>= _) _ _ s
   refine wpAny_bind (W.done s _ _ hst fun s' hm=>?_)
   show wpAny _ A.in1 (ret Value.none) _ _ s'
   refine wpAny_pure (hR s' ns (hm.mono hsub) (hS.at fun o e=>hm.heap S _ hSw e) ?_)
   rw[List.drop_of_length_le (by lia),ddup]
 | succ k ih=>
   intro i s ns hk hi hst hl hS hR
   have hlt:i < n:=by lia
   refine codeAny_builtin F.entry_set_update_loop ?_
   rw[Around.under_plainId F.plain_set_update_loop _]
   show wpAny _ A.in1 (pyNext (.ref I) >>= _) _ _ s
   refine wpAny_bind (W.item i s _ _ hlt hst fun v s' hP hst' hm=>?_)
   obtain⟨t,rfl⟩:=hval i v hP
   have hS':SetI prog w s'.heap S ns:=hS.at fun o e=>hm.heap S _ hSw e
   generalize hx:ms.getD i 0=x
   have hdrop:ms.drop i=x::ms.drop (i+1):=by
    rw[List.drop_eq_getElem_cons (by lia),←hx,List.getD_eq_getElem?_getD,qq (by lia)]
    rfl
   show wpAny _ A.in1 (holding [Value.int x t] (setAdd S (.int x t)) >>= _) _ _ s'
   refine wpAny_bind (wpAny_holding ?_)
   unfold setAdd
   refine wpAny_holding ?_
   refine wpAny_bind ((intKind prog w).pyHash (k:=x) (intKind_is _ _ _ _) ?_)
   refine Yvb (s:={ s' with toks:=s'.toks+1 }) hS' (by lia) fun h' ns' hsb hS2 hp=>?_
   have hl2:ns'.length≤i+1:=by
    rw[hp.length_eq]
    split
    ·lia
    ·simp;lia
   refine wpAny_pure ⟨plainId_quiet F.plain_set_update_loop _,ih (i+1) _ ns' (by lia) hlt (W.frame _ s' _ _ hst' (Nat.le_succ _) fun b hb o e=>?_) hl2 hS2 fun s'' ns'' hm'' hS'' hp''=>?_⟩
   ·rw[hsb.2 b (fun h:b=S=>hSf (by rw[←h];exact hb))];exact e
   ·refine hR s'' ns'' (Moved.trans W.gtrans ((hm.mono hsub).then_heap (Nat.le_succ _) fun b o hb e=>?_) hm'') hS'' ?_
    ·rw[hsb.2 b (fun h:b=S=>hb (by rw[h];exact qh))];exact e
    ·rw[hdrop,ddup]
     exact hp''.trans (Yog _ _ _ hp)
end
end
section
section
variable {prog:Program} {w:World} {A:Around} {E:Value→Shared→Prop} {s:Shared}
theorem Ymd:isSubtype (.type "tuple") (.type "set")=pure false:=by rw[isSubtype_type];kernel_rfl
theorem Ygb:isSubtype (.type "tuple") (.type "frozenset")=pure false:=by rw[isSubtype_type];kernel_rfl
theorem Yeu{T newId initId:String}{Bi:Builtin}{args:List Value}{Q Q₁:Value→Shared→Prop}(ft:TypeCalled T newId initId)
 (hct:checkTypeCall T ⟨args,[]⟩=pure ()) (entryI:entryFor table initId=some Bi)
 (hnew:codeAny (model prog w) A.in1 (.call (.builtin newId) ⟨.type T::args,[]⟩) (wants Q₁ E) s)
 (hnext:∀obj s₁,Q₁ obj s₁→s₁.TypeIs obj T∧(∀(A':Around) (E':Value→Shared→Prop) (Q':Unit→Shared→Prop),Q' () s₁→wpAny (model prog w) A' (checkBuiltinCall initId ⟨obj::args,[]⟩) Q' E' s₁)∧
  wpAny (model prog w) A.in1.in1 (Bi ⟨obj::args,[]⟩)
   (fun fin s'=>match fin with | .done f=>wants (fun r s₂=>r=.none∧Q obj s₂) E (.ok f) s' | .again c'=>c'.quiet=true∧codeAny (model prog w) A.in1 c' (wants (fun r s₂=>r=.none∧Q obj s₂) E) s')
   (fun e s'=>wants (fun r s₂=>r=.none∧Q obj s₂) E (.error e) s') s₁) :
 wpAny (model prog w) A (call (.type T) args) Q E s:=by
 obtain⟨c,tl,hmro⟩:=ft.mro
 have hmade:=ft.made
 have hsub:=ft.sub
 refine wpAny_call (codeAny_of_tree ?_)
 show wpAny _ _ (callAny (.type T) _) _ _ _
 refine wpAny_pure ⟨Code.quiet_builtin _ (by decide +kernel),codeAny_builtin F.entry_type_call ?_⟩
 rw[Around.under_plain (weight_type_call_type T args []) rfl]
 have h1:=ft.notType
 have h2:=ft.canCreate
 repeat (any_goals (first | assumption | wp_step))
 refine codeAny_mono hnew fun r s₁ hr=>?_
 cases r with
 | error e=>exact hr
 | ok fl=>
   cases fl with
   | ret obj=>
     obtain⟨hT,hok,hsi⟩:=hnext _ _ hr
     have hli:=ft.init.lookup
     have hbi:=ft.init.bind obj
     repeat (any_goals (first | assumption | wp_step))
     refine codeAny_mono (codeAny_call_builtin ft.init.plain entryI (hok _ _ _ hsi)) fun r₂ s₂ hr₂=>?_
     cases r₂ with
     | error e=>exact hr₂
     | ok fl₂=>
       cases fl₂ with
       | ret r=>
         obtain⟨rfl,hq⟩:=hr₂
         repeat (any_goals (first | assumption | wp_step))
       | _=>exact hr₂.elim
   | _=>exact hr.elim
noncomputable abbrev emS(w:World):Obj:={ cls:=.type "set",dict:=none,data:=.set #[] 0 (.fresh 0 0 (!byT w)) }
theorem Yoh(a:Value){Q₁:Value→Shared→Prop}(h:Q₁ (.ref s.heap.objs.size) { s with heap:=s.heap.push (emS w) }) :
 codeAny (model prog w) A (.call (.builtin "set.__new__") ⟨[.type "set",a],[]⟩) (wants Q₁ E) s:=by
 refine codeAny_of_tree ?_
 show wpAny _ A.in1 (do checkBuiltinCall "set.__new__" ⟨[.type "set",a],[]⟩;again (.builtin "set.__new__" ⟨[.type "set",a],[]⟩)) _ _ s
 refine wpAny_bind (wpAny_of_eq (F.newCall_set_1 a) (wpAny_pure ⟨plainId_quiet F.plain_set_new _,codeAny_builtin F.entry_set_new ?_⟩))
 rw[Around.under_plainId F.plain_set_new _]
 unfold Builtin.«set.__new__» Builtin.Frozenset.newClass
 have hsub:=sub_set_self
 obtain⟨hp,g,d,tk,os⟩:=s
 dsimp only
 wp_walk
 refine wpAny_askSetting (wpAny_pure ?_)
 dsimp only
 simp only[newObj]
 refine wpAny_bind (wpAny_alloc (wpAny_pure ?_))
 exact wpAny_pure h
set_option maxRecDepth 100000 in
theorem Yme{l:Addr}{items:Array Value}{ms:List Int}{Q:Value→Shared→Prop}
 (hh:A.handled=none) (hl:s.heap.IsList l items) (hi:IntsAre items.toList ms) (hb:items.size+1 < scanBound)
 (h:∀(h':Heap) (tk:Nat) ns,SetI prog w h' s.heap.objs.size ns→ns.Perm (ddup [] ms)→
  (∀b o,b < s.heap.objs.size→s.heap.get? b=some o→h'.get? b=some o)→Q (.ref s.heap.objs.size) { s with heap:=h',toks:=tk }) :
 wpAny (model prog w) A (call (.type "set") [.ref l]) Q E s:=by
 refine Yeu (Q₁:=fun obj s₁=>obj=.ref s.heap.objs.size∧s₁={ s with heap:=s.heap.push (emS w) }) F.called_set (F.typeCall_set_1 _) F.entry_set_init (Yoh _ ⟨rfl,rfl⟩) ?_
 rintro obj s₁ ⟨rfl,rfl⟩
 have hS:(s.heap.push (emS w)).get? s.heap.objs.size=some (emS w):=qp _ rfl
 have hT:Shared.TypeIs { s with heap:=s.heap.push (emS w) } (.ref s.heap.objs.size) "set":=⟨_,hS,rfl⟩
 refine⟨hT,fun A' E' Q' hq=>check_set_init_1 hT hq,?_⟩
 obtain⟨ol,hol,hcl,nl,hdl⟩:=hl
 obtain⟨ocls,odict,odata,oslots⟩:=ol
 simp only at hcl hdl
 subst hcl;subst hdl
 have hol':(s.heap.push (emS w)).get? l=some { cls:=.type "list",dict:=odict,data:=.seq items nl,slots:=oslots }:=qe _ hol
 have hsls:=F.sub_list_set
 have hslf:=F.sub_list_frozenset
 have hne:(Value.type "list"==Value.type "dict")=false:=by decide
 have hl1:(s.heap.push (emS w)).IsList l items:=⟨_,hol',rfl,nl,rfl⟩
 unfold Builtin.«set.__init__» noKeywords Builtin.Frozenset.updateFrom
 generalize hPI:pyIter=PI
 wp_walk
 subst hPI
 refine wpAny_pyIter_list hl1 ?_
 refine wpAny_bind (wpAny_runValue ?_)
 have hlS:l < s.heap.objs.size:=ql hol
 have hh3:A.in1.in1.in1.handled=none:=by simp[hh]
 have hneI:l≠(s.heap.push (emS w)).objs.size:=by
  rw[Heap.size_push];exact qm (qw hlS)
 have hSf:s.heap.objs.size∉[(s.heap.push (emS w)).objs.size,l]:=by
  rw[Heap.size_push];simp only[List.mem_cons,Qi,List.not_mem_nil,or_false,not_or]
  exact⟨qm (Qa _),Nat.ne_of_gt hlS⟩
 have hlen:ms.length=items.size:=by have:=IntsAre.length hi;rw[qj]at this;exact this.symm
 have hval:∀(i:Nat) (v:Value),items[i]?=some v→∃t,v=.int (ms.getD i 0) t:=fun i v hv=>
  IntsAre.int_at hi i v (by rw[Array.getElem?_toList];exact hv)
 refine Ysf ((Walks.list hh3 _ l hneI items).toS) s.heap.objs.size hSf ms hlen hval hb (items.size - 0) 0 _ [] (by lia) (Nat.zero_le _)
  ⟨⟨_,qp _ rfl,rfl,rfl⟩,(hl1.push _)⟩ (qu _) ?hS0 ?hR
 case hS0=>
  have hget:((s.heap.push (emS w)).push { cls:=.type "list_iterator",data:=.fields #[.ref l,.int 0 0] }).get? s.heap.objs.size=some (emS w):=qe _ hS
  exact⟨emS w,#[],0,_,hget,⟨rfl,rfl,rfl⟩,rfl,fun e he=>by simp at he,rfl,.nil,by decide,rfl,.fresh⟩
 case hR=>
  intro s' ns' hm hS' hp'
  obtain⟨h',g',d',tk',os'⟩:=s'
  have eg:g'=s.gens:=hm.gens
  have ed:d'=s.drawn:=hm.drawn
  have eo:os'=s.os:=hm.os
  subst eg;subst ed;subst eo
  show wpAny _ _ _ _ _ _
  refine wpAny_pure ?_
  show wpAny _ _ (ret Value.none) _ _ _
  refine wpAny_pure ⟨rfl,h h' tk' ns' hS' hp' fun b o hb e=>?_⟩
  have hb1:b≠s.heap.objs.size:=qm hb
  have hb2:b≠(s.heap.push (emS w)).objs.size:=by
   rw[Heap.size_push];exact qm (qw hb)
  exact hm.heap b o (by simp only[List.mem_cons,Qi,List.not_mem_nil,or_false,not_or];exact⟨hb1,hb2⟩) (qe _ (qe _ e))
set_option maxRecDepth 100000 in
theorem Yk3{l:Addr}{items:Array Value}{ms:List Int}{Q:Value→Shared→Prop}
 (hh:A.handled=none) (hl:s.heap.IsTuple l items) (hi:IntsAre items.toList ms) (hb:items.size+1 < scanBound)
 (h:∀(h':Heap) (tk:Nat) ns,SetI prog w h' s.heap.objs.size ns→ns.Perm (ddup [] ms)→
  (∀b o,b < s.heap.objs.size→s.heap.get? b=some o→h'.get? b=some o)→Q (.ref s.heap.objs.size) { s with heap:=h',toks:=tk }) :
 wpAny (model prog w) A (call (.type "set") [.ref l]) Q E s:=by
 refine Yeu (Q₁:=fun obj s₁=>obj=.ref s.heap.objs.size∧s₁={ s with heap:=s.heap.push (emS w) }) F.called_set (F.typeCall_set_1 _) F.entry_set_init (Yoh _ ⟨rfl,rfl⟩) ?_
 rintro obj s₁ ⟨rfl,rfl⟩
 have hS:(s.heap.push (emS w)).get? s.heap.objs.size=some (emS w):=qp _ rfl
 have hT:Shared.TypeIs { s with heap:=s.heap.push (emS w) } (.ref s.heap.objs.size) "set":=⟨_,hS,rfl⟩
 refine⟨hT,fun A' E' Q' hq=>check_set_init_1 hT hq,?_⟩
 obtain⟨ol,hol,hcl,nl,hdl⟩:=hl
 obtain⟨ocls,odict,odata,oslots⟩:=ol
 simp only at hcl hdl
 subst hcl;subst hdl
 have hol':(s.heap.push (emS w)).get? l=some { cls:=.type "tuple",dict:=odict,data:=.seq items nl,slots:=oslots }:=qe _ hol
 have hsls:=Ymd
 have hslf:=Ygb
 have hne:(Value.type "tuple"==Value.type "dict")=false:=by decide
 have hl1:(s.heap.push (emS w)).IsTuple l items:=⟨_,hol',rfl,nl,rfl⟩
 unfold Builtin.«set.__init__» noKeywords Builtin.Frozenset.updateFrom
 generalize hPI:pyIter=PI
 wp_walk
 subst hPI
 refine wpAny_pyIter_tuple hl1 ?_
 refine wpAny_bind (wpAny_runValue ?_)
 have hlS:l < s.heap.objs.size:=ql hol
 have hh3:A.in1.in1.in1.handled=none:=by simp[hh]
 have hneI:l≠(s.heap.push (emS w)).objs.size:=by
  rw[Heap.size_push];exact qm (qw hlS)
 have hSf:s.heap.objs.size∉[(s.heap.push (emS w)).objs.size,l]:=by
  rw[Heap.size_push];simp only[List.mem_cons,Qi,List.not_mem_nil,or_false,not_or]
  exact⟨qm (Qa _),Nat.ne_of_gt hlS⟩
 have hlen:ms.length=items.size:=by have:=IntsAre.length hi;rw[qj]at this;exact this.symm
 have hval:∀(i:Nat) (v:Value),items[i]?=some v→∃t,v=.int (ms.getD i 0) t:=fun i v hv=>
  IntsAre.int_at hi i v (by rw[Array.getElem?_toList];exact hv)
 refine Ysf ((Walks.tuple hh3 _ l hneI items).toS) s.heap.objs.size hSf ms hlen hval hb (items.size - 0) 0 _ [] (by lia) (Nat.zero_le _)
  ⟨⟨_,qp _ rfl,rfl,rfl⟩,(⟨_,qe _ hol',rfl,nl,rfl⟩)⟩ (qu _) ?hS0 ?hR
 case hS0=>
  have hget:((s.heap.push (emS w)).push { cls:=.type "tuple_iterator",data:=.fields #[.ref l,.int 0 0] }).get? s.heap.objs.size=some (emS w):=qe _ hS
  exact⟨emS w,#[],0,_,hget,⟨rfl,rfl,rfl⟩,rfl,fun e he=>by simp at he,rfl,.nil,by decide,rfl,.fresh⟩
 case hR=>
  intro s' ns' hm hS' hp'
  obtain⟨h',g',d',tk',os'⟩:=s'
  have eg:g'=s.gens:=hm.gens
  have ed:d'=s.drawn:=hm.drawn
  have eo:os'=s.os:=hm.os
  subst eg;subst ed;subst eo
  show wpAny _ _ _ _ _ _
  refine wpAny_pure ?_
  show wpAny _ _ (ret Value.none) _ _ _
  refine wpAny_pure ⟨rfl,h h' tk' ns' hS' hp' fun b o hb e=>?_⟩
  have hb1:b≠s.heap.objs.size:=qm hb
  have hb2:b≠(s.heap.push (emS w)).objs.size:=by
   rw[Heap.size_push];exact qm (qw hb)
  exact hm.heap b o (by simp only[List.mem_cons,Qi,List.not_mem_nil,or_false,not_or];exact⟨hb1,hb2⟩) (qe _ (qe _ e))
end
end
section
theorem Yhl{α:Type}{l:List α}{i:Nat}(h:i < l.length):(l[i]::l.eraseIdx i).Perm l:=by
 rw[List.eraseIdx_eq_take_drop_succ]
 have e:l=l.take i++l[i]::l.drop (i+1):=by
  rw[←List.drop_eq_getElem_cons h,List.take_append_drop]
 conv=>rhs;rw[e]
 exact List.perm_middle.symm
theorem Yvc{α:Type}(next:Nat→Nat):∀(fuel k:Nat) (left:List α) (out:Array α),left.length=fuel→(pickOrder.go next fuel k left out).toList.Perm (out.toList++left)
 | 0,k,left,out,h=>by
   rw[pickOrder.go]
   rw[List.length_eq_zero_iff.mp h,List.append_nil]
 | fuel+1,k,left,out,h=>by
   rw[pickOrder.go]
   have hlt:next k % left.length < left.length:=Nat.mod_lt _ (by lia)
   rw[qq hlt]
   dsimp only
   refine(Yvc next fuel (k+1) _ _ (by rw[List.length_eraseIdx_of_lt hlt];lia)).trans ?_
   rw[Array.toList_push,List.append_assoc]
   exact(Yhl hlt).append_left _
theorem Yoi{α:Type}(next:Nat→Nat)(xs:Array α):(pickOrder next xs).toList.Perm xs.toList:=by
 have:=Yvc next xs.size 0 xs.toList #[] (by simp)
 simpa [pickOrder]using this
section
variable {prog:Program} {w:World} {A:Around} {E:Value→Shared→Prop}
theorem Ytk{src:Source}{n:Nat}{Q:Nat→Shared→Prop}{s:Shared}(hn:0 < n)(h:∀i d',i < n→Q i { s with drawn:=d' }):wpAny (model prog w) A (choose src n) Q E s:=by
 intro Γ p hΓ
 unfold choose
 rw[Sem.wp_choose]
 refine⟨by lia,?_⟩
 rw[Sem.wp_pure]
 exact h _ _ (Nat.mod_lt _ hn)
theorem Yhm{α:Type}:∀(n:Nat) (xs:List α) (s:Shared) (Q:List α→Shared→Prop),xs.length=n→(∀ys d',ys.Perm xs→Q ys { s with drawn:=d' })→wpAny (model prog w) A (drawOrder n xs) Q E s
 | 0,xs,s,Q,h,hQ=>by
   rw[List.length_eq_zero_iff.mp h]at hQ ⊢
   show wpAny _ _ (pure _) _ _ _
   exact wpAny_pure (hQ [] s.drawn .nil)
 | n+1,[],s,Q,h,hQ=>by simp at h
 | n+1,x::xs,s,Q,h,hQ=>by
   show wpAny _ _ (_ >>= _) _ _ _
   refine wpAny_bind (Ytk (by simp) fun i d' hi=>?_)
   rw[qq hi]
   dsimp only
   refine wpAny_bind (Yhm n _ _ _ (by rw[List.length_eraseIdx_of_lt hi];lia) fun ys d2 hp=>?_)
   refine wpAny_pure (hQ _ d2 ((hp.cons _).trans ?_))
   exact Yhl hi
end
end
section
set_option maxRecDepth 100000
theorem Ysg:Manifest.owners.lookup (String.ofList ['r','o','t','a','r','e','t','i','_','t','e','s'].reverse)=some Manifest.sig_set_iterator:=by kernel_rfl
theorem slot_si_next:Slot "set_iterator" "__next__" "set_iterator.__next__":=
 .of (owner:="set_iterator") (n:="__next__") (by rw[typeLookup_type,builtinLookup_eq_fast];kernel_rfl) (by decide +kernel) (by decide +kernel) (by decide +kernel)
  (by first | exact .inl (by decide +kernel) | exact .inr (by decide +kernel)) (by rw[isSubtype_type];kernel_rfl)
theorem Ycr:entryFor table "set_iterator.__next__"=some Builtin.«set_iterator.__next__»:=entryFor_of_tree (by kernel_rfl)
theorem Ydf(a:Value):argsOk "set_iterator.__next__" ⟨[a],[]⟩:=by
 unfold argsOk;rw[signature?_of (id:="set_iterator.__next__") (n:=['_','_','t','x','e','n','_','_']) (o:=['r','o','t','a','r','e','t','i','_','t','e','s']) (by kernel_rfl) Ysg];kernel_rfl
theorem Yik:Slot "set_iterator" "__iter__" "set_iterator.__iter__":=
 .of (owner:="set_iterator") (n:="__iter__") (by rw[typeLookup_type,builtinLookup_eq_fast];kernel_rfl) (by decide +kernel) (by decide +kernel) (by decide +kernel)
  (by first | exact .inl (by decide +kernel) | exact .inr (by decide +kernel)) (by rw[isSubtype_type];kernel_rfl)
theorem Yoj(a:Value):argsOk "set_iterator.__iter__" ⟨[a],[]⟩:=by
 unfold argsOk;rw[signature?_of (id:="set_iterator.__iter__") (n:=['_','_','r','e','t','i','_','_']) (o:=['r','o','t','a','r','e','t','i','_','t','e','s']) (by kernel_rfl) Ysg];kernel_rfl
theorem Ymf:entryFor table "set_iterator.__iter__"=some Builtin.«dict_keyiterator.__iter__»:=
 entryFor_alias (id':="dict_keyiterator.__iter__") (by kernel_rfl) (by first | rfl | decide +kernel | (unfold String.splitOn;simp +decide [String.splitOnAux])) (by decide +kernel) (by kernel_rfl)
theorem Yk4:entryFor table "set.__iter__"=some Builtin.«frozenset.__iter__»:=
 entryFor_alias (id':="frozenset.__iter__") (by kernel_rfl) (by first | rfl | decide +kernel | (unfold String.splitOn;simp +decide [String.splitOnAux])) (by decide +kernel) (by kernel_rfl)
def SIt(h:Heap)(I:Addr)(first:Value)(i:Nat)(a:Addr)(n ep:Nat):Prop:=∃o,h.get? I=some o∧o.cls=.type "set_iterator"∧o.data=.fields #[first,.int i 0,.ref a,.int n 0,.int ep 0]
def SAt(h:Heap)(a:Addr)(es:Array (Int × Value))(ep:Nat)(t:SetTable):Prop:=∃o,h.get? a=some o∧o.ExactSet∧o.data=.set es ep t∧t.fits es.size=true
theorem SIt.at{h h':Heap}{I a:Addr}{f:Value}{i n ep:Nat}(x:SIt h I f i a n ep)(e:∀o,h.get? I=some o→h'.get? I=some o):SIt h' I f i a n ep:=let ⟨o,ho,r⟩:=x;⟨o,e o ho,r⟩
theorem SAt.at{h h':Heap}{a:Addr}{es:Array (Int × Value)}{ep:Nat}{t:SetTable}(x:SAt h a es ep t)(e:∀o,h.get? a=some o→h'.get? a=some o):SAt h' a es ep t:=let ⟨o,ho,r⟩:=x;⟨o,e o ho,r⟩
theorem SIt.typeIs{s:Shared}{I a:Addr}{f:Value}{i n ep:Nat}(x:SIt s.heap I f i a n ep):s.TypeIs (.ref I) "set_iterator":=let ⟨o,ho,hc,_⟩:=x;⟨o,ho,hc⟩
section
variable {prog:Program} {w:World} {A:Around} {E:Value→Shared→Prop} {s:Shared}
theorem Yvd{I a:Addr}{f:Value}{i n ep:Nat}{Q:Value→Shared→Prop}(hit:SIt s.heap I f i a n ep)(h:Q (.ref I) s):wpAny (model prog w) A (pyIter (.ref I)) Q E s:=by
 refine wpAny_pyIter_slot hit.typeIs Yik (wpAny_call_entry Yik hit.typeIs Ymf ?_ (Yoj _))
 show wpAny _ _ (ret (.ref I)) _ _ s
 exact wpAny_pure ⟨_,rfl,"set_iterator",_,hit.typeIs,slot_si_next.lookup,h⟩
theorem y1k{I a:Addr}{sl i ep nx:Nat}{es:Array (Int × Value)}{t:SetTable}{x:Value}{Q:Option Value→Shared→Prop}(hit:SIt s.heap I (.int sl 0) i a es.size ep)(ha:SAt s.heap a es ep t)
 (hn:∀(A':Around) (Q':Option (Value × Nat)→Shared→Prop) (E':Value→Shared→Prop),Q' (some (x,nx)) s→wpAny (model prog w) A' (setNext a sl i ep) Q' E' s)
 (hQ:∀h',SIt h' I (.int nx 0) (i+1) a es.size ep→Heap.SameBut I s.heap h'→Q (some x) { s with heap:=h' }):wpAny (model prog w) A (pyNext (.ref I)) Q E s:=by
 obtain⟨o,ho,hc,hd⟩:=id hit
 obtain⟨oa,hoa,hexa,hda,hfa⟩:=ha
 unfold pyNext
 refine wpAny_bind (wpAny_attempt (wpAny_callSpecial?_slot (name:=Str.ofString "__next__") hit.typeIs slot_si_next (wpAny_call_entry slot_si_next hit.typeIs Ycr ?_ (Ydf _))))
 show wpAny _ _ (fieldsOf (.ref I) >>= _) _ _ s
 refine wpAny_bind (wpAny_fieldsOf ho hd ?_)
 show wpAny _ _ (setEntries a >>= _) _ _ s
 refine wpAny_bind (wpAny_setEntries_of hoa hda hfa ?_)
 rw[if_neg (by simp)]
 show wpAny _ _ (setNext a sl i ep >>= _) _ _ s
 refine wpAny_bind (hn _ _ _ ?_)
 show wpAny _ _ (setField (.ref I) 0 (rawInt nx) >>= _) _ _ s
 refine wpAny_bind (wpAny_setField ho hd (by simp) ?_)
 have ho1:=Heap.get?_update_self (Obj.mapFields (·.setIfInBounds 0 (rawInt nx))) ho (Obj.isFreed_of_fields (Obj.data_mapFields hd _))
 have hd1:=Obj.data_mapFields hd (·.setIfInBounds 0 (rawInt nx))
 show wpAny _ _ (setField (.ref I) 1 (rawInt (i+1)) >>= _) _ _ _
 refine wpAny_bind (wpAny_setField (s:={ s with heap:=s.heap.update I (Obj.mapFields (·.setIfInBounds 0 (rawInt nx))) }) ho1 hd1 (by simp) (wpAny_pure ⟨x,rfl,wpAny_pure (hQ _ ?_ ((Heap.SameBut.update ..).trans (Heap.SameBut.update ..)))⟩))
 exact⟨_,Heap.get?_update_self _ ho1 (Obj.isFreed_of_fields (Obj.data_mapFields hd1 _)),(Obj.cls_mapFields ..).trans ((Obj.cls_mapFields ..).trans hc),by
  rw[Obj.data_mapFields hd1];simp[rawInt]⟩
theorem y1l{I a:Addr}{sl i ep:Nat}{es:Array (Int × Value)}{t:SetTable}{Q:Option Value→Shared→Prop}(hh:A.handled=none)(hit:SIt s.heap I (.int sl 0) i a es.size ep)(ha:SAt s.heap a es ep t)
 (hn:∀(A':Around) (Q':Option (Value × Nat)→Shared→Prop) (E':Value→Shared→Prop),Q' none s→wpAny (model prog w) A' (setNext a sl i ep) Q' E' s)
 (hQ:∀h',Heap.ExtBut I s.heap h'→Q none { s with heap:=h' }):wpAny (model prog w) A (pyNext (.ref I)) Q E s:=by
 obtain⟨o,ho,hc,hd⟩:=id hit
 obtain⟨oa,hoa,hexa,hda,hfa⟩:=ha
 unfold pyNext
 refine wpAny_bind (wpAny_attempt (wpAny_callSpecial?_slot (name:=Str.ofString "__next__") hit.typeIs slot_si_next (wpAny_call_entry slot_si_next hit.typeIs Ycr ?_ (Ydf _))))
 show wpAny _ _ (fieldsOf (.ref I) >>= _) _ _ s
 refine wpAny_bind (wpAny_fieldsOf ho hd ?_)
 show wpAny _ _ (setEntries a >>= _) _ _ s
 refine wpAny_bind (wpAny_setEntries_of hoa hda hfa ?_)
 rw[if_neg (by simp)]
 show wpAny _ _ (setNext a sl i ep >>= _) _ _ s
 refine wpAny_bind (hn _ _ _ ?_)
 show wpAny _ _ (setField (.ref I) 2 .none >>= _) _ _ s
 refine wpAny_bind (wpAny_setField ho hd (by simp) ?_)
 show wpAny _ _ (newExc (.type "StopIteration") [] >>= _) _ _ _
 refine wpAny_bind ?_
 simp only[newExc,newTuple]
 refine wpAny_bind (wpAny_newObj_type ?_ (by size_fits))
 refine wpAny_bind (m:=firstArgMember _ _) (wpAny_of_eq (a:=Value.none) (by first | rfl | (simp only[firstArgMember];rfl)) ?_)
 refine wpAny_newObj_type ?_ (by size_fits)
 simp only[raiseNew]
 refine wpAny_bind (wpAny_handled ?_)
 first | rw[show A.in1.handled=none from hh] | rw[hh]
 refine wpAny_bind (wpAny_pure (wpAny_throw ?_))
 refine wpAny_bind (wpAny_isInstance (T:="StopIteration") (b:=true) ⟨_,qp _ rfl,rfl⟩ isSubtype_stop ?_)
 exact wpAny_pure (hQ _ (((Heap.SameBut.update ..).extBut.push _).push _))
theorem Yye{I a T:Addr}{i j ep:Nat}{pl:Array Value}{tk:Tok}{es:Array (Int × Value)}{t:SetTable}{e:Int × Value}{Q:Option Value→Shared→Prop}(hit:SIt s.heap I (.ref T) i a es.size ep)(ha:SAt s.heap a es ep t)
 (hT:s.heap.IsTuple T pl) (hp:pl[i]?=some (.int j tk)) (he:es[j]?=some e)
 (hQ:∀h',SIt h' I (.ref T) (i+1) a es.size ep→Heap.SameBut I s.heap h'→Q (some e.2) { s with heap:=h' }):wpAny (model prog w) A (pyNext (.ref I)) Q E s:=by
 obtain⟨o,ho,hc,hd⟩:=id hit
 obtain⟨oa,hoa,hexa,hda,hfa⟩:=ha
 obtain⟨ot,hot,_,nt,hdt⟩:=hT
 unfold pyNext
 refine wpAny_bind (wpAny_attempt (wpAny_callSpecial?_slot (name:=Str.ofString "__next__") hit.typeIs slot_si_next (wpAny_call_entry slot_si_next hit.typeIs Ycr ?_ (Ydf _))))
 show wpAny _ _ (fieldsOf (.ref I) >>= _) _ _ s
 refine wpAny_bind (wpAny_fieldsOf ho hd ?_)
 show wpAny _ _ (setEntries a >>= _) _ _ s
 refine wpAny_bind (wpAny_setEntries_of hoa hda hfa ?_)
 rw[if_neg (by simp)]
 show wpAny _ _ (seqItems? (.ref T) >>= _) _ _ s
 refine wpAny_bind (wpAny_seqItems hot hdt ?_)
 simp only[Int.toNat_natCast,hp]
 show wpAny _ _ (setNextDrawn a j ep >>= _) _ _ s
 refine wpAny_bind ?_
 unfold setNextDrawn
 refine wpAny_bind (wpAny_setState_of hoa hda hfa ?_)
 dsimp only
 rw[if_neg (by simp)]
 show wpAny _ _ (match es[j]? with | some (_,x)=>pure x | _=>unsupported "internal:set_iterator") _ _ s
 rw[he]
 refine wpAny_pure ?_
 show wpAny _ _ (setField (.ref I) 1 (rawInt (i+1)) >>= _) _ _ _
 refine wpAny_bind (wpAny_setField ho hd (by simp) (wpAny_pure ⟨e.2,rfl,wpAny_pure (hQ _ ?_ (Heap.SameBut.update ..))⟩))
 exact⟨_,Heap.get?_update_self _ ho (Obj.isFreed_of_fields (Obj.data_mapFields hd _)),(Obj.cls_mapFields ..).trans hc,by
  rw[Obj.data_mapFields hd];simp[rawInt]⟩
theorem Yyf{I a T:Addr}{i ep:Nat}{pl:Array Value}{es:Array (Int × Value)}{t:SetTable}{Q:Option Value→Shared→Prop}(hh:A.handled=none)(hit:SIt s.heap I (.ref T) i a es.size ep)(ha:SAt s.heap a es ep t)
 (hT:s.heap.IsTuple T pl) (hp:pl[i]?=none) (hQ:∀h',Heap.ExtBut I s.heap h'→Q none { s with heap:=h' }):wpAny (model prog w) A (pyNext (.ref I)) Q E s:=by
 obtain⟨o,ho,hc,hd⟩:=id hit
 obtain⟨oa,hoa,hexa,hda,hfa⟩:=ha
 obtain⟨ot,hot,_,nt,hdt⟩:=hT
 unfold pyNext
 refine wpAny_bind (wpAny_attempt (wpAny_callSpecial?_slot (name:=Str.ofString "__next__") hit.typeIs slot_si_next (wpAny_call_entry slot_si_next hit.typeIs Ycr ?_ (Ydf _))))
 show wpAny _ _ (fieldsOf (.ref I) >>= _) _ _ s
 refine wpAny_bind (wpAny_fieldsOf ho hd ?_)
 show wpAny _ _ (setEntries a >>= _) _ _ s
 refine wpAny_bind (wpAny_setEntries_of hoa hda hfa ?_)
 rw[if_neg (by simp)]
 show wpAny _ _ (seqItems? (.ref T) >>= _) _ _ s
 refine wpAny_bind (wpAny_seqItems hot hdt ?_)
 simp only[Int.toNat_natCast,hp]
 show wpAny _ _ (setField (.ref I) 0 (rawInt 0) >>= _) _ _ s
 refine wpAny_bind (wpAny_setField ho hd (by simp) ?_)
 have ho1:=Heap.get?_update_self (Obj.mapFields (·.setIfInBounds 0 (rawInt 0))) ho (Obj.isFreed_of_fields (Obj.data_mapFields hd _))
 have hd1:=Obj.data_mapFields hd (·.setIfInBounds 0 (rawInt 0))
 show wpAny _ _ (setField (.ref I) 2 .none >>= _) _ _ _
 refine wpAny_bind (wpAny_setField (s:={ s with heap:=s.heap.update I (Obj.mapFields (·.setIfInBounds 0 (rawInt 0))) }) ho1 hd1 (by simp) ?_)
 show wpAny _ _ (newExc (.type "StopIteration") [] >>= _) _ _ _
 refine wpAny_bind ?_
 simp only[newExc,newTuple]
 refine wpAny_bind (wpAny_newObj_type ?_ (by size_fits))
 refine wpAny_bind (m:=firstArgMember _ _) (wpAny_of_eq (a:=Value.none) (by first | rfl | (simp only[firstArgMember];rfl)) ?_)
 refine wpAny_newObj_type ?_ (by size_fits)
 simp only[raiseNew]
 refine wpAny_bind (wpAny_handled ?_)
 first | rw[show A.in1.handled=none from hh] | rw[hh]
 refine wpAny_bind (wpAny_pure (wpAny_throw ?_))
 refine wpAny_bind (wpAny_isInstance (T:="StopIteration") (b:=true) ⟨_,qp _ rfl,rfl⟩ isSubtype_stop ?_)
 exact wpAny_pure (hQ _ ((((Heap.SameBut.update ..).trans (Heap.SameBut.update ..)).extBut.push _).push _))
end
end
section
set_option maxRecDepth 100000
section
variable {prog:Program} {w:World} {A:Around} {E:Value→Shared→Prop} {s:Shared}
theorem Yc4{Q:Bool→Shared→Prop}(h:Q (byT w) s):wpAny (model prog w) A setsByText Q E s:=by
 unfold setsByText
 exact wpAny_bind (wpAny_askSetting (wpAny_pure h))
theorem Yok{a:Addr}{es:Array (Int × Value)}{ep sl i:Nat}{t:SetTable}(hb:byT w=true)(ha:SAt s.heap a es ep t){Q:Option (Value × Nat)→Shared→Prop}
 (h:Q (((pickOrder (w.params.setOrder a ep) es)[i]?).map fun e=>(e.2,sl)) s):wpAny (model prog w) A (setNext a sl i ep) Q E s:=by
 obtain⟨oa,hoa,hexa,hda,hfa⟩:=ha
 unfold setNext
 refine wpAny_bind (wpAny_setState_of hoa hda hfa ?_)
 dsimp only
 refine wpAny_bind (Yc4 ?_)
 rw[if_pos hb,if_neg (by simp)]
 refine wpAny_bind (m:=setWalk a) ?_
 unfold setWalk
 refine wpAny_bind (wpAny_setState_of hoa hda hfa ?_)
 dsimp only
 refine wpAny_bind (Yc4 ?_)
 rw[if_pos hb]
 refine wpAny_bind (wpAny_askSetting (wpAny_pure ?_))
 exact wpAny_pure h
theorem Yol{a:Addr}{es:Array (Int × Value)}{ep sl i g:Nat}{t:SetTable}(hb:byT w=false)(hd:(!t.plain&&decide (es.size > 1))=false)(hl:t.led=true)(ha:SAt s.heap a es ep t){Q:Option (Value × Nat)→Shared→Prop}
 (hp:SetTable.below t.place sl=i) (h:Q (match es[i]?,t.place[i]? with | some (_,x),some j=>some (x,j+1) | _,_=>none) s):wpAny (model prog w) A (setNext a sl g ep) Q E s:=by
 obtain⟨oa,hoa,hexa,hda,hfa⟩:=ha
 unfold setNext
 refine wpAny_bind (wpAny_setState_of hoa hda hfa ?_)
 dsimp only
 refine wpAny_bind (Yc4 ?_)
 rw[if_neg (by rw[hb];exact qi)]
 show wpAny _ _ (if (!t.plain&&decide (es.size > 1))=true then _ else _) _ _ _
 rw[if_neg (show ¬((!t.plain&&decide (es.size > 1))=true) by rw[hd];exact qi)]
 show wpAny _ _ ((if (!t.led&&!es.isEmpty)=true then unsupported "set:maker-not-led" else pure ()) >>= _) _ _ _
 rw[if_neg (by rw[hl];simp)]
 refine wpAny_bind (wpAny_pure ?_)
 rw[hp]
 exact wpAny_pure h
noncomputable def Yf0(pl:Array Nat):Nat→Nat
 | 0=>0
 | i+1=>pl.getD i 0+1
theorem Ysh{pl:Array Nat}(hr:Rise pl){i:Nat}(hi:i≤pl.size):SetTable.below pl (Yf0 pl i)=i:=by
 obtain⟨h1,h2,h3⟩:=Ylr hr (Yf0 pl i)
 generalize hp:SetTable.below pl (Yf0 pl i)=p at h1 h2 h3
 have mono:∀(i k:Nat) (hi:i < pl.size) (hk:k < pl.size),i < k→pl[i] < pl[k]:=fun i k hi hk h=>by
  have:=List.pairwise_iff_getElem.mp hr i k (by simpa using hi) (by simpa using hk) h
  simpa using this
 have e1:∀k (hk:k < pl.size),k < p→pl[k] < Yf0 pl i:=fun k hk hkp=>h2 _ (by
  rw[List.mem_iff_getElem]
  exact⟨k,by simp;lia,by simp⟩)
 have e2:∀k (hk:k < pl.size),p≤k→Yf0 pl i≤pl[k]:=fun k hk hkp=>h3 _ (by
  rw[List.mem_iff_getElem]
  exact⟨k - p,by simp;lia,by
   rw[List.getElem_drop,Array.getElem_toList]
   congr 1
   lia⟩)
 rcases Nat.lt_trichotomy p i with h | h | h
 ·have hk:p < pl.size:=by lia
  have:=e2 p hk (qu _)
  cases i with
  | zero=>lia
  | succ j=>
    have hj:j < pl.size:=by lia
    simp only[Yf0,Array.getD,hj,dite_true]at this
    by_cases e:p=j
    ·subst e;exact absurd this (by simp)
    ·have:=mono p j hk hj (by lia)
     simp at *
     lia
 ·exact h
 ·have hk:i < pl.size:=by lia
  have:=e1 i hk h
  cases i with
  | zero=>simp[Yf0]at this
  | succ j=>
    have hj:j < pl.size:=by lia
    have h':=mono j (j+1) hj hk (by lia)
    simp only[Yf0,Array.getD,hj,dite_true]at this
    simp at *
    lia
def PInt(vals:List Int)(i:Nat)(v:Value):Prop:=∃k t,vals[i]?=some k∧v=.int k t
theorem Yjg{es:Array (Int × Value)}(hel:ElemsOf (intKind prog w) es.toList){e:Int × Value}(he:e∈es.toList):∃t,e.2=.int (kOf e) t:=by
 obtain⟨t,ht⟩:=Yfq hel he
 exact⟨t,by rw[ht];simp[kOf]⟩
theorem Yyg{a:Addr}{ns:List Int}(hS:SetI prog w s.heap a ns){Q:Value→Shared→Prop}
 (hQ:∀(h':Heap) (d':Drawn) (I:Addr) (fp:List Addr) (vals:List Int) (St:Nat→Heap→Prop),(∀b o,s.heap.get? b=some o→h'.get? b=some o)→s.heap.objs.size≤I→I∈fp→
  (∀b∈fp,b < h'.objs.size∧(b=a∨s.heap.objs.size≤b))→vals.Perm ns→(∀A':Around,A'.handled=none→Walks prog w A' I fp [I] ns.length (PInt vals) St)→St 0 h'→
  (∀(i:Nat) (s':Shared),St i s'.heap→s'.TypeIs (.ref I) "set_iterator")→Q (.ref I) { s with heap:=h',drawn:=d' }) :
 wpAny (model prog w) A (pyIter (.ref a)) Q E s:=by
 obtain⟨o,es,ep,t,ho,hex,hd,hel,hns,hnd,hb,hf,ht⟩:=hS
 have hT:s.TypeIs (.ref a) "set":=⟨o,ho,hex.1⟩
 have hlen:ns.length=es.size:=by rw[←hns,qf,qj]
 have hlt:a < s.heap.objs.size:=ql ho
 have hsa:SAt s.heap a es ep t:=⟨o,ho,hex,hd,hf⟩
 have hps:t.place.size=es.size:=by
  simp only[SetTable.fits,Qe,beq_iff_eq]at hf
  exact hf.1
 refine wpAny_pyIter_slot hT F.slot_set_iter (wpAny_call_entry F.slot_set_iter hT Yk4 ?_ (F.args_set_iter_1 _))
 unfold Builtin.«frozenset.__iter__»
 show wpAny _ _ (Builtin.Frozenset.sizeOf a >>= _) _ _ s
 unfold Builtin.Frozenset.sizeOf
 refine wpAny_bind (wpAny_bind (wpAny_setEntries_of ho hd hf (wpAny_pure ?_)))
 refine wpAny_bind ?_
 unfold setDrawn
 refine wpAny_bind (wpAny_setState_of ho hd hf ?_)
 dsimp only
 refine wpAny_bind (Yc4 (wpAny_pure ?_))
 have plain:∀(vals:List Int) (st:Nat→Nat) (xv:Nat→Value),vals.Perm ns→st 0=0→(∀i,i < es.size→PInt vals i (xv i))→
  (∀(s':Shared) (A':Around) (i:Nat) (E':Value→Shared→Prop),SAt s'.heap a es ep t→i < es.size→∀Q':Option (Value × Nat)→Shared→Prop,Q' (some (xv i,st (i+1))) s'→wpAny (model prog w) A' (setNext a (st i) i ep) Q' E' s')→
  (∀(s':Shared) (A':Around) (E':Value→Shared→Prop),SAt s'.heap a es ep t→∀Q':Option (Value × Nat)→Shared→Prop,Q' none s'→wpAny (model prog w) A' (setNext a (st es.size) es.size ep) Q' E' s')→
  wpAny (model prog w) A.in1 (do
   let x ←newFields "set_iterator" [rawInt 0,rawInt 0,.ref a,rawInt es.size,rawInt (←setEpoch a)]
   ret x) (fun fin s'=>∃v,fin=.done (.ret v)∧∃T' r,s'.TypeIs v T'∧typeLookup (.type T') "__next__"=pure (some r)∧Q v s') E s:=by
  intro vals st xv hp h0 hx hi hn
  refine wpAny_bind (wpAny_setEpoch_of ho hd hf ?_)
  refine wpAny_bind (wpAny_newObj_type ?_)
  refine wpAny_pure ⟨_,rfl,"set_iterator",_,⟨_,qp _ rfl,rfl⟩,slot_si_next.lookup,?_⟩
  have key:=hQ (s.heap.push { cls:=.type "set_iterator",data:=.fields #[rawInt 0,rawInt 0,.ref a,rawInt es.size,rawInt ep] }) s.drawn s.heap.objs.size [s.heap.objs.size,a] vals
   (fun i h=>SIt h s.heap.objs.size (.int (st i) 0) i a es.size ep∧SAt h a es ep t) (fun b o e=>qe _ e) (qu _) (by simp) (fun b hb=>by
    rw[Heap.size_push]
    rcases qt hb with rfl | hb
    ·exact⟨Qa _,.inr (qu _)⟩
    ·rw[Qi]at hb
     subst hb
     exact⟨qw hlt,.inl rfl⟩) hp (fun A' hA'=>{
    sub:=fun b hb=>by simp at hb;simp[hb]
    frame:=fun i h h' st' hk=>⟨st'.1.at fun o e=>hk _ (by simp) o e,st'.2.at fun o e=>hk a (by simp) o e⟩
    item:=fun i s' Q' E' hlt' st' hQ'=>by
     refine y1k st'.1 st'.2 (x:=xv i) (nx:=st (i+1)) (fun A2 Q2 E2 hq=>hi s' A2 i E2 st'.2 (by lia) Q2 hq) fun h' hit' hs'=>?_
     exact hQ' _ h' s'.toks (hx i (by lia)) ⟨hit',st'.2.at fun o e=>hs'.extBut a o (fun z=>by subst z;exact absurd hlt (Qg _)) e⟩ fun b o hb e=>hs'.extBut b o (fun z=>hb (by simp[z])) e
    done:=fun s' Q' E' st' hQ'=>by
     rw[hlen]at st'
     exact y1l hA' st'.1 st'.2 (fun A2 Q2 E2 hq=>hn s' A2 E2 st'.2 Q2 hq) fun h' he'=>hQ' h' s'.toks fun b o hb e=>he' b o (fun z=>hb (by simp[z])) e
    self:=fun i s' Q' E' st' hQ'=>Yvd st'.1 hQ' }) ⟨⟨_,qp _ rfl,rfl,by rw[h0];rfl⟩,hsa.at fun o e=>qe _ e⟩ (fun i s' st'=>st'.1.typeIs)
  exact key
 have hdr:∀b:Bool,(!t.plain&&decide (es.size > 1))=b→wpAny (model prog w) A.in1 (if (!byT w&&b)=true then do
  let first ←newTuple ((←drawOrder es.size (List.range es.size)).map fun(i:Nat)=>rawInt i)
  let x ←newFields "set_iterator" [first,rawInt 0,.ref a,rawInt es.size,rawInt (←setEpoch a)]
  ret x
  else do
   let x ←newFields "set_iterator" [rawInt 0,rawInt 0,.ref a,rawInt es.size,rawInt (←setEpoch a)]
   ret x) (fun fin s'=>∃v,fin=.done (.ret v)∧∃T' r,s'.TypeIs v T'∧typeLookup (.type T') "__next__"=pure (some r)∧Q v s') E s:=by
  intro b hbd
  cases hbt:byT w with
  | true=>
    rw[if_neg (by simp)]
    generalize hor:pickOrder (w.params.setOrder a ep) es=ord
    have hpm:ord.toList.Perm es.toList:=by rw[←hor];exact Yoi _ _
    have hos:ord.size=es.size:=by
     have:=hpm.length_eq
     simpa using this
    refine plain (ord.toList.map kOf) (fun _=>0) (fun i=>(ord.getD i (0,.none)).2) (by rw[←hns];exact hpm.map kOf) rfl (fun i hi=>?_) (fun s' A' i E' ha hi Q' hq=>?_) (fun s' A' E' ha Q' hq=>?_)
    ·have hi':i < ord.size:=by lia
     obtain⟨u,hu⟩:=Yjg hel (hpm.mem_iff.mp (show ord[i]∈ord.toList by simp))
     refine⟨kOf ord[i],u,by simp[hi'],?_⟩
     simp only[Array.getD,hi',dite_true]
     exact hu
    ·have hi':i < ord.size:=by lia
     refine Yok hbt ha ?_
     rw[hor,Qr hi']
     simp only[Array.getD,hi',dite_true]at hq
     exact hq
    ·refine Yok hbt ha ?_
     rw[hor,Array.getElem?_eq_none (by lia)]
     exact hq
  | false=>
    have hled:=ht.1 hbt
    cases b with
    | false=>
      rw[if_neg (by simp)]
      have hrise:Rise t.place:=by
       cases hpl:t.plain with
       | true=>exact ht.2 hpl
       | false=>
         rw[hpl]at hbd
         have h1:t.place.toList.length≤1:=by
          simp at hbd
          rw[qj]
          lia
         unfold Rise
         match t.place.toList,h1 with
         | [],_=>exact .nil
         | [x],_=>simp
      refine plain ns (Yf0 t.place) (fun i=>(es.getD i (0,.none)).2) .rfl rfl (fun i hi=>?_) (fun s' A' i E' ha hi Q' hq=>?_) (fun s' A' E' ha Q' hq=>?_)
      ·obtain⟨u,hu⟩:=Yjg hel (show es[i]∈es.toList by simp)
       refine⟨kOf es[i],u,by rw[←hns];simp[hi],?_⟩
       simp only[Array.getD,hi,dite_true]
       exact hu
      ·refine Yol hbt hbd hled ha (Ysh hrise (by lia)) ?_
       have hi2:i < t.place.size:=by lia
       rw[Qr hi,Qr hi2]
       simp only[Array.getD,hi,hi2,dite_true,Yf0]at hq
       exact hq
      ·refine Yol hbt hbd hled ha (Ysh hrise (by lia)) ?_
       rw[Array.getElem?_eq_none (qu _)]
       exact hq
    | true=>
      rw[if_pos (by simp)]
      refine wpAny_bind (Yhm es.size (List.range es.size) s _ (by simp) fun ys d' hp=>?_)
      simp only[newTuple]
      have hyl:ys.length=es.size:=by rw[hp.length_eq];simp
      refine wpAny_bind (wpAny_newObj_type ?_ (by show(ys.map fun(i:Nat)=>rawInt i).toArray.size≤sizeLine;rw[qk,qf,hyl];exact fits_of_scanBound hb))
      have ho1:((s.heap.push { cls:=.type "tuple",data:=.seq (ys.map fun(i:Nat)=>rawInt i).toArray })).get? a=some o:=qe _ ho
      refine wpAny_bind (wpAny_setEpoch_of (s:={ s with heap:=s.heap.push { cls:=.type "tuple",data:=.seq (ys.map fun(i:Nat)=>rawInt i).toArray },drawn:=d' }) ho1 hd hf ?_)
      refine wpAny_bind (wpAny_newObj_type ?_)
      refine wpAny_pure ⟨_,rfl,"set_iterator",_,⟨_,qp _ rfl,rfl⟩,slot_si_next.lookup,?_⟩
      have hmem:∀j∈ys,j < es.size:=fun j hj=>by simpa using hp.mem_iff.mp hj
      have hvp:(ys.map fun j=>kOf (es.getD j (0,.none))).Perm ns:=by
       rw[←hns]
       refine(hp.map _).trans ?_
       have:(List.range es.size).map (fun j=>kOf (es.getD j (0,.none)))=es.toList.map kOf:=by
        refine List.ext_getElem (by simp) fun i h1 h2=>?_
        have hi:i < es.size:=by simpa using h1
        simp[Array.getD,hi]
       rw[this]
      generalize hH:s.heap.push { cls:=.type "tuple",data:=.seq (ys.map fun(i:Nat)=>rawInt i).toArray }=H at ho1 ⊢
      have hHs:H.objs.size=s.heap.objs.size+1:=by rw[←hH,Heap.size_push]
      have hT0:H.IsTuple s.heap.objs.size (ys.map fun(i:Nat)=>rawInt i).toArray:=⟨_,by rw[←hH];exact qp _ rfl,rfl,_,rfl⟩
      have keepH:∀b o,s.heap.get? b=some o→H.get? b=some o:=fun b o e=>by rw[←hH];exact qe _ e
      have haI:a≠H.objs.size:=fun z=>by rw[z,hHs]at hlt;exact absurd hlt (Nat.not_lt.mpr (Nat.le_succ _))
      have hTI:s.heap.objs.size≠H.objs.size:=by rw[hHs];exact qm (Qa _)
      exact hQ (H.push { cls:=.type "set_iterator",data:=.fields #[.ref s.heap.objs.size,rawInt 0,.ref a,rawInt es.size,rawInt ep] }) d' H.objs.size [H.objs.size,a,s.heap.objs.size] (ys.map fun j=>kOf (es.getD j (0,.none)))
       (fun i h=>SIt h H.objs.size (.ref s.heap.objs.size) i a es.size ep∧SAt h a es ep t∧h.IsTuple s.heap.objs.size (ys.map fun(i:Nat)=>rawInt i).toArray) (fun b o e=>qe _ (keepH b o e)) (by lia) (by simp) (fun b hb=>by
        rw[Heap.size_push]
        simp only[List.mem_cons,List.not_mem_nil,or_false]at hb
        rcases hb with rfl | rfl | rfl
        ·exact⟨Qa _,.inr (by rw[hHs];exact Nat.le_succ _)⟩
        ·exact⟨qw (by rw[hHs];exact qw hlt),.inl rfl⟩
        ·exact⟨qw (by rw[hHs];exact Qa _),.inr (qu _)⟩) hvp (fun A' hA'=>{
        sub:=fun b hb=>by simp at hb;simp[hb]
        frame:=fun i h h' st' hk=>⟨st'.1.at fun o e=>hk _ (by simp) o e,st'.2.1.at fun o e=>hk a (by simp) o e,st'.2.2.at fun o e=>hk _ (by simp) o e⟩
        item:=fun i s' Q' E' hlt' st' hQ'=>by
         have hi:i < ys.length:=by lia
         have hj:=hmem ys[i] (qy hi)
         refine Yye st'.1 st'.2.1 st'.2.2 (j:=ys[i]) (tk:=0) (e:=es[ys[i]]) (by simp[hi,rawInt]) (Qr hj) fun h' hit' hs'=>?_
         refine hQ' _ h' s'.toks ?_ ⟨hit',st'.2.1.at fun o e=>hs'.extBut a o haI e,st'.2.2.at fun o e=>hs'.extBut _ o hTI e⟩ fun b o hb e=>hs'.extBut b o (fun z=>hb (by simp[z])) e
         obtain⟨u,hu⟩:=Yjg hel (show es[ys[i]]∈es.toList by simp)
         exact⟨kOf es[ys[i]],u,by simp[hi,Array.getD,hj],hu⟩
        done:=fun s' Q' E' st' hQ'=>by
         rw[hlen]at st'
         exact Yyf hA' st'.1 st'.2.1 st'.2.2 (by simp[hyl]) fun h' he'=>hQ' h' s'.toks fun b o hb e=>he' b o (fun z=>hb (by simp[z])) e
        self:=fun i s' Q' E' st' hQ'=>Yvd st'.1 hQ' }) ⟨⟨_,qp _ rfl,rfl,rfl⟩,⟨o,qe _ ho1,hex,hd,hf⟩,hT0.push _⟩ (fun i s' st'=>st'.1.typeIs)
 exact hdr _ rfl
end
end
section
inductive D where
 | non | bl (b:Bool) | int (i:Int) | str (x:Str) | tup (l:List D) | lst (l:List D)
 | scr (ns:List Int)
 | dct (t:Bool) (ks vs:List D)
mutual
noncomputable def toPy:D→PyData
 | .non=>.none
 | .bl b=>.bool b
 | .int i=>.int i
 | .str x=>.str x
 | .tup l=>.tuple (Ycs l)
 | .lst l=>.list (Ycs l)
 | .scr ns=>.list (ns.map PyData.int)
 | .dct _ _ _=>.none
noncomputable def Ycs:List D→List PyData
 | []=>[]
 | d::l=>toPy d::Ycs l
end
noncomputable def eqD(d e:D):Bool:=PyData.eqv (toPy d) (toPy e)
noncomputable def eqL(l m:List D):Bool:=PyData.eqvAll (Ycs l) (Ycs m)
noncomputable def numV:V→Option Int
 | .int i=>some i
 | .bl b=>some (if b then 1 else 0)
 | _=>none
noncomputable def y1m:List V→Option (List Int)
 | []=>some []
 | x::r=>(numV x).bind fun i=>(y1m r).map (i::·)
noncomputable def y4u(ks:List Int):Int:=reduceHash (Builtin.Tuple.tupleHashOf (ks.map hashInt))
def DtOk(a:Addr)(nks:List (List Int × Addr))(vxs:List V)(h:Heap):Prop:=
 (a==sysModules)=false∧∃us o es ep,Vals vxs us∧h.get? a=some o∧o.ExactDict∧o.data=.dict es ep∧es.toList=(nks.zip us).map fun p=>(⟨y4u p.1.1,.ref p.1.2,p.2⟩:DictEntry)
noncomputable def dTo(a:Addr)(nks:List (List Int × Addr))(vxs:List V):HO:=.ext (DtOk a nks vxs)
def Dc(t:Bool)(G H:Hp)(a:Addr)(kxs vxs:List V):Prop:=
 (t=false∧∃kvs:List (Key × V),H a=some (.dK kvs)∧(kvs.map (·.1)).Nodup∧kxs=kvs.map (fun p=>kV p.1)∧vxs=kvs.map (·.2))∨
 (t=true∧∃nks:List (List Int × Addr),H a=some (dTo a nks vxs)∧nks.length=vxs.length∧(nks.map (·.1)).Nodup∧kxs=nks.map (fun p=>V.ref p.2)∧∀p∈nks,∃ys,G p.2=some (.tup ys)∧y1m ys=some p.1)
mutual
noncomputable def Rp(K:W.Frag)(G:Hp):D→V→Prop
 | .non,v=>v=V.non
 | .bl b,v=>v=V.bl b
 | .int i,v=>v=V.int i
 | .str x,v=>v=V.str x∧PyData.strOk x=true
 | .tup l,v=>∃a xs,v=V.ref a∧G a=some (HO.tup xs)∧RpL K G l xs
 | .lst l,v=>∃a xs,v=V.ref a∧Rd G a (HO.lst xs)∧RpL K G l xs
 | .scr ns,v=>∃a,v=V.ref a∧SqL K G a (ns.map V.int)
 | .dct t ks vs,v=>∃a kxs vxs,v=V.ref a∧Dc t G G a kxs vxs∧RpL K G ks kxs∧RpL K G vs vxs
noncomputable def RpL(K:W.Frag)(G:Hp):List D→List V→Prop
 | [],xs=>xs=[]
 | d::l,xs=>∃x r,xs=x::r∧Rp K G d x∧RpL K G l r
end
variable {K:W.Frag}
theorem Ybc{G G':Hp}(h:Same G G'){a:Addr}{u:HO}(r:Rd G a u):Rd G' a u:=by
 rcases r with r | ⟨o,r⟩
 ·exact .inl (h _ _ r)
 ·exact .inr ⟨o,h _ _ r⟩
theorem Dc.mono{t:Bool}{G G' H H':Hp}(g:Same G G'){a:Addr}{kxs vxs:List V}(h:∀o,H a=some o→H' a=some o)(d:Dc t G H a kxs vxs):Dc t G' H' a kxs vxs:=by
 rcases d with⟨e,kvs,h1,h2⟩ | ⟨e,nks,h1,h2,h3,h4,h5⟩
 ·exact .inl ⟨e,kvs,h _ h1,h2⟩
 ·refine .inr ⟨e,nks,h _ h1,h2,h3,h4,fun p hp=>?_⟩
  obtain⟨ys,q1,q2⟩:=h5 p hp
  exact⟨ys,g _ _ q1,q2⟩
theorem Dc.someT{t:Bool}{G H:Hp}{a:Addr}{kxs vxs:List V}(d:Dc t G H a kxs vxs):∃o,H a=some o∧∀xs,o≠.tup xs:=by
 rcases d with⟨_,kvs,h1,_⟩ | ⟨_,nks,h1,_⟩
 ·exact⟨_,h1,fun xs z=>by cases z⟩
 ·exact⟨_,h1,fun xs z=>by cases z⟩
theorem Dc.some{t:Bool}{G H:Hp}{a:Addr}{kxs vxs:List V}(d:Dc t G H a kxs vxs):∃o,H a=some o∧∀xs,o≠.lst xs:=by
 rcases d with⟨_,kvs,h1,_⟩ | ⟨_,nks,h1,_⟩
 ·exact⟨_,h1,fun xs z=>by cases z⟩
 ·exact⟨_,h1,fun xs z=>by cases z⟩
mutual
theorem Rp.mono{G G':Hp}(h:Same G G'):∀{d:D} {v:V},Rp K G d v→Rp K G' d v
 | .non,_,r=>by rw[Rp]at r ⊢;exact r
 | .bl _,_,r=>by rw[Rp]at r ⊢;exact r
 | .int _,_,r=>by rw[Rp]at r ⊢;exact r
 | .str _,_,r=>by rw[Rp]at r ⊢;exact r
 | .tup l,_,r=>by
   rw[Rp]at r ⊢
   obtain⟨a,xs,e,g,q⟩:=r
   exact⟨a,xs,e,h _ _ g,RpL.mono h q⟩
 | .lst l,_,r=>by
   rw[Rp]at r ⊢
   obtain⟨a,xs,e,g,q⟩:=r
   exact⟨a,xs,e,Ybc h g,RpL.mono h q⟩
 | .scr ns,_,r=>by
   rw[Rp]at r ⊢
   obtain⟨a,e,g⟩:=r
   exact⟨a,e,h.seq g⟩
 | .dct t ks vs,_,r=>by
   rw[Rp]at r ⊢
   obtain⟨a,kxs,vxs,e,g,q1,q2⟩:=r
   exact⟨a,kxs,vxs,e,g.mono h fun o=>h _ o,RpL.mono h q1,RpL.mono h q2⟩
theorem RpL.mono{G G':Hp}(h:Same G G'):∀{l:List D} {xs:List V},RpL K G l xs→RpL K G' l xs
 | [],_,r=>by rw[RpL]at r ⊢;exact r
 | d::l,_,r=>by
   rw[RpL]at r ⊢
   obtain⟨x,xs,e,g,q⟩:=r
   exact⟨x,xs,e,Rp.mono h g,RpL.mono h q⟩
end
section
variable {G:Hp}
theorem RpL.length:∀{l:List D} {xs:List V},RpL K G l xs→xs.length=l.length
 | [],_,r=>by rw[RpL]at r;subst r;rfl
 | d::l,_,r=>by
   rw[RpL]at r
   obtain⟨x,xs,rfl,_,q⟩:=r
   simp[RpL.length q]
theorem RpL.get:∀{l:List D} {xs:List V} {i:Nat} {d:D},RpL K G l xs→l[i]?=some d→∃x,xs[i]?=some x∧Rp K G d x
 | [],_,_,_,_,e=>by simp at e
 | d::l,_,0,_,r,e=>by
   rw[RpL]at r
   obtain⟨x,xs,rfl,g,q⟩:=r
   simp at e
   subst e
   exact⟨x,rfl,g⟩
 | d::l,_,i+1,_,r,e=>by
   rw[RpL]at r
   obtain⟨x,xs,rfl,g,q⟩:=r
   obtain⟨y,h1,h2⟩:=RpL.get (i:=i) q (by simpa using e)
   exact⟨y,by simpa using h1,h2⟩
theorem RpL.nil:RpL K G [] []:=by rw[RpL]
theorem RpL.cons{d:D}{l:List D}{x:V}{xs:List V}(h:Rp K G d x)(q:RpL K G l xs):RpL K G (d::l) (x::xs):=by rw[RpL];exact⟨x,xs,rfl,h,q⟩
theorem RpL.append:∀{l m:List D} {xs ys:List V},RpL K G l xs→RpL K G m ys→RpL K G (l++m) (xs++ys)
 | [],_,_,_,r,q=>by rw[RpL]at r;subst r;exact q
 | d::l,m,_,ys,r,q=>by
   rw[RpL]at r
   obtain⟨x,xs,rfl,g,r⟩:=r
   exact .cons g (RpL.append r q)
theorem RpL.one{d:D}{x:V}(h:Rp K G d x):RpL K G [d] [x]:=.cons h .nil
theorem RpL.take:∀{l:List D} {xs:List V} (n:Nat),RpL K G l xs→RpL K G (l.take n) (xs.take n)
 | _,_,0,_=>by rw[List.take_zero,List.take_zero];exact .nil
 | [],_,_+1,r=>by rw[RpL]at r;subst r;exact .nil
 | d::l,_,n+1,r=>by
   rw[RpL]at r
   obtain⟨x,xs,rfl,g,r⟩:=r
   exact .cons g (RpL.take n r)
theorem RpL.drop:∀{l:List D} {xs:List V} (n:Nat),RpL K G l xs→RpL K G (l.drop n) (xs.drop n)
 | _,_,0,r=>r
 | [],_,_+1,r=>by rw[RpL]at r;subst r;exact .nil
 | d::l,_,n+1,r=>by
   rw[RpL]at r
   obtain⟨x,xs,rfl,g,r⟩:=r
   exact RpL.drop n r
theorem RpL.reverse:∀{l:List D} {xs:List V},RpL K G l xs→RpL K G l.reverse xs.reverse
 | [],_,r=>by rw[RpL]at r;subst r;exact .nil
 | d::l,_,r=>by
   rw[RpL]at r
   obtain⟨x,xs,rfl,g,r⟩:=r
   rw[List.reverse_cons,List.reverse_cons]
   exact r.reverse.append (.one g)
theorem RpL.ints:∀(ns:List Int),RpL K G (ns.map D.int) (ns.map V.int)
 | []=>.nil
 | n::ns=>.cons (by rw[Rp]) (RpL.ints ns)
end
structure Gr(H G H' G':Hp):Prop where
 h:Same H H'
 g:Same G G'
 s:Same G' H'
 n:∀a,G a=none→G' a≠none→H a=none
theorem Gr.refl{H G:Hp}(s:Same G H):Gr H G H G:=⟨Same.refl _,Same.refl _,s,fun _ h h'=>absurd h h'⟩
theorem Gr.trans{H G H1 G1 H2 G2:Hp}(a:Gr H G H1 G1)(b:Gr H1 G1 H2 G2):Gr H G H2 G2:=
 ⟨a.h.trans b.h,a.g.trans b.g,b.s,fun x h h'=>by
  by_cases e:G1 x=none
  ·exact a.h.free (b.n x e h')
  ·exact a.n x h e⟩
theorem Gr.new{H G:Hp}(s:Same G H){p:Addr}(hp:H p=none)(o:HO):Gr H G (upd H p o) (upd G p o):=by
 have gp:G p=none:=s.free hp
 refine⟨fun b u e=>?_,fun b u e=>?_,fun b u e=>?_,fun b h h'=>?_⟩
 ·rw[Yz (Yy e hp)];exact e
 ·rw[Yz (Yy e gp)];exact e
 ·by_cases q:b=p
  ·subst q;rw[Yv]at e ⊢;exact e
  ·rw[Yz q]at e ⊢;exact s _ _ e
 ·by_cases q:b=p
  ·subst q;exact hp
  ·rw[Yz q]at h';exact absurd h h'
theorem Gr.hid{H G:Hp}(s:Same G H){p:Addr}(hp:H p=none)(o:HO):Gr H G (upd H p o) G:=by
 have gp:G p=none:=s.free hp
 refine⟨fun b u e=>?_,Same.refl _,fun b u e=>?_,fun b h h'=>absurd h h'⟩
 ·rw[Yz (Yy e hp)];exact e
 ·rw[Yz (Yy e gp)];exact s _ _ e
theorem Gr.show{H G H' G':Hp}(g:Gr H G H' G'){p:Addr}{o:HO}(hp:H p=none)(gp:G' p=none)(e:H' p=some o):Gr H G H' (upd G' p o):=by
 refine⟨g.h,fun b u q=>?_,fun b u q=>?_,fun b h h'=>?_⟩
 ·have:=g.g b u q
  rw[Yz (Yy this gp)];exact this
 ·by_cases z:b=p
  ·subst z;rw[Yv]at q;rw[e];exact q
  ·rw[Yz z]at q;exact g.s b u q
 ·by_cases z:b=p
  ·subst z;exact hp
  ·rw[Yz z]at h';exact g.n b h h'
noncomputable def Ct(K:W.Frag)(G H:Hp):D→V→Prop
 | .non,v=>v=V.non
 | .bl b,v=>v=V.bl b
 | .int i,v=>v=V.int i
 | .str x,v=>v=V.str x∧PyData.strOk x=true
 | .tup l,v=>∃a xs,v=V.ref a∧(H a=some (HO.tup xs)∧G a=some (HO.tup xs))∧RpL K G l xs
 | .lst l,v=>∃a xs,v=V.ref a∧Rd H a (HO.lst xs)∧RpL K G l xs
 | .scr ns,v=>∃a,v=V.ref a∧SqL K H a (ns.map V.int)
 | .dct t ks vs,v=>∃a kxs vxs,v=V.ref a∧Dc t G H a kxs vxs∧RpL K G ks kxs∧RpL K G vs vxs
theorem Ct.of{G H:Hp}(s:Same G H){d:D}{v:V}(r:Rp K G d v):Ct K G H d v:=by
 cases d<;>rw[Rp]at r<;>rw[Ct]
 ·exact r
 ·exact r
 ·exact r
 ·exact r
 ·obtain⟨a,xs,e,g,q⟩:=r
  exact⟨a,xs,e,⟨s _ _ g,g⟩,q⟩
 ·obtain⟨a,xs,e,g,q⟩:=r
  exact⟨a,xs,e,Ybc s g,q⟩
 ·obtain⟨a,e,g⟩:=r
  exact⟨a,e,s.seq g⟩
 ·obtain⟨a,kxs,vxs,e,g,q1,q2⟩:=r
  exact⟨a,kxs,vxs,e,g.mono (Same.refl _) fun o=>s _ o,q1,q2⟩
theorem Ct.rp{G H:Hp}(s:Same G H){d:D}{v:V}(r:Ct K G H d v):Rp K H d v:=by
 cases d<;>rw[Ct]at r<;>rw[Rp]
 ·exact r
 ·exact r
 ·exact r
 ·exact r
 ·obtain⟨a,xs,e,g,q⟩:=r
  exact⟨a,xs,e,g.1,q.mono s⟩
 ·obtain⟨a,xs,e,g,q⟩:=r
  exact⟨a,xs,e,g,q.mono s⟩
 ·exact r
 ·obtain⟨a,kxs,vxs,e,g,q1,q2⟩:=r
  exact⟨a,kxs,vxs,e,g.mono s fun _ z=>z,q1.mono s,q2.mono s⟩
theorem Ct.grow{G H G' H':Hp}(g:Gr H G H' G'){d:D}{v:V}(r:Ct K G H d v):Ct K G' H' d v:=by
 cases d<;>rw[Ct]at r<;>rw[Ct]
 ·exact r
 ·exact r
 ·exact r
 ·exact r
 ·obtain⟨a,xs,e,h,q⟩:=r
  exact⟨a,xs,e,⟨g.h _ _ h.1,g.g _ _ h.2⟩,q.mono g.g⟩
 ·obtain⟨a,xs,e,h,q⟩:=r
  exact⟨a,xs,e,Ybc g.h h,q.mono g.g⟩
 ·obtain⟨a,e,h⟩:=r
  exact⟨a,e,g.h.seq h⟩
 ·obtain⟨a,kxs,vxs,e,h,q1,q2⟩:=r
  exact⟨a,kxs,vxs,e,h.mono g.g fun o=>g.h _ o,q1.mono g.g,q2.mono g.g⟩
noncomputable def CtL(K:W.Frag)(G H:Hp):List D→List V→Prop
 | [],xs=>xs=[]
 | d::l,xs=>∃x r,xs=x::r∧Ct K G H d x∧CtL K G H l r
inductive B where
 | sh (d:D) | ow (l:List D) | od (t:Bool) (ks vs:List D)
noncomputable abbrev Ro:=List (Option B)
structure SR(K:W.Frag)(H0 G0:Hp)(σ:L2.St)(H G:Hp)(ρ:Ro):Prop where
 gr:Gr H0 G0 H G
 len:σ.length=ρ.length
 sh:∀(i:Nat) d,ρ[i]?=some (some (B.sh d))→∃v,σ[i]?=some (some v)∧Rp K G d v
 ow:∀(i:Nat) l,ρ[i]?=some (some (B.ow l))→∃a xs,σ[i]?=some (some (V.ref a))∧G a=none∧H0 a=none∧H a=some (.lst xs)∧RpL K G l xs
 ap:∀(i j:Nat) l l' a b,ρ[i]?=some (some (B.ow l))→ρ[j]?=some (some (B.ow l'))→i≠j→σ[i]?=some (some (V.ref a))→σ[j]?=some (some (V.ref b))→a≠b
 od:∀(i:Nat) t ks vs,ρ[i]?=some (some (B.od t ks vs))→∃a kxs vxs,σ[i]?=some (some (V.ref a))∧G a=none∧H0 a=none∧Dc t G H a kxs vxs∧RpL K G ks kxs∧RpL K G vs vxs
 apd:∀(i j:Nat) t ks vs t' ks' vs' a b,ρ[i]?=some (some (B.od t ks vs))→ρ[j]?=some (some (B.od t' ks' vs'))→i≠j→σ[i]?=some (some (V.ref a))→σ[j]?=some (some (V.ref b))→a≠b
section
variable {H0 G0 H G H' G':Hp} {σ:L2.St} {ρ:Ro}
theorem SR.mkSh(g:Gr H0 G0 H G)(len:σ.length=ρ.length)(sh:∀(i:Nat) d,ρ[i]?=some (some (B.sh d))→∃v,σ[i]?=some (some v)∧Rp K G d v)(no:∀(i:Nat) l,ρ[i]?≠some (some (B.ow l)))(no':∀(i:Nat) t ks vs,ρ[i]?≠some (some (B.od t ks vs))):SR K H0 G0 σ H G ρ:=
 ⟨g,len,sh,fun i l h=>absurd h (no i l),fun i j l l' a b h=>absurd h (no i l),fun i t ks vs h=>absurd h (no' i t ks vs),fun i j t ks vs t' ks' vs' a b h=>absurd h (no' i t ks vs)⟩
theorem Yom(g:Gr H G H' G'){a:Addr}{o:HO}(h:H a=some o)(n:G a=none):G' a=none:=by
 cases q:G' a with
 | none=>rfl
 | some o=>
   have:=g.n a n (by rw[q];exact fun z=>nomatch z)
   rw[h]at this
   cases this
theorem SR.grow(s:SR K H0 G0 σ H G ρ)(g:Gr H G H' G'):SR K H0 G0 σ H' G' ρ:=by
 refine⟨s.gr.trans g,s.len,fun i d e=>?_,fun i l e=>?_,s.ap,fun i t ks vs e=>?_,s.apd⟩
 ·obtain⟨v,h1,h2⟩:=s.sh i d e
  exact⟨v,h1,h2.mono g.g⟩
 ·obtain⟨a,xs,h1,h2,h3,h4,h5⟩:=s.ow i l e
  exact⟨a,xs,h1,Yom g h4 h2,h3,g.h _ _ h4,h5.mono g.g⟩
 ·obtain⟨a,kxs,vxs,h1,h2,h3,h4,h5,h6⟩:=s.od i t ks vs e
  obtain⟨o,h7,_⟩:=h4.some
  exact⟨a,kxs,vxs,h1,Yom g h7 h2,h3,h4.mono g.g fun o=>g.h _ o,h5.mono g.g,h6.mono g.g⟩
theorem SR.seen(s:SR K H0 G0 σ H G ρ):Same G H:=s.gr.s
theorem Ym{α:Type}{l:List α}{i j:Nat}{x y:α}(h:(l.set i x)[j]?=some y):(j=i∧y=x∧i < l.length)∨(j≠i∧l[j]?=some y):=by
 by_cases e:j=i
 ·subst e
  have hl:j < l.length:=by
   have:=(qo h).1
   simpa using this
  rw[Qp hl]at h
  exact .inl ⟨rfl,(Option.some.inj h).symm,hl⟩
 ·rw[Qf (Ne.symm e)]at h
  exact .inr ⟨e,h⟩
theorem SR.set_sh(s:SR K H0 G0 σ H G ρ)(i:Nat){d:D}{v:V}(r:Rp K G d v):SR K H0 G0 (σ.set i (some v)) H G (ρ.set i (some (.sh d))):=by
 refine⟨s.gr,by simp[s.len],fun j e h=>?_,fun j l h=>?_,fun j k l l' a b h1 h2 h3 h4 h5=>?_,fun j t ks vs h=>?_,fun j k t ks vs t' ks' vs' a b h1 h2 h3 h4 h5=>?_⟩
 ·rcases Ym h with⟨rfl,e1,hl⟩ | ⟨hj,h⟩
  ·cases e1
   exact⟨v,by rw[Qp (by rw[s.len];exact hl)],r⟩
  ·obtain⟨w,q1,q2⟩:=s.sh j e h
   exact⟨w,by rw[Qf (Ne.symm hj)];exact q1,q2⟩
 ·rcases Ym h with⟨rfl,e1,hl⟩ | ⟨hj,h⟩
  ·cases e1
  ·obtain⟨a,xs,q1,q2⟩:=s.ow j l h
   exact⟨a,xs,by rw[Qf (Ne.symm hj)];exact q1,q2⟩
 ·rcases Ym h1 with⟨rfl,e1,_⟩ | ⟨hj,h1⟩
  ·cases e1
  ·rcases Ym h2 with⟨rfl,e1,_⟩ | ⟨hk,h2⟩
   ·cases e1
   ·rw[Qf (Ne.symm hj)]at h4
    rw[Qf (Ne.symm hk)]at h5
    exact s.ap j k l l' a b h1 h2 h3 h4 h5
 ·rcases Ym h with⟨rfl,e1,hl⟩ | ⟨hj,h⟩
  ·cases e1
  ·obtain⟨a,kxs,vxs,q1,q2⟩:=s.od j t ks vs h
   exact⟨a,kxs,vxs,by rw[Qf (Ne.symm hj)];exact q1,q2⟩
 ·rcases Ym h1 with⟨rfl,e1,_⟩ | ⟨hj,h1⟩
  ·cases e1
  ·rcases Ym h2 with⟨rfl,e1,_⟩ | ⟨hk,h2⟩
   ·cases e1
   ·rw[Qf (Ne.symm hj)]at h4
    rw[Qf (Ne.symm hk)]at h5
    exact s.apd j k t ks vs t' ks' vs' a b h1 h2 h3 h4 h5
theorem SR.set_ow(s:SR K H0 G0 σ H G ρ)(i:Nat){l:List D}{p:Addr}{xs:List V}(g:Gr H G H' G')(hp:H p=none)(gp:G' p=none)(e:H' p=some (.lst xs))(r:RpL K G' l xs):SR K H0 G0 (σ.set i (some (.ref p))) H' G' (ρ.set i (some (.ow l))):=by
 have s':=s.grow g
 have np:∀(j:Nat) l a,ρ[j]?=some (some (B.ow l))→σ[j]?=some (some (V.ref a))→a≠p:=fun j l a h1 h2 z=>by
  obtain⟨b,ys,q1,_,_,q4,_⟩:=s.ow j l h1
  rw[h2]at q1
  cases q1
  rw[z,hp]at q4
  cases q4
 refine⟨s'.gr,by simp[s.len],fun j e h=>?_,fun j l h=>?_,fun j k l l' a b h1 h2 h3 h4 h5=>?_,fun j t ks vs h=>?_,fun j k t ks vs t' ks' vs' a b h1 h2 h3 h4 h5=>?_⟩
 ·rcases Ym h with⟨rfl,e1,hl⟩ | ⟨hj,h⟩
  ·cases e1
  ·obtain⟨w,q1,q2⟩:=s'.sh j e h
   exact⟨w,by rw[Qf (Ne.symm hj)];exact q1,q2⟩
 ·rcases Ym h with⟨rfl,e1,hl⟩ | ⟨hj,h⟩
  ·cases e1
   exact⟨p,xs,by rw[Qp (by rw[s.len];exact hl)],gp,s.gr.h.free hp,e,r⟩
  ·obtain⟨a,xs,q1,q2⟩:=s'.ow j l h
   exact⟨a,xs,by rw[Qf (Ne.symm hj)];exact q1,q2⟩
 ·rcases Ym h1 with⟨rfl,e1,hl⟩ | ⟨hj,h1n⟩
  ·rcases Ym h2 with⟨rfl,e2,_⟩ | ⟨hk,h2⟩
   ·exact absurd rfl h3
   ·rw[Qp (by rw[s.len];exact hl)]at h4
    cases h4
    rw[Qf (Ne.symm hk)]at h5
    exact Ne.symm (np k l' b h2 h5)
  ·rcases Ym h2 with⟨rfl,e2,hl⟩ | ⟨hk,h2⟩
   ·rw[Qp (by rw[s.len];exact hl)]at h5
    cases h5
    rw[Qf (Ne.symm hj)]at h4
    exact np j l a h1n h4
   ·rw[Qf (Ne.symm hj)]at h4
    rw[Qf (Ne.symm hk)]at h5
    exact s.ap j k l l' a b h1n h2 h3 h4 h5
 ·rcases Ym h with⟨rfl,e1,hl⟩ | ⟨hj,h⟩
  ·cases e1
  ·obtain⟨a,kxs,vxs,q1,q2⟩:=s'.od j t ks vs h
   exact⟨a,kxs,vxs,by rw[Qf (Ne.symm hj)];exact q1,q2⟩
 ·rcases Ym h1 with⟨rfl,e1,_⟩ | ⟨hj,h1⟩
  ·cases e1
  ·rcases Ym h2 with⟨rfl,e1,_⟩ | ⟨hk,h2⟩
   ·cases e1
   ·rw[Qf (Ne.symm hj)]at h4
    rw[Qf (Ne.symm hk)]at h5
    exact s.apd j k t ks vs t' ks' vs' a b h1 h2 h3 h4 h5
theorem SR.set_od(s:SR K H0 G0 σ H G ρ)(i:Nat){t:Bool}{ks vs:List D}{p:Addr}{kxs vxs:List V}(g:Gr H G H' G')(hp:H p=none)(gp:G' p=none)(e:Dc t G' H' p kxs vxs)(r1:RpL K G' ks kxs)(r2:RpL K G' vs vxs):SR K H0 G0 (σ.set i (some (.ref p))) H' G' (ρ.set i (some (.od t ks vs))):=by
 have s':=s.grow g
 have np:∀(j:Nat) t ks vs a,ρ[j]?=some (some (B.od t ks vs))→σ[j]?=some (some (V.ref a))→a≠p:=fun j t ks vs a h1 h2 z=>by
  obtain⟨b,kxs,vxs,q1,_,_,q4,_⟩:=s.od j t ks vs h1
  rw[h2]at q1
  cases q1
  obtain⟨o,q5,_⟩:=q4.some
  rw[z,hp]at q5
  cases q5
 refine⟨s'.gr,by simp[s.len],fun j e h=>?_,fun j l h=>?_,fun j k l l' a b h1 h2 h3 h4 h5=>?_,fun j t ks vs h=>?_,fun j k t ks vs t' ks' vs' a b h1 h2 h3 h4 h5=>?_⟩
 ·rcases Ym h with⟨rfl,e1,hl⟩ | ⟨hj,h⟩
  ·cases e1
  ·obtain⟨w,q1,q2⟩:=s'.sh j e h
   exact⟨w,by rw[Qf (Ne.symm hj)];exact q1,q2⟩
 ·rcases Ym h with⟨rfl,e1,hl⟩ | ⟨hj,h⟩
  ·cases e1
  ·obtain⟨a,xs,q1,q2⟩:=s'.ow j l h
   exact⟨a,xs,by rw[Qf (Ne.symm hj)];exact q1,q2⟩
 ·rcases Ym h1 with⟨rfl,e1,_⟩ | ⟨hj,h1⟩
  ·cases e1
  ·rcases Ym h2 with⟨rfl,e1,_⟩ | ⟨hk,h2⟩
   ·cases e1
   ·rw[Qf (Ne.symm hj)]at h4
    rw[Qf (Ne.symm hk)]at h5
    exact s.ap j k l l' a b h1 h2 h3 h4 h5
 ·rcases Ym h with⟨rfl,e1,hl⟩ | ⟨hj,h⟩
  ·cases e1
   exact⟨p,kxs,vxs,by rw[Qp (by rw[s.len];exact hl)],gp,s.gr.h.free hp,e,r1,r2⟩
  ·obtain⟨a,kxs,vxs,q1,q2⟩:=s'.od j t ks vs h
   exact⟨a,kxs,vxs,by rw[Qf (Ne.symm hj)];exact q1,q2⟩
 ·rcases Ym h1 with⟨rfl,e1,hl⟩ | ⟨hj,h1n⟩
  ·rcases Ym h2 with⟨rfl,e2,_⟩ | ⟨hk,h2⟩
   ·exact absurd rfl h3
   ·rw[Qp (by rw[s.len];exact hl)]at h4
    cases h4
    rw[Qf (Ne.symm hk)]at h5
    exact Ne.symm (np k t' ks' vs' b h2 h5)
  ·rcases Ym h2 with⟨rfl,e2,hl⟩ | ⟨hk,h2⟩
   ·rw[Qp (by rw[s.len];exact hl)]at h5
    cases h5
    rw[Qf (Ne.symm hj)]at h4
    exact np j t ks vs a h1n h4
   ·rw[Qf (Ne.symm hj)]at h4
    rw[Qf (Ne.symm hk)]at h5
    exact s.apd j k t ks vs t' ks' vs' a b h1n h2 h3 h4 h5
theorem SR.mut(s:SR K H0 G0 σ H G ρ){i:Nat}{l l':List D}{a:Addr}{ys:List V}(hi:ρ[i]?=some (some (B.ow l)))(ha:σ[i]?=some (some (V.ref a)))(r:RpL K G l' ys):SR K H0 G0 σ (upd H a (.lst ys)) G (ρ.set i (some (.ow l'))):=by
 obtain⟨a',xs,q1,q2,q3,q4,q5⟩:=s.ow i l hi
 rw[ha]at q1
 cases q1
 have hl:i < ρ.length:=(qo hi).1
 refine⟨⟨fun b o e=>?_,s.gr.g,fun b o e=>?_,s.gr.n⟩,by simp[s.len],fun j e h=>?_,fun j m h=>?_,fun j k m m' b c h1 h2 h3 h4 h5=>?_,fun j t ks vs h=>?_,fun j k t ks vs t' ks' vs' b c h1 h2 h3 h4 h5=>?_⟩
 ·rw[Yz (Yy e q3)];exact s.gr.h b o e
 ·rw[Yz (Yy e q2)];exact s.gr.s b o e
 ·rcases Ym h with⟨rfl,e1,_⟩ | ⟨hj,h⟩
  ·cases e1
  ·exact s.sh j e h
 ·rcases Ym h with⟨rfl,e1,_⟩ | ⟨hj,h⟩
  ·cases e1
   exact⟨a,ys,ha,q2,q3,Yv,r⟩
  ·obtain⟨b,zs,p1,p2,p3,p4,p5⟩:=s.ow j m h
   exact⟨b,zs,p1,p2,p3,by rw[Yz (s.ap j i m l b a h hi hj p1 ha)];exact p4,p5⟩
 ·have old:∀(j:Nat) m,(ρ.set i (some (.ow l')))[j]?=some (some (B.ow m))→∃m',ρ[j]?=some (some (B.ow m')):=fun j m h=>by
   rcases Ym h with⟨rfl,_,_⟩ | ⟨_,h⟩
   ·exact⟨l,hi⟩
   ·exact⟨m,h⟩
  obtain⟨n1,e1⟩:=old j m h1
  obtain⟨n2,e2⟩:=old k m' h2
  exact s.ap j k n1 n2 b c e1 e2 h3 h4 h5
 ·rcases Ym h with⟨rfl,e1,_⟩ | ⟨hj,h⟩
  ·cases e1
  ·obtain⟨b,kxs,vxs,p1,p2,p3,p4,p5⟩:=s.od j t ks vs h
   refine⟨b,kxs,vxs,p1,p2,p3,p4.mono (Same.refl _) fun o q=>?_,p5⟩
   obtain⟨o',q',nl⟩:=p4.some
   rw[q]at q'
   cases q'
   rw[Yz (fun z=>by rw[z,q4]at q;cases q;exact nl _ rfl)];exact q
 ·rcases Ym h1 with⟨rfl,e1,_⟩ | ⟨hj,h1⟩
  ·cases e1
  ·rcases Ym h2 with⟨rfl,e1,_⟩ | ⟨hk,h2⟩
   ·cases e1
   ·exact s.apd j k t ks vs t' ks' vs' b c h1 h2 h3 h4 h5
theorem SR.mutd(s:SR K H0 G0 σ H G ρ){i:Nat}{t t':Bool}{ks vs ks' vs':List D}{a:Addr}{o:HO}{kxs vxs:List V}(hi:ρ[i]?=some (some (B.od t ks vs)))(ha:σ[i]?=some (some (V.ref a)))(d:Dc t' G (upd H a o) a kxs vxs)(r1:RpL K G ks' kxs)(r2:RpL K G vs' vxs):SR K H0 G0 σ (upd H a o) G (ρ.set i (some (.od t' ks' vs'))):=by
 obtain⟨a',kxs0,vxs0,q1,q2,q3,q4,q5,q6⟩:=s.od i t ks vs hi
 rw[ha]at q1
 cases q1
 obtain⟨o0,q7,nl⟩:=q4.some
 have hl:i < ρ.length:=(qo hi).1
 refine⟨⟨fun b o e=>?_,s.gr.g,fun b o e=>?_,s.gr.n⟩,by simp[s.len],fun j e h=>?_,fun j m h=>?_,fun j k m m' b c h1 h2 h3 h4 h5=>?_,fun j ta ka va h=>?_,fun j k ta ka va tb kb vb b c h1 h2 h3 h4 h5=>?_⟩
 ·rw[Yz (Yy e q3)];exact s.gr.h b o e
 ·rw[Yz (Yy e q2)];exact s.gr.s b o e
 ·rcases Ym h with⟨rfl,e1,_⟩ | ⟨hj,h⟩
  ·cases e1
  ·exact s.sh j e h
 ·rcases Ym h with⟨rfl,e1,_⟩ | ⟨hj,h⟩
  ·cases e1
  ·obtain⟨b,zs,p1,p2,p3,p4,p5⟩:=s.ow j m h
   exact⟨b,zs,p1,p2,p3,by rw[Yz (fun z=>by rw[z,q7]at p4;cases p4;exact nl _ rfl)];exact p4,p5⟩
 ·rcases Ym h1 with⟨rfl,e1,_⟩ | ⟨hj,h1⟩
  ·cases e1
  ·rcases Ym h2 with⟨rfl,e1,_⟩ | ⟨hk,h2⟩
   ·cases e1
   ·exact s.ap j k m m' b c h1 h2 h3 h4 h5
 ·rcases Ym h with⟨rfl,e1,_⟩ | ⟨hj,h⟩
  ·cases e1
   exact⟨a,kxs,vxs,ha,q2,q3,d,r1,r2⟩
  ·obtain⟨b,kx,vx,p1,p2,p3,p4,p5⟩:=s.od j ta ka va h
   exact⟨b,kx,vx,p1,p2,p3,p4.mono (Same.refl _) fun o q=>by rw[Yz (s.apd j i _ _ _ _ _ _ b a h hi hj p1 ha)];exact q,p5⟩
 ·have old:∀(j:Nat) t2 k2 v2,(ρ.set i (some (.od t' ks' vs')))[j]?=some (some (B.od t2 k2 v2))→∃t3 k3 v3,ρ[j]?=some (some (B.od t3 k3 v3)):=fun j t2 k2 v2 h=>by
   rcases Ym h with⟨rfl,_,_⟩ | ⟨_,h⟩
   ·exact⟨_,_,_,hi⟩
   ·exact⟨_,_,_,h⟩
  obtain⟨t1,k1,v1,e1⟩:=old j _ _ _ h1
  obtain⟨t2,k2,v2,e2⟩:=old k _ _ _ h2
  exact s.apd j k t1 k1 v1 t2 k2 v2 b c e1 e2 h3 h4 h5
theorem SR.freezeT(s:SR K H0 G0 σ H G ρ){i:Nat}{l:List D}(hi:ρ[i]?=some (some (B.ow l))):∃G',SR K H0 G0 σ H G' (ρ.set i (some (.sh (.lst l))))∧∀b ys,G' b=some (.tup ys)→G b=some (.tup ys):=by
 obtain⟨a,xs,q1,q2,q3,q4,q5⟩:=s.ow i l hi
 have hl:i < ρ.length:=(qo hi).1
 have sm:Same G (upd G a (.lst xs)):=fun b o e=>by rw[Yz (Yy e q2)];exact e
 refine⟨upd G a (.lst xs),?_,fun b ys e=>by
  by_cases z:b=a
  ·subst z;rw[Yv]at e;cases e
  ·rw[Yz z]at e;exact e⟩
 refine⟨⟨s.gr.h,s.gr.g.trans sm,fun b o e=>?_,fun b h h'=>?_⟩,by simp[s.len],fun j e h=>?_,fun j m h=>?_,fun j k m m' b c h1 h2 h3 h4 h5=>?_,fun j t ks vs h=>?_,fun j k t ks vs t' ks' vs' b c h1 h2 h3 h4 h5=>?_⟩
 ·by_cases z:b=a
  ·subst z;rw[Yv]at e;rw[q4];exact e
  ·rw[Yz z]at e;exact s.gr.s b o e
 ·by_cases z:b=a
  ·subst z;exact q3
  ·rw[Yz z]at h';exact s.gr.n b h h'
 ·rcases Ym h with⟨rfl,e1,_⟩ | ⟨hj,h⟩
  ·cases e1
   exact⟨_,q1,by rw[Rp];exact⟨a,xs,rfl,.inl Yv,q5.mono sm⟩⟩
  ·obtain⟨v,p1,p2⟩:=s.sh j e h
   exact⟨v,p1,p2.mono sm⟩
 ·rcases Ym h with⟨rfl,e1,_⟩ | ⟨hj,h⟩
  ·cases e1
  ·obtain⟨b,zs,p1,p2,p3,p4,p5⟩:=s.ow j m h
   exact⟨b,zs,p1,by rw[Yz (s.ap j i m l b a h hi hj p1 q1)];exact p2,p3,p4,p5.mono sm⟩
 ·rcases Ym h1 with⟨rfl,e1,_⟩ | ⟨hj,h1⟩
  ·cases e1
  ·rcases Ym h2 with⟨rfl,e1,_⟩ | ⟨hk,h2⟩
   ·cases e1
   ·exact s.ap j k m m' b c h1 h2 h3 h4 h5
 ·rcases Ym h with⟨rfl,e1,_⟩ | ⟨hj,h⟩
  ·cases e1
  ·obtain⟨b,kxs,vxs,p1,p2,p3,p4,p5,p6⟩:=s.od j t ks vs h
   obtain⟨o',q',nl⟩:=p4.some
   exact⟨b,kxs,vxs,p1,by rw[Yz (fun z=>by rw[z,q4]at q';cases q';exact nl _ rfl)];exact p2,p3,p4.mono sm fun _ z=>z,p5.mono sm,p6.mono sm⟩
 ·rcases Ym h1 with⟨rfl,e1,_⟩ | ⟨hj,h1⟩
  ·cases e1
  ·rcases Ym h2 with⟨rfl,e1,_⟩ | ⟨hk,h2⟩
   ·cases e1
   ·exact s.apd j k t ks vs t' ks' vs' b c h1 h2 h3 h4 h5
theorem SR.freeze(s:SR K H0 G0 σ H G ρ){i:Nat}{l:List D}(hi:ρ[i]?=some (some (B.ow l))):∃G',SR K H0 G0 σ H G' (ρ.set i (some (.sh (.lst l)))):=by
 obtain⟨G',h,_⟩:=s.freezeT hi
 exact⟨G',h⟩
theorem SR.freezedT(s:SR K H0 G0 σ H G ρ){i:Nat}{t:Bool}{ks vs:List D}(hi:ρ[i]?=some (some (B.od t ks vs))):∃G',SR K H0 G0 σ H G' (ρ.set i (some (.sh (.dct t ks vs))))∧∀b ys,G' b=some (.tup ys)→G b=some (.tup ys):=by
 obtain⟨a,kxs,vxs,q1,q2,q3,q4,q5,q6⟩:=s.od i t ks vs hi
 obtain⟨o,q7,nl⟩:=q4.some
 have hl:i < ρ.length:=(qo hi).1
 have sm:Same G (upd G a o):=fun b o e=>by rw[Yz (Yy e q2)];exact e
 obtain⟨oT,q8,nt⟩:=q4.someT
 rw[q7]at q8
 cases q8
 refine⟨upd G a o,?_,fun b ys e=>by
  by_cases z:b=a
  ·subst z;rw[Yv]at e;cases e;exact absurd rfl (nt _)
  ·rw[Yz z]at e;exact e⟩
 refine⟨⟨s.gr.h,s.gr.g.trans sm,fun b o' e=>?_,fun b h h'=>?_⟩,by simp[s.len],fun j e h=>?_,fun j m h=>?_,fun j k m m' b c h1 h2 h3 h4 h5=>?_,fun j t ks vs h=>?_,fun j k t ks vs t' ks' vs' b c h1 h2 h3 h4 h5=>?_⟩
 ·by_cases z:b=a
  ·subst z;rw[Yv]at e;rw[q7];exact e
  ·rw[Yz z]at e;exact s.gr.s b o' e
 ·by_cases z:b=a
  ·subst z;exact q3
  ·rw[Yz z]at h';exact s.gr.n b h h'
 ·rcases Ym h with⟨rfl,e1,_⟩ | ⟨hj,h⟩
  ·cases e1
   refine⟨_,q1,?_⟩
   rw[Rp]
   refine⟨a,kxs,vxs,rfl,q4.mono sm fun o' z=>?_,q5.mono sm,q6.mono sm⟩
   rw[q7]at z
   rw[Yv];exact z
  ·obtain⟨v,p1,p2⟩:=s.sh j e h
   exact⟨v,p1,p2.mono sm⟩
 ·rcases Ym h with⟨rfl,e1,_⟩ | ⟨hj,h⟩
  ·cases e1
  ·obtain⟨b,zs,p1,p2,p3,p4,p5⟩:=s.ow j m h
   exact⟨b,zs,p1,by rw[Yz (fun z=>by rw[z,q7]at p4;cases p4;exact nl _ rfl)];exact p2,p3,p4,p5.mono sm⟩
 ·rcases Ym h1 with⟨rfl,e1,_⟩ | ⟨hj,h1⟩
  ·cases e1
  ·rcases Ym h2 with⟨rfl,e1,_⟩ | ⟨hk,h2⟩
   ·cases e1
   ·exact s.ap j k m m' b c h1 h2 h3 h4 h5
 ·rcases Ym h with⟨rfl,e1,_⟩ | ⟨hj,h⟩
  ·cases e1
  ·obtain⟨b,kx,vx,p1,p2,p3,p4,p5,p6⟩:=s.od j t ks vs h
   exact⟨b,kx,vx,p1,by rw[Yz (s.apd j i _ _ _ _ _ _ b a h hi hj p1 q1)];exact p2,p3,p4.mono sm fun _ z=>z,p5.mono sm,p6.mono sm⟩
 ·rcases Ym h1 with⟨rfl,e1,_⟩ | ⟨hj,h1⟩
  ·cases e1
  ·rcases Ym h2 with⟨rfl,e1,_⟩ | ⟨hk,h2⟩
   ·cases e1
   ·exact s.apd j k t ks vs t' ks' vs' b c h1 h2 h3 h4 h5
theorem SR.freezed(s:SR K H0 G0 σ H G ρ){i:Nat}{t:Bool}{ks vs:List D}(hi:ρ[i]?=some (some (B.od t ks vs))):∃G',SR K H0 G0 σ H G' (ρ.set i (some (.sh (.dct t ks vs)))):=by
 obtain⟨G',h,_⟩:=s.freezedT hi
 exact⟨G',h⟩
def Le(ρ ρ':Ro):Prop:=ρ.length=ρ'.length∧∀(i:Nat) b,ρ[i]?=some (some b)→ρ'[i]?=some (some b)
theorem SR.le{ρ':Ro}(s:SR K H0 G0 σ H G ρ')(h:Le ρ ρ'):SR K H0 G0 σ H G ρ:=
 ⟨s.gr,s.len.trans h.1.symm,fun i d e=>s.sh i d (h.2 i _ e),fun i l e=>s.ow i l (h.2 i _ e),fun i j l l' a b e1 e2=>s.ap i j l l' a b (h.2 i _ e1) (h.2 j _ e2),
  fun i t ks vs e=>s.od i t ks vs (h.2 i _ e),fun i j t ks vs t' ks' vs' a b e1 e2=>s.apd i j t ks vs t' ks' vs' a b (h.2 i _ e1) (h.2 j _ e2)⟩
theorem SR.rebase(s:SR K H0 G0 σ H G ρ):∃H1,SR K H1 G σ H G ρ∧∀σ' H' G' ρ',SR K H1 G σ' H' G' ρ'→SR K H0 G0 σ' H' G' ρ':=by
 classical
 let own:Addr→Prop:=fun a=>∃(i:Nat),((∃l:List D,ρ[i]?=some (some (B.ow l)))∨(∃t ks vs,ρ[i]?=some (some (B.od t ks vs))))∧σ[i]?=some (some (V.ref a))
 have h0:∀a,own a→H0 a=none:=fun a hx_=>by
  obtain⟨i,e1,e2⟩:=hx_
  rcases e1 with⟨l,e1⟩ | ⟨t,ks,vs,e1⟩
  ·obtain⟨b,xs,q1,_,q3,_⟩:=s.ow i l e1
   rw[e2]at q1;cases q1;exact q3
  ·obtain⟨b,kxs,vxs,q1,_,q3,_⟩:=s.od i t ks vs e1
   rw[e2]at q1;cases q1;exact q3
 have back:∀a,(if own a then (none:Option HO)else H a)=none→H0 a=none:=fun a h=>by
  by_cases o:own a
  ·exact h0 a o
  ·rw[if_neg o]at h;exact s.gr.h.free h
 refine⟨fun a=>if own a then none else H a,⟨⟨fun b o e=>?_,Same.refl _,s.gr.s,fun _ h h'=>absurd h h'⟩,s.len,s.sh,fun i l e=>?_,s.ap,fun i t ks vs e=>?_,s.apd⟩,fun σ' H' G' ρ' t=>⟨⟨fun b o e=>?_,s.gr.g.trans t.gr.g,t.gr.s,fun b h h'=>?_⟩,t.len,t.sh,fun i l e=>?_,t.ap,fun i t1 ks vs e=>?_,t.apd⟩⟩
 ·by_cases z:own b
  ·simp only[if_pos z]at e;cases e
  ·simp only[if_neg z]at e;exact e
 ·obtain⟨a,xs,q1,q2,q3,q4,q5⟩:=s.ow i l e
  exact⟨a,xs,q1,q2,if_pos ⟨i,.inl ⟨l,e⟩,q1⟩,q4,q5⟩
 ·obtain⟨a,kxs,vxs,q1,q2,q3,q4⟩:=s.od i t ks vs e
  exact⟨a,kxs,vxs,q1,q2,if_pos ⟨i,.inr ⟨t,ks,vs,e⟩,q1⟩,q4⟩
 ·refine t.gr.h b o ?_
  have z:¬own b:=fun z=>by rw[h0 b z]at e;cases e
  show(if own b then none else H b)=some o
  rw[if_neg z];exact s.gr.h b o e
 ·by_cases z:G b=none
  ·exact back b (t.gr.n b z h')
  ·exact s.gr.n b h z
 ·obtain⟨a,xs,q1,q2,q3,q4,q5⟩:=t.ow i l e
  exact⟨a,xs,q1,q2,back a q3,q4,q5⟩
 ·obtain⟨a,kxs,vxs,q1,q2,q3,q4⟩:=t.od i t1 ks vs e
  exact⟨a,kxs,vxs,q1,q2,back a q3,q4⟩
end
noncomputable def tOf(K:W.Frag)(f:Ro→Option D):TE:=fun σ H Q=>∃ρ d H0 G0 G,f ρ=some d∧SR K H0 G0 σ H G ρ∧∀v H' G',Gr H G H' G'→Rp K G' d v→Q v H'
noncomputable def tCof(K:W.Frag)(f:Ro→Option D):TE:=fun σ H Q=>∃ρ d H0 G0 G,f ρ=some d∧SR K H0 G0 σ H G ρ∧∀v H' G',Gr H G H' G'→Ct K G' H' d v→Q v H'
noncomputable def tCAof(K:W.Frag)(f:Ro→Option (List D)):TA:=fun σ H Q=>∃ρ l H0 G0 G,f ρ=some l∧SR K H0 G0 σ H G ρ∧∀vs H' G',Gr H G H' G'→CtL K G' H' l vs→Q vs H'
noncomputable def tFof(K:W.Frag)(f:Ro→Option (List D)):TE:=fun σ H Q=>∃ρ l H0 G0 G,f ρ=some l∧SR K H0 G0 σ H G ρ∧∀p xs H' G',Gr H G H' G'→H p=none→G' p=none→H' p=some (.lst xs)→RpL K G' l xs→Q (.ref p) H'
noncomputable def tTof(K:W.Frag)(f:Ro→Option Bool):TT:=fun σ H Q=>∃ρ b H0 G0 G,f ρ=some b∧SR K H0 G0 σ H G ρ∧∀H' G',Gr H G H' G'→Q b H'
noncomputable def tAof(K:W.Frag)(f:Ro→Option (List D)):TA:=fun σ H Q=>∃ρ l H0 G0 G,f ρ=some l∧SR K H0 G0 σ H G ρ∧∀vs H' G',Gr H G H' G'→RpL K G' l vs→Q vs H'
def Wk(K:W.Frag)(J:It)(G':Hp)(ds:List D):Prop:=ds.length≤sizeLine∧∀(i:Nat) H2 G2,Same G' G2→Same G2 H2→
 (∀d,ds[i]?=some d→J.go i H2∧∀y H3,J.yld i H2 y H3→∃G3,Gr H2 G2 H3 G3∧Rp K G3 d y)∧(ds.length≤i→J.stop i H2)
noncomputable def tIof(K:W.Frag)(f:Ro→Option (List D)):TI:=fun σ H R=>∃ρ ds H0 G0 G,f ρ=some ds∧SR K H0 G0 σ H G ρ∧∀J H' G',Gr H G H' G'→Wk K J G' ds→R J H'
inductive Out where
 | nx (ρ:Ro) | rt (d:D) | bk (ρ:Ro) | ct (ρ:Ro)
noncomputable def Cont(K:W.Frag)(H0 G0:Hp)(F:Ends):Out→Prop
 | .nx ρ'=>∀σ' H' G',SR K H0 G0 σ' H' G' ρ'→F.nx σ' H'
 | .rt d=>∀v H' G',Gr H0 G0 H' G'→Rp K G' d v→F.rt v H'
 | .bk ρ'=>∀σ' H' G',SR K H0 G0 σ' H' G' ρ'→F.bk σ' H'
 | .ct ρ'=>∀σ' H' G',SR K H0 G0 σ' H' G' ρ'→F.ct σ' H'
noncomputable def sOf(K:W.Frag)(f:Ro→Option Out):TS:=fun F σ H=>∃ρ out H0 G0 G,f ρ=some out∧SR K H0 G0 σ H G ρ∧Cont K H0 G0 F out
noncomputable def gOf(K:W.Frag)(gt:D→Ro→Option Ro):TG:=fun v σ H Q=>∃d ρ ρ' H0 G0 G,gt d ρ=some ρ'∧SR K H0 G0 σ H G ρ∧Rp K G d v∧∀σ',SR K H0 G0 σ' H G ρ'→Q σ' H
noncomputable abbrev ME(X:Cx)(e:Expr)(f:Ro→Option D):Prop:=PE X e (tOf X.K f)
noncomputable abbrev MC(X:Cx)(e:Expr)(f:Ro→Option D):Prop:=PE X e (tCof X.K f)
noncomputable abbrev MCA(X:Cx)(es:List Expr)(f:Ro→Option (List D)):Prop:=PA X es (tCAof X.K f)
noncomputable abbrev MF(X:Cx)(e:Expr)(f:Ro→Option (List D)):Prop:=PE X e (tFof X.K f)
noncomputable abbrev MT(X:Cx)(e:Expr)(f:Ro→Option Bool):Prop:=PT X e (tTof X.K f)
noncomputable abbrev MA(X:Cx)(es:List Expr)(f:Ro→Option (List D)):Prop:=PA X es (tAof X.K f)
noncomputable abbrev MI(X:Cx)(tg iter:Expr)(f:Ro→Option (List D)):Prop:=PI X tg iter (tIof X.K f)
noncomputable abbrev MS(X:Cx)(st:Stmt)(f:Ro→Option Out):Prop:=PS X st (sOf X.K f)
noncomputable abbrev MB(X:Cx)(sts:List Stmt)(f:Ro→Option Out):Prop:=PSs X sts (sOf X.K f)
noncomputable abbrev MG(X:Cx)(tg:Expr)(gt:D→Ro→Option Ro):Prop:=PG X tg (gOf X.K gt)
section
variable {X:Cx}
theorem PE.imp{e:Expr}{t t':TE}(h:PE X e t)(i:∀σ H Q,t' σ H Q→t σ H Q):PE X e t':=fun pins s σ H Q I hw=>h pins s σ H Q I (i σ H Q hw)
theorem PT.imp{e:Expr}{t t':TT}(h:PT X e t)(i:∀σ H Q,t' σ H Q→t σ H Q):PT X e t':=fun pins s σ H Q I hw=>h pins s σ H Q I (i σ H Q hw)
theorem PA.imp{es:List Expr}{t t':TA}(h:PA X es t)(i:∀σ H Q,t' σ H Q→t σ H Q):PA X es t':=fun pos pins s σ H Q I hw=>h pos pins s σ H Q I (i σ H Q hw)
theorem PS.imp{st:Stmt}{t t':TS}(h:PS X st t)(i:∀F σ H,t' F σ H→t F σ H):PS X st t':=fun pins s σ H F I hw=>h pins s σ H F I (i F σ H hw)
theorem PSs.imp{st:List Stmt}{t t':TS}(h:PSs X st t)(i:∀F σ H,t' F σ H→t F σ H):PSs X st t':=fun pins s σ H F I hw=>h pins s σ H F I (i F σ H hw)
theorem PI.imp{tg e:Expr}{t t':TI}(h:PI X tg e t)(i:∀σ H R,t' σ H R→t σ H R):PI X tg e t':=fun pins s σ H R I hw=>h pins s σ H R I (i σ H R hw)
theorem PG.imp{e:Expr}{t t':TG}(h:PG X e t)(i:∀v σ H Q,t' v σ H Q→t v σ H Q):PG X e t':=fun pins s σ H v u Q I r hw=>h pins s σ H v u Q I r (i v σ H Q hw)
variable {H0 G0 H G:Hp} {σ:L2.St} {ρ:Ro}
theorem tOf.at{f:Ro→Option D}{d:D}{Q:VK}(e:f ρ=some d)(s:SR K H0 G0 σ H G ρ)(h:∀v H' G',Gr H G H' G'→Rp K G' d v→SR K H0 G0 σ H' G' ρ→Q v H'):tOf K f σ H Q:=
 ⟨ρ,d,H0,G0,G,e,s,fun v H' G' g r=>h v H' G' g r (s.grow g)⟩
theorem tCof.at{f:Ro→Option D}{d:D}{Q:VK}(e:f ρ=some d)(s:SR K H0 G0 σ H G ρ)(h:∀v H' G',Gr H G H' G'→Ct K G' H' d v→SR K H0 G0 σ H' G' ρ→Q v H'):tCof K f σ H Q:=
 ⟨ρ,d,H0,G0,G,e,s,fun v H' G' g r=>h v H' G' g r (s.grow g)⟩
theorem tCAof.at{f:Ro→Option (List D)}{l:List D}{Q:List V→Hp→Prop}(e:f ρ=some l)(s:SR K H0 G0 σ H G ρ)(h:∀vs H' G',Gr H G H' G'→CtL K G' H' l vs→SR K H0 G0 σ H' G' ρ→Q vs H'):tCAof K f σ H Q:=
 ⟨ρ,l,H0,G0,G,e,s,fun v H' G' g r=>h v H' G' g r (s.grow g)⟩
theorem ME.mc{e:Expr}{f:Ro→Option D}(h:ME X e f):MC X e f:=PE.imp h fun σ H Q ⟨ρ,d,H0,G0,G,e,s,h⟩=>⟨ρ,d,H0,G0,G,e,s,fun v H' G' g r=>h v H' G' g (.of g.s r)⟩
theorem tTof.at{f:Ro→Option Bool}{b:Bool}{Q:Bool→Hp→Prop}(e:f ρ=some b)(s:SR K H0 G0 σ H G ρ)(h:∀H' G',Gr H G H' G'→SR K H0 G0 σ H' G' ρ→Q b H'):tTof K f σ H Q:=
 ⟨ρ,b,H0,G0,G,e,s,fun H' G' g=>h H' G' g (s.grow g)⟩
theorem tAof.at{f:Ro→Option (List D)}{l:List D}{Q:List V→Hp→Prop}(e:f ρ=some l)(s:SR K H0 G0 σ H G ρ)(h:∀vs H' G',Gr H G H' G'→RpL K G' l vs→SR K H0 G0 σ H' G' ρ→Q vs H'):tAof K f σ H Q:=
 ⟨ρ,l,H0,G0,G,e,s,fun v H' G' g r=>h v H' G' g r (s.grow g)⟩
end
end
section
variable {K:W.Frag}
noncomputable def b2{α:Type}(fa fb:Ro→Option D)(g:D→D→Option α):Ro→Option α:=fun ρ=>(fa ρ).bind fun x=>(fb ρ).bind fun y=>g x y
noncomputable def b1{α:Type}(fa:Ro→Option D)(g:D→Option α):Ro→Option α:=fun ρ=>(fa ρ).bind g
theorem Yjh{α:Type}{fa fb:Ro→Option D}{g:D→D→Option α}{ρ:Ro}{r:α}(h:b2 fa fb g ρ=some r):∃x y,fa ρ=some x∧fb ρ=some y∧g x y=some r:=by
 unfold b2 at h
 obtain⟨x,h1,h⟩:=qa h
 obtain⟨y,h2,h⟩:=qa h
 exact⟨x,y,h1,h2,h⟩
theorem Ybv{α:Type}{fa:Ro→Option D}{g:D→Option α}{ρ:Ro}{r:α}(h:b1 fa g ρ=some r):∃x,fa ρ=some x∧g x=some r:=by
 unfold b1 at h
 obtain⟨x,h1,h⟩:=qa h
 exact⟨x,h1,h⟩
def Sem2(K:W.Frag)(r:R2)(g:D→D→Option D):Prop:=∀(x y:V) (dx dy d:D) (H G:Hp) (Q:VK),g dx dy=some d→Same G H→Ct K G H dx x→Ct K G H dy y→(∀v H' G',Gr H G H' G'→Rp K G' d v→Q v H')→r x y H Q
def Yfy(K:W.Frag)(r:R2)(g:D→D→Option Bool):Prop:=∀(x y:V) (dx dy:D) (b:Bool) (H G:Hp) (Q:VK),g dx dy=some b→Same G H→Ct K G H dx x→Ct K G H dy y→Q (.bl b) H→r x y H Q
def SemC(K:W.Frag)(r:List V→Hp→VK→Prop)(g:List D→Option D):Prop:=∀(vs:List V) (ds:List D) (d:D) (H G:Hp) (Q:VK),g ds=some d→Same G H→CtL K G H ds vs→(∀v H' G',Gr H G H' G'→Rp K G' d v→Q v H')→r vs H Q
def SemF(K:W.Frag)(r:List V→Hp→VK→Prop)(g:List D→Option (List D)):Prop:=∀(vs:List V) (ds l:List D) (H G:Hp) (Q:VK),g ds=some l→Same G H→CtL K G H ds vs→
 (∀p xs H' G',Gr H G H' G'→H p=none→G' p=none→H' p=some (.lst xs)→RpL K G' l xs→Q (.ref p) H')→r vs H Q
section
variable {X:Cx} {a b c e:Expr} {es:List Expr} {fa fb fc f:Ro→Option D} {ga:Ro→Option (List D)} {pos:Pos}
noncomputable def getV(i:Nat):Ro→Option D:=fun ρ=>match ρ[i]? with
 | some (some (B.sh d))=>some d
 | _=>none
noncomputable def getO(i:Nat):Ro→Option (List D):=fun ρ=>match ρ[i]? with
 | some (some (B.ow l))=>some l
 | _=>none
theorem Yve{i:Nat}{ρ:Ro}{d:D}(h:getV i ρ=some d):ρ[i]?=some (some (B.sh d)):=by
 unfold getV at h
 split at h
 ·cases h;assumption
 ·cases h
theorem Yon{i:Nat}{ρ:Ro}{l:List D}(h:getO i ρ=some l):ρ[i]?=some (some (B.ow l)):=by
 unfold getO at h
 split at h
 ·cases h;assumption
 ·cases h
theorem y4v(i:Nat){x:Str}(hN:X.N[i]?=some x:=by rfl)(hv:Vis X.env.scope x:=by first | exact Or.inl rfl | exact Or.inr (Or.inl rfl) | exact Or.inr (Or.inr rfl))(hd:(x==("__debug__":Str))=false:=by decide)
 (hcd:(x==("__classdict__":Str))=false:=by decide):ME X (.Name x pos) (getV i):=
 PE.imp (Yr8 hN hv hd hcd) fun σ H Q hx_=>by
  obtain⟨ρ,d,H0,G0,G,e,s,h⟩:=hx_
  obtain⟨v,h1,h2⟩:=s.sh i d (Yve e)
  exact⟨v,h1,h v H G (.refl s.seen) h2⟩
noncomputable def getC(i:Nat):Ro→Option D:=fun ρ=>match ρ[i]? with
 | some (some (B.sh d))=>some d
 | some (some (B.ow l))=>some (.lst l)
 | some (some (B.od t ks vs))=>some (.dct t ks vs)
 | _=>none
theorem y4w(i:Nat){x:Str}(hN:X.N[i]?=some x:=by rfl)(hv:Vis X.env.scope x:=by first | exact Or.inl rfl | exact Or.inr (Or.inl rfl) | exact Or.inr (Or.inr rfl))(hd:(x==("__debug__":Str))=false:=by decide)
 (hcd:(x==("__classdict__":Str))=false:=by decide):MC X (.Name x pos) (getC i):=
 PE.imp (Yr8 hN hv hd hcd) fun σ H Q hx_=>by
  obtain⟨ρ,d,H0,G0,G,e,s,h⟩:=hx_
  unfold getC at e
  split at e
  ·rename_i d' hd'
   cases e
   obtain⟨v,h1,h2⟩:=s.sh i _ hd'
   exact⟨v,h1,h v H G (.refl s.seen) (.of s.seen h2)⟩
  ·rename_i l hl
   cases e
   obtain⟨a,xs,h1,h2,h3,h4,h5⟩:=s.ow i l hl
   exact⟨_,h1,h _ H G (.refl s.seen) (by rw[Ct];exact⟨a,xs,rfl,.inl h4,h5⟩)⟩
  ·rename_i t ks vs hl
   cases e
   obtain⟨a,kxs,vxs,h1,h2,h3,h4,h5⟩:=s.od i t ks vs hl
   exact⟨_,h1,h _ H G (.refl s.seen) (by rw[Ct];exact⟨a,kxs,vxs,rfl,h4,h5⟩)⟩
  ·cases e
noncomputable def kD(d:D):Ro→Option D:=fun _=>some d
theorem Yi4{v:V}{d:D}{t:TE}(h:PE X e t)(ht:∀σ H Q,Q v H→t σ H Q)(hr:∀G,Rp X.K G d v):ME X e (kD d):=
 PE.imp h fun σ H Q hx_=>by
  obtain⟨ρ,d',H0,G0,G,e,s,h⟩:=hx_
  cases e
  exact ht σ H Q (h v H G (.refl s.seen) (hr G))
theorem Yz5{i:Int}{j}:ME X (.Constant (.int i) j pos) (kD (.int i)):=Yi4 (v:=.int i) y3r (fun _ _ _ q=>q) fun _=>by rw[Rp]
theorem y7y{k:Bool}{j}:ME X (.Constant (.bool k) j pos) (kD (.bl k)):=Yi4 (v:=.bl k) y7e (fun _ _ _ q=>q) fun _=>by rw[Rp]
theorem y4x{j}:ME X (.Constant .none j pos) (kD .non):=Yi4 (v:=.non) y3s (fun _ _ _ q=>q) fun _=>by rw[Rp]
theorem y4y{x:Str}{j}(hx:PyData.strOk x=true:=by decide +kernel):ME X (.Constant (.str x) j pos) (kD (.str x)):=Yi4 (v:=.str x) y3t (fun _ _ _ q=>q) fun _=>by rw[Rp];exact⟨rfl,hx⟩
theorem Yz6{r:R2}{g:D→D→Option D}(hr:Sem2 K r g){σ:L2.St}{H:Hp}{Q:VK}(h:tOf K (b2 fa fb g) σ H Q):tOp r (tCof K fa) (tCof K fb) σ H Q:=by
 obtain⟨ρ,d,H0,G0,G,e,s,h⟩:=h
 obtain⟨dx,dy,h1,h2,h3⟩:=Yjh e
 exact tCof.at h1 s fun v H1 G1 g1 r1 s1=>tCof.at h2 s1 fun u H2 G2 g2 r2 s2=>hr v u dx dy d H2 G2 Q h3 s2.seen (r1.grow g2) r2 fun w H' G' g3 r3=>h w H' G' ((g1.trans g2).trans g3) r3
theorem y1n{r:R2}{g:D→D→Option Bool}(hr:Yfy K r g){σ:L2.St}{H:Hp}{Q:Bool→Hp→Prop}(h:tTof K (b2 fa fb g) σ H Q):y4a (tOp r (tCof K fa) (tCof K fb)) σ H Q:=by
 obtain⟨ρ,d,H0,G0,G,e,s,h⟩:=h
 obtain⟨dx,dy,h1,h2,h3⟩:=Yjh e
 exact tCof.at h1 s fun v H1 G1 g1 r1 s1=>tCof.at h2 s1 fun u H2 G2 g2 r2 s2=>hr v u dx dy d H2 G2 _ h3 s2.seen (r1.grow g2) r2 ⟨d,rfl,h H2 G2 (g1.trans g2)⟩
noncomputable def mB(f:Ro→Option Bool):Ro→Option D:=fun ρ=>(f ρ).map D.bl
theorem Yqo{f:Ro→Option Bool}{ρ:Ro}{d:D}(h:mB f ρ=some d):∃b,f ρ=some b∧d=.bl b:=by
 unfold mB at h
 obtain⟨b,h1,h2⟩:=qc h
 exact⟨b,h1,h2.symm⟩
theorem Yyh{r:R2}{g:D→D→Option Bool}(hr:Yfy K r g){σ:L2.St}{H:Hp}{Q:VK}(h:tOf K (mB (b2 fa fb g)) σ H Q):tOp r (tCof K fa) (tCof K fb) σ H Q:=by
 obtain⟨ρ,d,H0,G0,G,e,s,h⟩:=h
 obtain⟨b,eb,rfl⟩:=Yqo e
 obtain⟨dx,dy,h1,h2,h3⟩:=Yjh eb
 exact tCof.at h1 s fun v H1 G1 g1 r1 s1=>tCof.at h2 s1 fun u H2 G2 g2 r2 s2=>hr v u dx dy b H2 G2 _ h3 s2.seen (r1.grow g2) r2 (h _ H2 G2 (g1.trans g2) (by rw[Rp]))
theorem Yls{op:Operator}{r:R2}{g:D→D→Option D}(ho:OpR X (binaryOp op) r)(hr:Sem2 X.K r g)(ha:MC X a fa)(hb:MC X b fb):ME X (.BinOp a op b pos) (b2 fa fb g):=PE.imp (Yx5 ho ha hb) fun _ _ _ h=>Yz6 hr h
theorem Yji{op:CmpOp}{r:R2}{g:D→D→Option Bool}(ho:OpR X (compareOp op) r)(hr:Yfy X.K r g)(ha:MC X a fa)(hb:MC X b fb)(hm:behindInMarks op b=false):ME X (.Compare a [op] [b] pos) (mB (b2 fa fb g)):=PE.imp (y07 ho ha hb hm) fun _ _ _ h=>Yyh hr h
theorem Yil{op:CmpOp}{r:R2}{g:D→D→Option Bool}(ho:OpR X (compareOp op) r)(hr:Yfy X.K r g)(ha:MC X a fa)(hb:MC X b fb)(hm:behindInMarks op b=false):MT X (.Compare a [op] [b] pos) (b2 fa fb g):=PT.imp (y08 ho ha hb hm) fun _ _ _ h=>y1n hr h
theorem y4z{r:R2}{g:D→D→Option D}(hi:IxR X r)(hr:Sem2 X.K r g)(ha:MC X a fa)(hb:MC X b fb)(hs:Yey b):ME X (.Subscript a b pos) (b2 fa fb g):=PE.imp (y7w hi ha hb hs) fun _ _ _ h=>Yz6 hr h
noncomputable def i2(C:Int→Int→Bool)(g:Int→Int→Int):D→D→Option D
 | .int i,.int j=>if C i j=true then some (.int (g i j))else none
 | _,_=>none
noncomputable def i2b(g:Int→Int→Bool):D→D→Option Bool
 | .int i,.int j=>some (g i j)
 | _,_=>none
theorem Ysi{C:Int→Int→Prop}{Cb:Int→Int→Bool}(hC:∀i j,Cb i j=true→C i j){g:Int→Int→Int}:Sem2 K (rI C fun i j=>.int (g i j)) (i2 Cb g):=by
 intro x y dx dy d H G Q h s rx ry q
 unfold i2 at h
 split at h
 ·split at h
  ·rename_i i j hc
   cases h
   rw[Ct]at rx ry
   subst rx;subst ry
   exact⟨i,j,rfl,rfl,hC i j hc,q _ H G (.refl s) (by rw[Rp])⟩
  ·cases h
 ·cases h
theorem Yvf{g:Int→Int→Int}:Sem2 K (rI0 fun i j=>.int (g i j)) (i2 (fun _ _=>true) g):=by
 intro x y dx dy d H G Q h s rx ry q
 unfold i2 at h
 split at h
 ·split at h
  ·rename_i i j hc
   cases h
   rw[Ct]at rx ry
   subst rx;subst ry
   exact⟨i,j,rfl,rfl,q _ H G (.refl s) (by rw[Rp])⟩
  ·cases h
 ·cases h
theorem Ymg{g:Int→Int→Bool}:Yfy K (rI0 fun i j=>.bl (g i j)) (i2b g):=by
 intro x y dx dy d H G Q h s rx ry q
 unfold i2b at h
 split at h
 ·rename_i i j
  cases h
  rw[Ct]at rx ry
  subst rx;subst ry
  exact⟨i,j,rfl,rfl,q⟩
 ·cases h
noncomputable def addI:D→D→Option D:=i2 (fun _ _=>true) fun i j=>i+j
noncomputable def subI:D→D→Option D:=i2 (fun _ _=>true) fun i j=>i - j
noncomputable def mulI:D→D→Option D:=i2 (fun i j=>(decide (-(2 ^ 64) < i)&&decide (i < 2 ^ 64))||(decide (-(2 ^ 64) < j)&&decide (j < 2 ^ 64))) fun i j=>i * j
noncomputable def divI:D→D→Option D:=i2 (fun _ j=>decide (0 < j)&&decide (j < 1073741824)) fun i j=>i / j
noncomputable def modI:D→D→Option D:=i2 (fun _ j=>decide (0 < j)) fun i j=>i % j
theorem y40(ha:MC X a fa)(hb:MC X b fb):ME X (.BinOp a .Sub b pos) (b2 fa fb subI):=Yls y35 Yvf ha hb
theorem y41(ha:MC X a fa)(hb:MC X b fb):ME X (.BinOp a .Mult b pos) (b2 fa fb mulI):=Yls y36 (Ysi fun i j h=>by
 simp only[Bool.or_eq_true,Qe,decide_eq_true_eq]at h
 exact h) ha hb
theorem y42(ha:MC X a fa)(hb:MC X b fb):ME X (.BinOp a .FloorDiv b pos) (b2 fa fb divI):=Yls y05 (Ysi fun i j h=>by
 simp only[Qe,decide_eq_true_eq]at h
 exact h) ha hb
theorem y43(ha:MC X a fa)(hb:MC X b fb):ME X (.BinOp a .Mod b pos) (b2 fa fb modI):=Yls y37 (Ysi fun i j h=>of_decide_eq_true h) ha hb
noncomputable def ltI:=i2b fun i j=>decide (i < j)
noncomputable def leI:=i2b fun i j=>decide (i≤j)
theorem y7z(ha:MC X a fa)(hb:MC X b fb):ME X (.Compare a [.Lt] [b] pos) (mB (b2 fa fb ltI)):=Yji y06 Ymg ha hb (Yew _)
theorem y70(ha:MC X a fa)(hb:MC X b fb):MT X (.Compare a [.Lt] [b] pos) (b2 fa fb ltI):=Yil y06 Ymg ha hb (Yew _)
mutual
noncomputable def dep:D→Nat
 | .tup l=>depL l+1
 | .lst l=>depL l+1
 | .scr _=>1
 | .dct _ _ _=>1000
 | _=>0
noncomputable def depL:List D→Nat
 | []=>0
 | d::l=>max (dep d) (depL l)
end
mutual
theorem Yb6:∀d:D,(toPy d).depth≤dep d
 | .non=>by simp[toPy,PyData.depth,dep]
 | .bl b=>by simp[toPy,PyData.depth,dep]
 | .int b=>by simp[toPy,PyData.depth,dep]
 | .str b=>by simp[toPy,PyData.depth,dep]
 | .tup l=>by have:=Yc5 l;simp[toPy,PyData.depth,dep];lia
 | .lst l=>by have:=Yc5 l;simp[toPy,PyData.depth,dep];lia
 | .scr ns=>by rw[toPy,PyData.depth,dep,W.ke_depthAll];exact qu _
 | .dct _ _ _=>by simp[toPy,PyData.depth,dep]
theorem Yc5:∀l:List D,PyData.depthAll (Ycs l)≤depL l
 | []=>by simp[Ycs,PyData.depthAll,depL]
 | d::l=>by have h1:=Yb6 d;have h2:=Yc5 l;simp[Ycs,PyData.depthAll,depL];lia
end
section
variable {pins:List (Addr × Obj)} {σ:L2.St} {H:Hp} {s:Shared}
mutual
theorem Yct(I:Inv X pins σ H s):∀{d:D} {v:V} {u:Value},dep d≤100→Rp X.K H d v→RelV v u→∃as,Reads s.heap u (toPy d) as∧(toPy d).canLay0=true
 | .non,v,u,_,r,q=>by
   rw[Rp]at r;subst r
   cases q
   exact⟨_,by rw[toPy];exact .none,by simp[toPy,PyData.canLay0]⟩
 | .bl b,v,u,_,r,q=>by
   rw[Rp]at r;subst r
   cases q
   exact⟨_,by rw[toPy];exact .bool b,by simp[toPy,PyData.canLay0]⟩
 | .int i,v,u,_,r,q=>by
   rw[Rp]at r;subst r
   obtain⟨t,rfl⟩:=q
   exact⟨_,by rw[toPy];exact .int i t,by simp[toPy,PyData.canLay0]⟩
 | .str x,v,u,_,r,q=>by
   rw[Rp]at r;obtain⟨rfl,hx⟩:=r
   obtain⟨t,rfl⟩:=q
   exact⟨_,by rw[toPy];exact .str x t,by simp[toPy,PyData.canLay0,hx]⟩
 | .tup l,v,u,hd,r,q=>by
   rw[Rp]at r
   obtain⟨a,xs,rfl,g,rl⟩:=r
   cases q
   obtain⟨_,its,rv,ht⟩:=(show ObjOk X.prog X.w H s.heap a (.tup xs) from I.hok a _ g)
   obtain⟨o,h1,h2,n,h3⟩:=ht
   obtain⟨as,q,hc⟩:=Yjj I (by simp only[dep]at hd;lia) rl rv
   exact⟨_,by rw[toPy];exact .tuple h1 h2 h3 (by simpa using q),by simpa [toPy,PyData.canLay0]using hc⟩
 | .lst l,v,u,hd,r,q=>by
   rw[Rp]at r
   obtain⟨a,xs,rfl,g,rl⟩:=r
   cases q
   obtain⟨its,rv,pl,_⟩:=I.list (.inl g)
   obtain⟨o,h1,h2,n,h3⟩:=pl.isList
   obtain⟨as,q,hc⟩:=Yjj I (by simp only[dep]at hd;lia) rl rv
   exact⟨_,by rw[toPy];exact .list h1 h2 h3 (by simpa using q),by simpa [toPy,PyData.canLay0]using hc⟩
 | .dct _ _ _,v,u,hd,r,q=>by simp[dep]at hd
 | .scr ns,v,u,_,r,q=>by
   rw[Rp]at r
   obtain⟨a,rfl,g⟩:=r
   cases q
   obtain⟨its,rv,pl,_⟩:=I.list g
   exact⟨_,by rw[toPy];exact W.reads_of_ints pl.isList (Yfo rv),by rw[toPy];simp[PyData.canLay0,W.ke_canLayAll0]⟩
theorem Yjj(I:Inv X pins σ H s):∀{l:List D} {xs:List V} {us:List Value},depL l≤100→RpL X.K H l xs→Vals xs us→∃as,ReadsAll s.heap us (Ycs l) as∧PyData.canLayAll0 (Ycs l)=true
 | [],xs,us,_,r,q=>by
   rw[RpL]at r;subst r
   cases q
   exact⟨_,by rw[Ycs];exact .nil,by simp[Ycs,PyData.canLayAll0]⟩
 | d::l,xs,us,hd,r,q=>by
   rw[RpL]at r
   obtain⟨x,xs,rfl,r1,r2⟩:=r
   rw[depL]at hd
   cases q with
   | cons q1 q2=>
     obtain⟨as,h1,h2⟩:=Yct I (by lia) r1 q1
     obtain⟨bs,h3,h4⟩:=Yjj I (by lia) r2 q2
     exact⟨_,by rw[Ycs];exact .cons h1 h3,by simp[Ycs,PyData.canLayAll0,h2,h4]⟩
end
end
theorem Ydz(l:List D)(d:D):((Ycs l).any fun y=>PyData.eqv y (toPy d))=l.any fun y=>eqD y d:=by
 induction l with
 | nil=>simp[Ycs]
 | cons e l ih=>
   rw[Ycs,List.any_cons,List.any_cons,ih]
   rfl
noncomputable def eqM(neg:Bool):D→D→Option Bool:=fun d e=>if dep d≤60∧dep e≤60 then some (if neg then !eqD d e else eqD d e)else none
noncomputable def rEqD(K:W.Frag)(neg:Bool):R2:=fun x y H Q=>∃d e,Rp K H d x∧Rp K H e y∧(dep d≤60∧dep e≤60)∧Q (.bl (if neg then !eqD d e else eqD d e)) H
theorem Yz7(hu:X.A.units+64 < cLine):OpR X (compareOp .Eq) (rEqD X.K false):=by
 intro pins s σ H x y v u Q I rx ry h
 obtain⟨d,e,r1,r2,hd,q⟩:=h
 obtain⟨as,h1,h2⟩:=Yct I (by lia) r1 rx
 obtain⟨bs,h3,h4⟩:=Yct I (by lia) r2 ry
 exact SeqAt.eqOverData X.prog X.w X.A X.xe s v u _ _ as bs _ h1 h3 h2 h4 (by have:=Yb6 d;have:=Yb6 e;lia) ⟨.bl _,H,I,rfl,by exact q⟩
theorem Yz8(hu:X.A.units+64 < cLine):OpR X (compareOp .NotEq) (rEqD X.K true):=by
 intro pins s σ H x y v u Q I rx ry h
 obtain⟨d,e,r1,r2,hd,q⟩:=h
 obtain⟨as,h1,h2⟩:=Yct I (by lia) r1 rx
 obtain⟨bs,h3,h4⟩:=Yct I (by lia) r2 ry
 exact SeqAt.neOverData X.prog X.w X.A X.xe s v u _ _ as bs _ h1 h3 h2 h4 (by have:=Yb6 d;have:=Yb6 e;lia) ⟨.bl _,H,I,rfl,by exact q⟩
theorem Ymh{neg:Bool}:Yfy K (rEqD K neg) (eqM neg):=by
 intro x y dx dy b H G Q h s rx ry q
 unfold eqM at h
 split at h
 ·cases h
  exact⟨dx,dy,rx.rp s,ry.rp s,by assumption,q⟩
 ·cases h
theorem y71(hu:X.A.units+64 < cLine)(ha:MC X a fa)(hb:MC X b fb):ME X (.Compare a [.Eq] [b] pos) (mB (b2 fa fb (eqM false))):=Yji (Yz7 hu) Ymh ha hb (Yew _)
theorem y72(hu:X.A.units+64 < cLine)(ha:MC X a fa)(hb:MC X b fb):ME X (.Compare a [.NotEq] [b] pos) (mB (b2 fa fb (eqM true))):=Yji (Yz8 hu) Ymh ha hb (Yew _)
theorem y73(hu:X.A.units+64 < cLine)(ha:MC X a fa)(hb:MC X b fb):MT X (.Compare a [.Eq] [b] pos) (b2 fa fb (eqM false)):=Yil (Yz7 hu) Ymh ha hb (Yew _)
theorem y74(hu:X.A.units+64 < cLine)(ha:MC X a fa)(hb:MC X b fb):MT X (.Compare a [.NotEq] [b] pos) (b2 fa fb (eqM true)):=Yil (Yz8 hu) Ymh ha hb (Yew _)
noncomputable def Yn:D→Option (List D)
 | .tup l=>some l
 | .lst l=>some l
 | .scr ns=>some (ns.map D.int)
 | _=>none
noncomputable def inD(d:D)(l:List D):Bool:=l.any fun y=>eqD y d
noncomputable def inM(neg:Bool):D→D→Option Bool:=fun d c=>(Yn c).bind fun l=>if depL l≤60∧dep d≤60 then some (if neg then !inD d l else inD d l)else none
noncomputable def rInD(K:W.Frag)(neg:Bool):R2:=fun x y H Q=>∃d c l,Rp K H d x∧Rp K H c y∧Yn c=some l∧(depL l≤60∧dep d≤60)∧Q (.bl (if neg then !inD d l else inD d l)) H
theorem Yap{c:D}{l:List D}(h:Yn c=some l):c=.tup l∨c=.lst l∨∃ns,c=.scr ns∧l=ns.map D.int:=by
 cases c with
 | tup m=>cases h;exact .inl rfl
 | lst m=>cases h;exact .inr (.inl rfl)
 | scr ns=>cases h;exact .inr (.inr ⟨ns,rfl,rfl⟩)
 | non=>cases h
 | bl _=>cases h
 | int _=>cases h
 | str _=>cases h
 | dct _ _ _=>cases h
theorem Yhn:∀ns:List Int,Ycs (ns.map D.int)=ns.map PyData.int
 | []=>by simp[Ycs]
 | n::ns=>by simp[Ycs,toPy,Yhn ns]
theorem Yz9(hu:X.A.units+64 < cLine):OpR X (compareOp .In) (rInD X.K false):=by
 intro pins s σ H x y v u Q I rx ry h
 obtain⟨d,c,l,r1,r2,hc,hd,q⟩:=h
 obtain⟨as,h1,h2⟩:=Yct I (by lia) r1 rx
 have hdc:dep c≤61:=by
  rcases Yap hc with rfl | rfl | ⟨ns,rfl,rfl⟩
  ·rw[dep];lia
  ·rw[dep];lia
  ·rw[dep];lia
 obtain⟨bs,h3,h4⟩:=Yct I (by lia) r2 ry
 have hdd:=Yb6 d
 have hdl:=Yc5 l
 rcases Yap hc with rfl | rfl | ⟨ns,rfl,rfl⟩
 ·rw[toPy]at h3 h4
  exact SeqAt.in_tuple_reads h3 h1 (by simpa [PyData.canLay0]using h4) h2 (by lia) ⟨.bl _,H,I,rfl,by rw[Ydz];exact q⟩
 ·rw[toPy]at h3 h4
  exact SeqAt.in_list_reads h3 h1 (by simpa [PyData.canLay0]using h4) h2 (by lia) ⟨.bl _,H,I,rfl,by rw[Ydz];exact q⟩
 ·rw[toPy,←Yhn]at h3 h4
  exact SeqAt.in_list_reads h3 h1 (by simpa [PyData.canLay0]using h4) h2 (by lia) ⟨.bl _,H,I,rfl,by rw[Ydz];exact q⟩
theorem Yvg(hu:X.A.units+64 < cLine):OpR X (compareOp .NotIn) (rInD X.K true):=by
 intro pins s σ H x y v u Q I rx ry h
 obtain⟨d,c,l,r1,r2,hc,hd,q⟩:=h
 obtain⟨as,h1,h2⟩:=Yct I (by lia) r1 rx
 have hdc:dep c≤61:=by
  rcases Yap hc with rfl | rfl | ⟨ns,rfl,rfl⟩
  ·rw[dep];lia
  ·rw[dep];lia
  ·rw[dep];lia
 obtain⟨bs,h3,h4⟩:=Yct I (by lia) r2 ry
 have hdd:=Yb6 d
 have hdl:=Yc5 l
 rcases Yap hc with rfl | rfl | ⟨ns,rfl,rfl⟩
 ·rw[toPy]at h3 h4
  exact SeqAt.notIn_tuple_reads h3 h1 (by simpa [PyData.canLay0]using h4) h2 (by lia) ⟨.bl _,H,I,rfl,by rw[Ydz];exact q⟩
 ·rw[toPy]at h3 h4
  exact SeqAt.notIn_list_reads h3 h1 (by simpa [PyData.canLay0]using h4) h2 (by lia) ⟨.bl _,H,I,rfl,by rw[Ydz];exact q⟩
 ·rw[toPy,←Yhn]at h3 h4
  exact SeqAt.notIn_list_reads h3 h1 (by simpa [PyData.canLay0]using h4) h2 (by lia) ⟨.bl _,H,I,rfl,by rw[Ydz];exact q⟩
theorem Yqp{neg:Bool}:Yfy K (rInD K neg) (inM neg):=by
 intro x y dx dy b H G Q h s rx ry q
 unfold inM at h
 obtain⟨l,h1,h⟩:=qa h
 split at h
 ·cases h
  exact⟨dx,dy,l,rx.rp s,ry.rp s,h1,by assumption,q⟩
 ·cases h
theorem y75(hu:X.A.units+64 < cLine)(ha:MC X a fa)(hb:MC X b fb)(hm:behindInMarks .In b=false:=by with_unfolding_all rfl):ME X (.Compare a [.In] [b] pos) (mB (b2 fa fb (inM false))):=Yji (Yz9 hu) Yqp ha hb hm
theorem y76(hu:X.A.units+64 < cLine)(ha:MC X a fa)(hb:MC X b fb)(hm:behindInMarks .In b=false:=by with_unfolding_all rfl):MT X (.Compare a [.In] [b] pos) (b2 fa fb (inM false)):=Yil (Yz9 hu) Yqp ha hb hm
theorem y44(hu:X.A.units+64 < cLine)(ha:MC X a fa)(hb:MC X b fb)(hm:behindInMarks .NotIn b=false:=by with_unfolding_all rfl):MT X (.Compare a [.NotIn] [b] pos) (b2 fa fb (inM true)):=Yil (Yvg hu) Yqp ha hb hm
end
end
section
variable {K:W.Frag}
section
variable {X:Cx} {a b c e:Expr} {es:List Expr} {fa fb f:Ro→Option D} {fc fd:Ro→Option Bool} {ga:Ro→Option (List D)} {pos:Pos} {rest:List Expr}
noncomputable def truD:D→Option Bool
 | .non=>some false
 | .bl b=>some b
 | .int i=>some (i != 0)
 | .tup l=>some (!l.isEmpty)
 | .lst l=>some (!l.isEmpty)
 | .scr ns=>some (!ns.isEmpty)
 | .str _=>none
 | .dct _ _ _=>none
theorem y1o{d:D}{v:V}{k:Bool}{H G:Hp}(h:truD d=some k)(r:Ct X.K G H d v):TruV X.K v H k:=by
 cases d with
 | non=>rw[Ct]at r;subst r;cases h;rfl
 | bl b=>rw[Ct]at r;subst r;cases h;rfl
 | int i=>rw[Ct]at r;subst r;cases h;rfl
 | str x=>cases h
 | dct _ _ _=>cases h
 | tup l=>
   rw[Ct]at r
   obtain⟨a,xs,rfl,g,rl⟩:=r
   cases h
   refine .inr (.inl ⟨xs,.inl (.inl g.1),?_⟩)
   have:=rl.length
   cases l<;>cases xs<;>simp_all
 | lst l=>
   rw[Ct]at r
   obtain⟨a,xs,rfl,g,rl⟩:=r
   cases h
   refine .inl ⟨xs,.inl g,?_⟩
   have:=rl.length
   cases l<;>cases xs<;>simp_all
 | scr ns=>
   rw[Ct]at r
   obtain⟨a,rfl,g⟩:=r
   cases h
   refine .inl ⟨_,g,?_⟩
   cases ns<;>simp
theorem y45(ha:MC X a fa)(he:∀whole,isTrue a X.env whole=(do let v ←whole;standAt a.pos;holding [v] (truthy v)):=by intro _;rfl):MT X a (b1 fa truD):=
 PT.imp (Yx7 ha he) fun σ H Q hx_=>by
  obtain⟨ρ,k,H0,G0,G,e,s,h⟩:=hx_
  obtain⟨d,h1,h2⟩:=Ybv e
  exact tCof.at h1 s fun v H1 G1 g1 r1 s1=>⟨k,y1o h2 r1,h H1 G1 g1⟩
noncomputable def andT(fc fd:Ro→Option Bool):Ro→Option Bool:=fun ρ=>(fc ρ).bind fun k=>if k=true then fd ρ else some false
noncomputable def orT(fc fd:Ro→Option Bool):Ro→Option Bool:=fun ρ=>(fc ρ).bind fun k=>if k=true then some true else fd ρ
noncomputable def notT(fc:Ro→Option Bool):Ro→Option Bool:=fun ρ=>(fc ρ).map (!·)
noncomputable abbrev MW(X:Cx)(e:Expr)(f:Ro→Option Bool):Prop:=PW X e (tTof X.K f)
theorem PW.imp{t t':TT}(h:PW X e t)(i:∀σ H Q,t' σ H Q→t σ H Q):PW X e t':=fun whole pins s σ H Q I hw=>h whole pins s σ H Q I (i σ H Q hw)
theorem y1p(ha:MT X a fc):MW X (.BoolOp .And [a] pos) fc:=y00 ha
theorem y46(ha:MT X a fc):MW X (.BoolOp .Or [a] pos) fc:=y3u ha
theorem y1q{σ:L2.St}{H:Hp}{Q:Bool→Hp→Prop}(h:tTof K (andT fc fd) σ H Q):tAnd (tTof K fc) (tTof K fd) σ H Q:=by
 obtain⟨ρ,k,H0,G0,G,e,s,h⟩:=h
 unfold andT at e
 obtain⟨k1,h1,e⟩:=qa e
 refine tTof.at h1 s fun H1 G1 g1 s1=>?_
 cases k1 with
 | true=>
   rw[if_pos rfl]at e ⊢
   exact tTof.at e s1 fun H2 G2 g2 _=>h H2 G2 (g1.trans g2)
 | false=>
   rw[if_neg qi]at e ⊢
   cases e
   exact h H1 G1 g1
theorem y47{σ:L2.St}{H:Hp}{Q:Bool→Hp→Prop}(h:tTof K (orT fc fd) σ H Q):tOr (tTof K fc) (tTof K fd) σ H Q:=by
 obtain⟨ρ,k,H0,G0,G,e,s,h⟩:=h
 unfold orT at e
 obtain⟨k1,h1,e⟩:=qa e
 refine tTof.at h1 s fun H1 G1 g1 s1=>?_
 cases k1 with
 | false=>
   rw[if_neg qi]at e ⊢
   exact tTof.at e s1 fun H2 G2 g2 _=>h H2 G2 (g1.trans g2)
 | true=>
   rw[if_pos rfl]at e ⊢
   cases e
   exact h H1 G1 g1
theorem y48(ha:MT X a fc)(hb:MW X (.BoolOp .And (b::rest) pos) fd):MW X (.BoolOp .And (a::b::rest) pos) (andT fc fd):=PW.imp (y3v ha hb) fun _ _ _ h=>y1q h
theorem y77(ha:MT X a fc)(hb:MW X (.BoolOp .Or (b::rest) pos) fd):MW X (.BoolOp .Or (a::b::rest) pos) (orT fc fd):=PW.imp (y7f ha hb) fun _ _ _ h=>y47 h
theorem y49(ha:MT X a fc):MT X (.UnaryOp .Not a pos) (notT fc):=PT.imp (y3w ha) fun σ H Q hx_=>by
 obtain⟨ρ,k,H0,G0,G,e,s,h⟩:=hx_
 obtain⟨k1,h1,rfl⟩:=qc e
 exact tTof.at h1 s fun H1 G1 g1 _=>h H1 G1 g1
noncomputable def blD:D→Option Bool
 | .bl b=>some b
 | _=>none
theorem Ymi{d:D}{k:Bool}(h:blD d=some k):d=.bl k:=by cases d<;>simp[blD]at h;subst h;rfl
noncomputable def andV(fa fb:Ro→Option D):Ro→Option D:=fun ρ=>(b1 fa blD ρ).bind fun k=>if k=true then fb ρ else some (.bl false)
noncomputable def orV(fa fb:Ro→Option D):Ro→Option D:=fun ρ=>(b1 fa blD ρ).bind fun k=>if k=true then some (.bl true)else fb ρ
noncomputable def notV(fa:Ro→Option D):Ro→Option D:=fun ρ=>(b1 fa blD ρ).map fun k=>.bl (!k)
theorem y1r(ha:ME X a fa):ME X (.BoolOp .And [a] pos) fa:=Yzz ha
theorem y5a(ha:ME X a fa):ME X (.BoolOp .Or [a] pos) fa:=Yzz ha
theorem y5b(ha:ME X a fa)(hb:ME X (.BoolOp .And (b::rest) pos) fb):ME X (.BoolOp .And (a::b::rest) pos) (andV fa fb):=PE.imp (y3x ha hb) fun σ H Q hx_=>by
 obtain⟨ρ,d,H0,G0,G,e,s,h⟩:=hx_
 unfold andV at e
 obtain⟨k,h1,e⟩:=qa e
 obtain⟨d1,h2,h3⟩:=Ybv h1
 cases Ymi h3
 refine tOf.at h2 s fun v H1 G1 g1 r1 s1=>⟨k,by rw[Rp]at r1;exact r1,?_⟩
 cases k with
 | true=>
   rw[if_pos rfl]at e ⊢
   exact tOf.at e s1 fun w H2 G2 g2 r2 _=>h w H2 G2 (g1.trans g2) r2
 | false=>
   rw[if_neg qi]at e ⊢
   cases e
   exact h _ H1 G1 g1 (by rw[Rp])
theorem y78(ha:ME X a fa)(hb:ME X (.BoolOp .Or (b::rest) pos) fb):ME X (.BoolOp .Or (a::b::rest) pos) (orV fa fb):=PE.imp (y7i ha hb) fun σ H Q hx_=>by
 obtain⟨ρ,d,H0,G0,G,e,s,h⟩:=hx_
 unfold orV at e
 obtain⟨k,h1,e⟩:=qa e
 obtain⟨d1,h2,h3⟩:=Ybv h1
 cases Ymi h3
 refine tOf.at h2 s fun v H1 G1 g1 r1 s1=>⟨k,by rw[Rp]at r1;exact r1,?_⟩
 cases k with
 | false=>
   rw[if_neg qi]at e ⊢
   exact tOf.at e s1 fun w H2 G2 g2 r2 _=>h w H2 G2 (g1.trans g2) r2
 | true=>
   rw[if_pos rfl]at e ⊢
   cases e
   exact h _ H1 G1 g1 (by rw[Rp])
theorem y5c(ha:ME X a fa):ME X (.UnaryOp .Not a pos) (notV fa):=PE.imp (y3y ha) fun σ H Q hx_=>by
 obtain⟨ρ,d,H0,G0,G,e,s,h⟩:=hx_
 obtain⟨k,h1,rfl⟩:=qc e
 obtain⟨d1,h2,h3⟩:=Ybv h1
 cases Ymi h3
 exact tOf.at h2 s fun v H1 G1 g1 r1 s1=>⟨k,by rw[Rp]at r1;exact r1,h _ H1 G1 g1 (by rw[Rp])⟩
noncomputable def ifV(fc:Ro→Option Bool)(fa fb:Ro→Option D):Ro→Option D:=fun ρ=>(fc ρ).bind fun k=>if k=true then fa ρ else fb ρ
theorem y79(hc:MT X c fc)(ha:ME X a fa)(hb:ME X b fb):ME X (.IfExp c a b pos) (ifV fc fa fb):=PE.imp (Yx2 hc ha hb) fun σ H Q hx_=>by
 obtain⟨ρ,d,H0,G0,G,e,s,h⟩:=hx_
 unfold ifV at e
 obtain⟨k,h1,e⟩:=qa e
 refine tTof.at h1 s fun H1 G1 g1 s1=>?_
 cases k with
 | true=>
   rw[if_pos rfl]at e ⊢
   exact tOf.at e s1 fun w H2 G2 g2 r2 _=>h w H2 G2 (g1.trans g2) r2
 | false=>
   rw[if_neg qi]at e ⊢
   exact tOf.at e s1 fun w H2 G2 g2 r2 _=>h w H2 G2 (g1.trans g2) r2
noncomputable def Ymj:D→Bool
 | .non=>true
 | _=>false
theorem Ysj{d:D}{v:V}{G H:Hp}(r:Ct K G H d v):decide (v=V.non)=Ymj d:=by
 cases d with
 | non=>rw[Ct]at r;subst r;rfl
 | bl _=>rw[Ct]at r;subst r;rfl
 | int _=>rw[Ct]at r;subst r;rfl
 | str _=>rw[Ct]at r;obtain⟨rfl,_⟩:=r;rfl
 | tup _=>rw[Ct]at r;obtain⟨_,_,rfl,_⟩:=r;rfl
 | lst _=>rw[Ct]at r;obtain⟨_,_,rfl,_⟩:=r;rfl
 | scr _=>rw[Ct]at r;obtain⟨_,rfl,_⟩:=r;rfl
 | dct _ _ _=>rw[Ct]at r;obtain⟨_,_,_,rfl,_⟩:=r;rfl
noncomputable def isN(neg:Bool):D→D→Option Bool:=fun d e=>if Ymj e then some (if neg then !Ymj d else Ymj d)else none
theorem Yvh:Yfy K (fun x y H Q=>y=.non∧Q (.bl (decide (x=.non))) H) (isN false):=by
 intro x y dx dy b H G Q h s rx ry q
 unfold isN at h
 split at h
 ·rename_i hn
  cases h
  cases dy<;>simp[Ymj]at hn
  rw[Ct]at ry
  exact⟨ry,by rw[Ysj rx];exact q⟩
 ·cases h
theorem Ysk:Yfy K (fun x y H Q=>y=.non∧Q (.bl (!decide (x=.non))) H) (isN true):=by
 intro x y dx dy b H G Q h s rx ry q
 unfold isN at h
 split at h
 ·rename_i hn
  cases h
  cases dy<;>simp[Ymj]at hn
  rw[Ct]at ry
  exact⟨ry,by rw[Ysj rx];exact q⟩
 ·cases h
theorem y5d(ha:MC X a fa)(hb:MC X b fb):ME X (.Compare a [.Is] [b] pos) (mB (b2 fa fb (isN false))):=Yji Yz2 Yvh ha hb (Yew _)
theorem y1s(ha:MC X a fa)(hb:MC X b fb):ME X (.Compare a [.IsNot] [b] pos) (mB (b2 fa fb (isN true))):=Yji Yuu Ysk ha hb (Yew _)
theorem y5e(ha:MC X a fa)(hb:MC X b fb):MT X (.Compare a [.Is] [b] pos) (b2 fa fb (isN false)):=Yil Yz2 Yvh ha hb (Yew _)
theorem y1t(ha:MC X a fa)(hb:MC X b fb):MT X (.Compare a [.IsNot] [b] pos) (b2 fa fb (isN true)):=Yil Yuu Ysk ha hb (Yew _)
noncomputable def ixD:D→D→Option D
 | c,.int i=>(Yn c).bind fun l=>atI l i
 | _,_=>none
theorem Yvi{G:Hp}{l:List D}{xs:List V}{i:Int}{d:D}(r:RpL K G l xs)(h:atI l i=some d):∃x,atI xs i=some x∧Rp K G d x:=by
 unfold atI at h ⊢
 rw[r.length]
 obtain⟨j,h1,h2⟩:=qa h
 obtain⟨x,h3,h4⟩:=r.get h2
 exact⟨x,by rw[h1];exact h3,h4⟩
theorem y5f:Sem2 X.K (rIx X.K) ixD:=by
 intro x y dx dy d H G Q h s rx ry q
 unfold ixD at h
 split at h
 ·rename_i c i
  obtain⟨l,h1,h2⟩:=qa h
  rw[Ct]at ry
  subst ry
  rcases Yap h1 with rfl | rfl | ⟨ns,rfl,rfl⟩
  ·rw[Ct]at rx
   obtain⟨p,xs,rfl,g,rl⟩:=rx
   obtain⟨v,h3,h4⟩:=Yvi rl h2
   exact .inr (.inl ⟨p,xs,i,v,rfl,rfl,.inl (.inl g.1),h3,q v H G (.refl s) h4⟩)
  ·rw[Ct]at rx
   obtain⟨p,xs,rfl,g,rl⟩:=rx
   obtain⟨v,h3,h4⟩:=Yvi rl h2
   exact .inl ⟨p,xs,i,v,rfl,rfl,.inl g,h3,q v H G (.refl s) h4⟩
  ·rw[Ct]at rx
   obtain⟨p,rfl,g⟩:=rx
   obtain⟨v,h3,h4⟩:=Yvi (G:=G) (K:=X.K) (.ints ns) h2
   exact .inl ⟨p,_,i,v,rfl,rfl,g,h3,q v H G (.refl s) h4⟩
 ·cases h
theorem Yvj(ha:MC X a fa)(hb:MC X b fb)(hs:Yey b:=by intro _ _;rfl):ME X (.Subscript a b pos) (b2 fa fb ixD):=y4z y4q y5f ha hb hs
noncomputable def intD:D→Option Int
 | .int i=>some i
 | _=>none
noncomputable def optI(f:Option (Ro→Option D)):Ro→Option (Option Int):=fun ρ=>match f with
 | none=>some none
 | some f=>(b1 f intD ρ).map some
noncomputable def cutD(l:List D)(lo hi:Option Int):List D:=(l.drop (HT.sIx l.length 0 lo)).take (HT.sIx l.length l.length hi - HT.sIx l.length 0 lo)
noncomputable def lstD:D→Option (List D)
 | .lst l=>some l
 | .scr ns=>some (ns.map D.int)
 | _=>none
theorem Yvk{d:D}{l:List D}{v:V}{G H:Hp}(h:lstD d=some l)(r:Ct K G H d v):∃p xs,v=.ref p∧SqL K H p xs∧RpL K G l xs:=by
 cases d with
 | lst m=>
   cases h
   rw[Ct]at r
   obtain⟨p,xs,e,g,q⟩:=r
   exact⟨p,xs,e,.inl g,q⟩
 | scr ns=>
   cases h
   rw[Ct]at r
   obtain⟨p,e,g⟩:=r
   exact⟨p,_,e,g,.ints ns⟩
 | non=>cases h
 | bl _=>cases h
 | int _=>cases h
 | str _=>cases h
 | tup _=>cases h
 | dct _ _ _=>cases h
noncomputable def slF(fa:Ro→Option D)(lo hi:Option (Ro→Option D)):Ro→Option (List D):=fun ρ=>(b1 fa lstD ρ).bind fun l=>(optI lo ρ).bind fun i=>(optI hi ρ).bind fun j=>some (cutD l i j)
noncomputable abbrev tO(K:W.Frag)(f:Option (Ro→Option D)):TO:=match f with
 | none=>Yu5
 | some f=>y4n (tCof K f)
theorem Yyi{H0 G0 H G:Hp}{σ:L2.St}{ρ:Ro}{f:Option (Ro→Option D)}{i:Option Int}{Q:Option Int→Hp→Prop}(e:optI f ρ=some i)(s:SR K H0 G0 σ H G ρ)(h:∀H' G',Gr H G H' G'→SR K H0 G0 σ H' G' ρ→Q i H'):tO K f σ H Q:=by
 cases f with
 | none=>
   cases e
   exact h H G (.refl s.seen) s
 | some f=>
   obtain⟨k,h1,rfl⟩:=qc e
   obtain⟨d,h2,h3⟩:=Ybv h1
   refine tCof.at h2 s fun v H1 G1 g1 r1 s1=>⟨k,?_,h H1 G1 g1 s1⟩
   cases d<;>simp[intD]at h3
   subst h3
   rw[Ct]at r1
   exact r1
theorem Yyj{lo hi:Option Expr}{fl fh:Option (Ro→Option D)}{p2:Pos}(ha:MC X a fa)(hl:PO X lo (tO X.K fl))(hh:PO X hi (tO X.K fh)):MF X (.Subscript a (.Slice lo hi none p2) pos) (slF fa fl fh):=
 PE.imp (Ysd Yu6 ha hl hh) fun σ H Q hx_=>by
  obtain⟨ρ,l,H0,G0,G,e,s,h⟩:=hx_
  unfold slF at e
  obtain⟨l0,h1,e⟩:=qa e
  obtain⟨i,h2,e⟩:=qa e
  obtain⟨j,h3,e⟩:=qa e
  cases e
  obtain⟨d,h4,h5⟩:=Ybv h1
  refine tCof.at h4 s fun v H1 G1 g1 r1 s1=>Yyi h2 s1 fun H2 G2 g2 s2=>Yyi h3 s2 fun H3 G3 g3 s3=>?_
  have r3:=(r1.grow g2).grow g3
  obtain⟨p,xs,rfl,g,rl⟩:=Yvk h5 r3
  refine⟨p,xs,rfl,g,fun q hq=>?_⟩
  have hq0:H q=none:=g1.h.free (g2.h.free (g3.h.free hq))
  have gg:=((g1.trans g2).trans g3).trans (Gr.hid (p:=q) s3.seen hq (.lst (cutV xs i j)))
  refine h q _ _ G3 gg hq0 (s3.seen.free hq) Yv ?_
  unfold cutD cutV
  rw[rl.length]
  exact(rl.drop _).take _
theorem y8a:PO X none (tO X.K none):=y1b
theorem y8b(h:MC X e f):PO X (some e) (tO X.K (some f)):=y1c h
noncomputable def lF(f:Ro→Option (List D)):Ro→Option D:=fun ρ=>(f ρ).map D.lst
theorem MF.me{g:Ro→Option (List D)}(h:MF X e g):ME X e (lF g):=PE.imp h fun σ H Q hx_=>by
 obtain⟨ρ,d,H0,G0,G,e,s,h⟩:=hx_
 obtain⟨l,h1,rfl⟩:=qc e
 exact⟨ρ,l,H0,G0,G,h1,s,fun p xs H' G' g hp gp e' r=>h _ H' _ (g.show hp gp e') (by
  rw[Rp]
  refine⟨p,xs,rfl,.inl Yv,r.mono fun b o q=>?_⟩
  rw[Yz (Yy q gp)];exact q)⟩
noncomputable def aNil:Ro→Option (List D):=fun _=>some []
noncomputable def Yh(f:Ro→Option D)(g:Ro→Option (List D)):Ro→Option (List D):=fun ρ=>(f ρ).bind fun d=>(g ρ).map (d::·)
theorem Yvl:MA X [] aNil:=PA.imp Yjb fun σ H Q hx_=>by
 obtain⟨ρ,l,H0,G0,G,e,s,h⟩:=hx_
 cases e
 exact h [] H G (.refl s.seen) .nil
theorem Yqq(ha:ME X e f)(hr:MA X es ga)(hs:starEach (e::es) X.env=(false,eval e X.env)::starEach es X.env:=by rfl):MA X (e::es) (Yh f ga):=PA.imp (Yex ha hr hs) fun σ H Q hx_=>by
 obtain⟨ρ,l,H0,G0,G,e,s,h⟩:=hx_
 unfold Yh at e
 obtain⟨d,h1,e⟩:=qa e
 obtain⟨l',h2,rfl⟩:=qc e
 exact tOf.at h1 s fun v H1 G1 g1 r1 s1=>tAof.at h2 s1 fun vs H2 G2 g2 r2 _=>h (v::vs) H2 G2 (g1.trans g2) (.cons (r1.mono g2.g) r2)
theorem Ygc:MCA X [] aNil:=PA.imp Yjb fun σ H Q hx_=>by
 obtain⟨ρ,l,H0,G0,G,e,s,h⟩:=hx_
 cases e
 exact h [] H G (.refl s.seen) rfl
theorem Yeb(ha:MC X e f)(hr:MCA X es ga)(hs:starEach (e::es) X.env=(false,eval e X.env)::starEach es X.env:=by rfl):MCA X (e::es) (Yh f ga):=PA.imp (Yex ha hr hs) fun σ H Q hx_=>by
 obtain⟨ρ,l,H0,G0,G,e,s,h⟩:=hx_
 unfold Yh at e
 obtain⟨d,h1,e⟩:=qa e
 obtain⟨l',h2,rfl⟩:=qc e
 exact tCof.at h1 s fun v H1 G1 g1 r1 s1=>tCAof.at h2 s1 fun vs H2 G2 g2 r2 _=>h (v::vs) H2 G2 (g1.trans g2) ⟨v,vs,rfl,r1.grow g2,r2⟩
noncomputable def cap6:Nat:=1000000
theorem Yho{n:Nat}(h:n≤cap6):n≤sizeLine:=Nat.le_trans h (by rw[sizeLine_eq];decide)
noncomputable def dTup(ga:Ro→Option (List D)):Ro→Option D:=fun ρ=>(ga ρ).bind fun l=>if l.length≤cap6 then some (.tup l)else none
theorem y5g{x1}(h:MA X es ga):ME X (.Tuple es x1 pos) (dTup ga):=PE.imp (y4d h) fun σ H Q hx_=>by
 obtain⟨ρ,d,H0,G0,G,e,s,h⟩:=hx_
 unfold dTup at e
 obtain⟨l,h1,e⟩:=qa e
 split at e
 ·cases e
  refine tAof.at h1 s fun vs H1 G1 g1 r1 s1=>⟨by rw[r1.length];exact Yho (by assumption),fun p hp=>?_⟩
  refine h _ _ _ (g1.trans (.new s1.seen hp (.tup vs))) ?_
  rw[Rp]
  exact⟨p,vs,rfl,Yv,r1.mono (Gr.new s1.seen hp (.tup vs)).g⟩
 ·cases e
noncomputable def dLst(ga:Ro→Option (List D)):Ro→Option (List D):=fun ρ=>(ga ρ).bind fun l=>if l.length≤cap6 then some l else none
theorem y0a(h:MA X es ga):MF X (.List es pos) (dLst ga):=PE.imp (y4e h) fun σ H Q hx_=>by
 obtain⟨ρ,d,H0,G0,G,e,s,h⟩:=hx_
 unfold dLst at e
 obtain⟨l,h1,e⟩:=qa e
 split at e
 ·cases e
  refine tAof.at h1 s fun vs H1 G1 g1 r1 s1=>⟨by rw[r1.length];exact Yho (by assumption),fun p hp=>?_⟩
  exact h p vs _ G1 (g1.trans (.hid s1.seen hp (.lst vs))) (g1.h.free hp) (s1.seen.free hp) Yv r1
 ·cases e
noncomputable def cC(ga:Ro→Option (List D))(g:List D→Option D):Ro→Option D:=fun ρ=>(ga ρ).bind g
noncomputable def cF(ga:Ro→Option (List D))(g:List D→Option (List D)):Ro→Option (List D):=fun ρ=>(ga ρ).bind g
theorem y0b{r:List V→Hp→VK→Prop}{g:List D→Option D}(hr:SemC K r g){σ:L2.St}{H:Hp}{Q:VK}(h:tOf K (cC ga g) σ H Q):tCB r (tCAof K ga) σ H Q:=by
 obtain⟨ρ,d,H0,G0,G,e,s,h⟩:=h
 unfold cC at e
 obtain⟨l,h1,h2⟩:=qa e
 exact tCAof.at h1 s fun vs H1 G1 g1 r1 s1=>hr vs l d H1 G1 Q h2 s1.seen r1 fun v H' G' g2 r2=>h v H' G' (g1.trans g2) r2
theorem Yvm{r:List V→Hp→VK→Prop}{g:List D→Option (List D)}(hr:SemF K r g){σ:L2.St}{H:Hp}{Q:VK}(h:tFof K (cF ga g) σ H Q):tCB r (tCAof K ga) σ H Q:=by
 obtain⟨ρ,d,H0,G0,G,e,s,h⟩:=h
 unfold cF at e
 obtain⟨l,h1,h2⟩:=qa e
 exact tCAof.at h1 s fun vs H1 G1 g1 r1 s1=>hr vs l d H1 G1 Q h2 s1.seen r1 fun p xs H' G' g2 hp gp e' r2=>h p xs H' G' (g1.trans g2) (g1.h.free hp) gp e' r2
section
variable {x:Str} {p:Pos} {id T:String} {r:List V→Hp→VK→Prop} {g:List D→Option D} {gf:List D→Option (List D)}
theorem Yyk(hc:Yc2 X (.builtin id) r)(hr:SemC X.K r g)(hg:Gl X x)(hm:X.mg x=none)(hv:bootBuiltins x=some (.builtin id))(ha:MCA X (e::es) ga)(hn:x≠"__name__":=by decide)(hdb:(x==("__debug__":Str))=false:=by decide)
 (he:starEach (e::es) X.env=(false,eval e X.env)::starEach es X.env:=by rfl) (hpl:(backTo pos (starEach es X.env)).any (·.1)=false:=by rfl):ME X (.Call (.Name x p) (e::es) [] pos) (cC ga g):=
 PE.imp (Ygv hc hg hm hv ha hn hdb he hpl) fun _ _ _ h=>y0b hr h
theorem Yyl(hc:Yc2 X (.builtin id) r)(hr:SemF X.K r gf)(hg:Gl X x)(hm:X.mg x=none)(hv:bootBuiltins x=some (.builtin id))(ha:MCA X (e::es) ga)(hn:x≠"__name__":=by decide)(hdb:(x==("__debug__":Str))=false:=by decide)
 (he:starEach (e::es) X.env=(false,eval e X.env)::starEach es X.env:=by rfl) (hpl:(backTo pos (starEach es X.env)).any (·.1)=false:=by rfl):MF X (.Call (.Name x p) (e::es) [] pos) (cF ga gf):=
 PE.imp (Ygv hc hg hm hv ha hn hdb he hpl) fun _ _ _ h=>Yvm hr h
theorem Yvn(hc:Yc2 X (.type T) r)(hr:SemC X.K r g)(hg:Gl X x)(hm:X.mg x=none)(hv:bootBuiltins x=some (.type T))(ha:MCA X (e::es) ga)(hn:x≠"__name__":=by decide)(hdb:(x==("__debug__":Str))=false:=by decide)
 (he:starEach (e::es) X.env=(false,eval e X.env)::starEach es X.env:=by rfl) (hpl:(backTo pos (starEach es X.env)).any (·.1)=false:=by rfl):ME X (.Call (.Name x p) (e::es) [] pos) (cC ga g):=
 PE.imp (Yc3 hc hg hm hv ha hn hdb he hpl) fun _ _ _ h=>y0b hr h
theorem Yvo(hc:Yc2 X (.type T) r)(hr:SemF X.K r gf)(hg:Gl X x)(hm:X.mg x=none)(hv:bootBuiltins x=some (.type T))(ha:MCA X (e::es) ga)(hn:x≠"__name__":=by decide)(hdb:(x==("__debug__":Str))=false:=by decide)
 (he:starEach (e::es) X.env=(false,eval e X.env)::starEach es X.env:=by rfl) (hpl:(backTo pos (starEach es X.env)).any (·.1)=false:=by rfl):MF X (.Call (.Name x p) (e::es) [] pos) (cF ga gf):=
 PE.imp (Yc3 hc hg hm hv ha hn hdb he hpl) fun _ _ _ h=>Yvm hr h
end
noncomputable def spOf(K:W.Frag)(n:Nat)(fn:List D→Option D):Sp:=fun vs H Q _=>vs.length=n∧∃ds d G,Same G H∧RpL K G ds vs∧fn ds=some d∧∀v H' G',Gr H G H' G'→Rp K G' d v→Q v H'
theorem y1u{k n:Nat}{fa':Addr}{fd':FuncData}{ps:List Str}{x:Str}{p:Pos}{fn:List D→Option D}(F:FnOk X.prog X.w X.K X.mg X.base CX0 k fa' fd' ps (spOf X.K n fn))(hr:Room k X.A)(hg:Gl X x)(hm:X.mg x=some (.ref fa'))(hk:W.keepIn X.K (.ref fa')=true)(hb:Binds X.K fd' ps [])
 (ha:MA X (e::es) ga) (hdb:(x==("__debug__":Str))=false:=by decide) (he:starEach (e::es) X.env=(false,eval e X.env)::starEach es X.env:=by rfl) (hpl:(backTo pos (starEach es X.env)).any (·.1)=false:=by rfl)
 (hl:∀ρ l,ga ρ=some l→l.length=n):ME X (.Call (.Name x p) (e::es) [] pos) (cC ga fn):=
 PE.imp (y1a (E:=E0) F hr hg hm hk hb .nil y7x ha hdb he hpl) fun σ H Q hx_=>by
  obtain⟨ρ,d,H0,G0,G,e,s,h⟩:=hx_
  unfold cC at e
  obtain⟨l,h1,h2⟩:=qa e
  refine tAof.at h1 s fun vs H1 G1 g1 r1 s1=>?_
  rw[List.append_nil]
  exact⟨by rw[r1.length];exact hl ρ l h1,l,d,G1,s1.seen,r1,h2,fun v H' G' g2 r2=>h v H' G' (g1.trans g2) r2⟩
theorem Yq{ρ:Ro}{l:List D}(h:aNil ρ=some l):l.length=0:=by cases h;rfl
theorem Ye{f:Ro→Option D}{g:Ro→Option (List D)}{n:Nat}(hg:∀ρ l,g ρ=some l→l.length=n):∀ρ l,Yh f g ρ=some l→l.length=n+1:=fun ρ l h=>by
 unfold Yh at h
 obtain⟨d,h1,e⟩:=qa h
 obtain⟨l',h2,rfl⟩:=qc e
 rw[qr,hg ρ l' h2]
noncomputable def lenC:List D→Option D
 | [c]=>(Yn c).map fun l=>.int l.length
 | _=>none
theorem Yoo{G H:Hp}{c:D}{l:List D}{v:V}(h:Yn c=some l)(r:Ct K G H c v):∃p xs,v=.ref p∧(SqL K H p xs∨SqT K H p xs)∧RpL K G l xs:=by
 rcases Yap h with rfl | rfl | ⟨ns,rfl,rfl⟩
 ·rw[Ct]at r
  obtain⟨p,xs,rfl,g,rl⟩:=r
  exact⟨p,xs,rfl,.inr (.inl (.inl g.1)),rl⟩
 ·rw[Ct]at r
  obtain⟨p,xs,rfl,g,rl⟩:=r
  exact⟨p,xs,rfl,.inl (.inl g),rl⟩
 ·rw[Ct]at r
  obtain⟨p,rfl,g⟩:=r
  exact⟨p,_,rfl,.inl g,.ints ns⟩
theorem Ygd{G:Hp}{d:D}{vs:List V}(h:RpL K G [d] vs):∃v,vs=[v]∧Rp K G d v:=by
 rw[RpL]at h
 obtain⟨x,r,rfl,h1,h2⟩:=h
 rw[RpL]at h2
 subst h2
 exact⟨x,rfl,h1⟩
theorem Ybw{G H:Hp}{d:D}{vs:List V}(h:CtL K G H [d] vs):∃v,vs=[v]∧Ct K G H d v:=by
 obtain⟨x,r,rfl,h1,h2⟩:=h
 cases (show r=[] from h2)
 exact⟨x,rfl,h1⟩
theorem Ye1:SemC X.K (fun xs H Q=>∃p ys,xs=[.ref p]∧(SqL X.K H p ys∨SqT X.K H p ys)∧Q (.int ys.length) H) lenC:=by
 intro vs ds d H G Q h s r q
 match ds,h,r with
 | [c],h,r=>
   obtain⟨l,h1,rfl⟩:=qc h
   obtain⟨v,rfl,rv⟩:=Ybw r
   obtain⟨p,xs,rfl,h2,rl⟩:=Yoo (K:=X.K) h1 rv
   exact⟨p,xs,rfl,h2,q _ H G (.refl s) (by rw[Rp,rl.length])⟩
noncomputable def Ymk:List D→Option (List D)
 | [c]=>Yn c
 | _=>none
theorem Ygz:SemF X.K (fun xs H Q=>∃p ys,xs=[.ref p]∧(SqL X.K H p ys∨SqT X.K H p ys)∧∀l,H l=none→Q (.ref l) (upd H l (.lst ys))) Ymk:=by
 intro vs ds l H G Q h s r q
 match ds,h,r with
 | [c],h,r=>
   obtain⟨v,rfl,rv⟩:=Ybw r
   obtain⟨p,xs,rfl,h2,rl⟩:=Yoo (K:=X.K) h rv
   exact⟨p,xs,rfl,h2,fun m hm=>q m xs _ G (.hid s hm _) hm (s.free hm) Yv rl⟩
noncomputable def tupC:List D→Option D
 | [c]=>(Yn c).map D.tup
 | _=>none
theorem Yc6:SemC X.K (fun xs H Q=>∃p ys,xs=[.ref p]∧((SqL X.K H p ys∧∀l,H l=none→Q (.ref l) (upd H l (.tup ys)))∨(SqT X.K H p ys∧Q (.ref p) H))) tupC:=by
 intro vs ds d H G Q h s r q
 match ds,h,r with
 | [c],h,r=>
   obtain⟨l,h1,rfl⟩:=qc h
   obtain⟨v,rfl,rv⟩:=Ybw r
   rcases Yap h1 with rfl | rfl | ⟨ns,rfl,rfl⟩
   ·rw[Ct]at rv
    obtain⟨p,xs,rfl,g,rl⟩:=rv
    exact⟨p,xs,rfl,.inr ⟨.inl (.inl g.1),q _ H G (.refl s) (by rw[Rp];exact⟨p,xs,rfl,g.2,rl⟩)⟩⟩
   ·rw[Ct]at rv
    obtain⟨p,xs,rfl,g,rl⟩:=rv
    refine⟨p,xs,rfl,.inl ⟨.inl g,fun m hm=>q _ _ _ (.new s hm (.tup xs)) ?_⟩⟩
    rw[Rp]
    exact⟨m,xs,rfl,Yv,rl.mono (Gr.new s hm (.tup xs)).g⟩
   ·rw[Ct]at rv
    obtain⟨p,rfl,g⟩:=rv
    refine⟨p,_,rfl,.inl ⟨g,fun m hm=>q _ _ _ (.new s hm (.tup _)) ?_⟩⟩
    rw[Rp]
    exact⟨m,_,rfl,Yv,.ints ns⟩
noncomputable def intC:List D→Option D
 | [.int i]=>some (.int i)
 | [.bl k]=>some (.int (if k then 1 else 0))
 | _=>none
theorem y1v:SemC X.K (fun xs H Q=>(∃i,xs=[.int i]∧Q (.int i) H)∨∃k,xs=[.bl k]∧Q (.int (if k then 1 else 0)) H) intC:=by
 intro vs ds d H G Q h s r q
 match ds,h,r with
 | [.int i],h,r=>
   cases h
   obtain⟨v,rfl,rv⟩:=Ybw r
   rw[Ct]at rv
   subst rv
   exact .inl ⟨i,rfl,q _ H G (.refl s) (by rw[Rp])⟩
 | [.bl k],h,r=>
   cases h
   obtain⟨v,rfl,rv⟩:=Ybw r
   rw[Ct]at rv
   subst rv
   exact .inr ⟨k,rfl,q _ H G (.refl s) (by rw[Rp])⟩
end
end
section
variable {K:W.Frag}
section
variable {X:Cx} {e:Expr} {f:Ro→Option D} {gl:Ro→Option (List D)} {pos pos':Pos} {st:Stmt} {sts:List Stmt} {fs gs:Ro→Option Out}
noncomputable def sNil:Ro→Option Out:=fun ρ=>some (.nx ρ)
noncomputable def sSeq(f g:Ro→Option Out):Ro→Option Out:=fun ρ=>(f ρ).bind fun
 | .nx ρ'=>g ρ'
 | o=>some o
theorem y5h:MB X [] sNil:=PSs.imp y01 fun F σ H hx_=>by
 obtain⟨ρ,out,H0,G0,G,e,s,h⟩:=hx_
 cases e
 exact h σ H G s
theorem y1w(h1:MS X st fs)(h2:MB X sts gs):MB X (st::sts) (sSeq fs gs):=PSs.imp (Yx3 h1 h2) fun F σ H hx_=>by
 obtain⟨ρ,out,H0,G0,G,e,s,h⟩:=hx_
 unfold sSeq at e
 obtain⟨o,h3,e⟩:=qa e
 cases o with
 | nx ρ'=>exact⟨ρ,.nx ρ',H0,G0,G,h3,s,fun σ' H' G' s'=>⟨ρ',out,H0,G0,G',e,s',h⟩⟩
 | rt d=>cases e;exact⟨ρ,.rt d,H0,G0,G,h3,s,h⟩
 | bk ρ'=>cases e;exact⟨ρ,.bk ρ',H0,G0,G,h3,s,h⟩
 | ct ρ'=>cases e;exact⟨ρ,.ct ρ',H0,G0,G,h3,s,h⟩
theorem y5i(h1:MS X st fs):MB X [st] fs:=y02 h1
noncomputable def frz1(i:Nat)(ρ:Ro):Ro:=match ρ[i]? with
 | some (some (B.ow l))=>ρ.set i (some (.sh (.lst l)))
 | some (some (B.od t ks vs))=>ρ.set i (some (.sh (.dct t ks vs)))
 | _=>ρ
theorem SR.frz1{H0 G0 H G:Hp}{σ:L2.St}{ρ:Ro}(s:SR K H0 G0 σ H G ρ)(i:Nat):∃G',SR K H0 G0 σ H G' (M.frz1 i ρ):=by
 unfold M.frz1
 split
 ·rename_i l hl
  exact s.freeze hl
 ·rename_i t ks vs hl
  exact s.freezed hl
 ·exact⟨G,s⟩
noncomputable def frz(is:List Nat)(ρ:Ro):Ro:=is.foldl (fun r i=>frz1 i r) ρ
theorem SR.frz{H0 G0 H:Hp}{σ:L2.St}:∀(is:List Nat) {G:Hp} {ρ:Ro},SR K H0 G0 σ H G ρ→∃G',SR K H0 G0 σ H G' (M.frz is ρ)
 | [],G,_,s=>⟨G,s⟩
 | i::is,_,ρ,s=>by
   obtain⟨G',s'⟩:=s.frz1 i
   exact SR.frz is s'
theorem SR.frz1T{H0 G0 H G:Hp}{σ:L2.St}{ρ:Ro}(s:SR K H0 G0 σ H G ρ)(i:Nat):∃G',SR K H0 G0 σ H G' (M.frz1 i ρ)∧∀b ys,G' b=some (.tup ys)→G b=some (.tup ys):=by
 unfold M.frz1
 split
 ·rename_i l hl
  exact s.freezeT hl
 ·rename_i t ks vs hl
  exact s.freezedT hl
 ·exact⟨G,s,fun _ _ h=>h⟩
theorem SR.frzT{H0 G0 H:Hp}{σ:L2.St}:∀(is:List Nat) {G:Hp} {ρ:Ro},SR K H0 G0 σ H G ρ→∃G',SR K H0 G0 σ H G' (M.frz is ρ)∧∀b ys,G' b=some (.tup ys)→G b=some (.tup ys)
 | [],G,_,s=>⟨G,s,fun _ _ h=>h⟩
 | i::is,_,ρ,s=>by
   obtain⟨G',s',h1⟩:=s.frz1T i
   obtain⟨G2,s2,h2⟩:=SR.frzT is s'
   exact⟨G2,s2,fun b ys e=>h1 b ys (h2 b ys e)⟩
noncomputable def wF(is:List Nat)(f:Ro→Option Out):Ro→Option Out:=fun ρ=>f (frz is ρ)
theorem y5j(is:List Nat)(h:MS X st fs):MS X st (wF is fs):=PS.imp h fun F σ H hx_=>by
 obtain⟨ρ,out,H0,G0,G,e,s,h⟩:=hx_
 obtain⟨G',s'⟩:=SR.frz is s
 exact⟨frz is ρ,out,H0,G0,G',e,s',h⟩
noncomputable def sSet(i:Nat)(f:Ro→Option D):Ro→Option Out:=fun ρ=>(f ρ).map fun d=>.nx (ρ.set i (some (.sh d)))
noncomputable def sOwn(i:Nat)(f:Ro→Option (List D)):Ro→Option Out:=fun ρ=>(f ρ).map fun l=>.nx (ρ.set i (some (.ow l)))
theorem y5k{i:Nat}{F:Ends}{σ:L2.St}{H:Hp}(h:sOf K (sSet i f) F σ H):tAsg (tOf K f) (Yta i) F σ H:=by
 obtain⟨ρ,out,H0,G0,G,e,s,h⟩:=h
 obtain⟨d,h1,rfl⟩:=qc e
 exact tOf.at h1 s fun v H1 G1 g1 r1 s1=>h _ H1 G1 (s1.set_sh i r1)
theorem y5l{i:Nat}{F:Ends}{σ:L2.St}{H:Hp}(h:sOf K (sOwn i gl) F σ H):tAsg (tFof K gl) (Yta i) F σ H:=by
 obtain⟨ρ,out,H0,G0,G,e,s,h⟩:=h
 obtain⟨l,h1,rfl⟩:=qc e
 exact⟨ρ,l,H0,G0,G,h1,s,fun p xs H' G' g hp gp e' r=>h _ H' G' (s.set_ow i g hp gp e' r)⟩
theorem y0c(i:Nat){x:Str}(hN:X.N.Nodup)(he:ME X e f)(hi:X.N[i]?=some x:=by rfl)(hx:Loc X.env.scope x:=by first | exact Or.inl rfl | exact Or.inr rfl)(hs:swapsWith e (some (.Name x pos')) pos.line X.env=pure false:=by rfl)
 (hf:X.fn x=true∨X.env.scope.names.lookup x=some .local:=by first | exact .inl rfl | exact .inr rfl):MS X (.Assign [.Name x pos'] e pos) (sSet i f):=PS.imp (Yr9 hN hi hx he hs hf) fun _ _ _ h=>y5k h
theorem y5m(i:Nat){x:Str}(hN:X.N.Nodup)(he:MF X e gl)(hi:X.N[i]?=some x:=by rfl)(hx:Loc X.env.scope x:=by first | exact Or.inl rfl | exact Or.inr rfl)(hs:swapsWith e (some (.Name x pos')) pos.line X.env=pure false:=by rfl)
 (hf:X.fn x=true∨X.env.scope.names.lookup x=some .local:=by first | exact .inl rfl | exact .inr rfl):MS X (.Assign [.Name x pos'] e pos) (sOwn i gl):=PS.imp (Yr9 hN hi hx he hs hf) fun _ _ _ h=>y5l h
noncomputable def sRet(f:Ro→Option D):Ro→Option Out:=fun ρ=>(f ρ).map .rt
theorem y5n(he:ME X e f):MS X (.Return (some e) pos) (sRet f):=PS.imp (y3z he) fun F σ H hx_=>by
 obtain⟨ρ,out,H0,G0,G,e,s,h⟩:=hx_
 obtain⟨d,h1,rfl⟩:=qc e
 exact tOf.at h1 s fun v H1 G1 g1 r1 s1=>h v H1 G1 s1.gr r1
noncomputable def sIf(c:Ro→Option Bool)(f g:Ro→Option Out):Ro→Option Out:=fun ρ=>(c ρ).bind fun k=>if k=true then f ρ else g ρ
theorem y8c{c:Expr}{a b:List Stmt}{fc:Ro→Option Bool}(hc:MT X c fc)(ha:MB X a fs)(hb:MB X b gs):MS X (.If c a b pos) (sIf fc fs gs):=PS.imp (y7l hc ha hb) fun F σ H hx_=>by
 obtain⟨ρ,out,H0,G0,G,e,s,h⟩:=hx_
 unfold sIf at e
 obtain⟨k,h1,e⟩:=qa e
 refine tTof.at h1 s fun H1 G1 g1 s1=>?_
 cases k with
 | true=>
   rw[if_pos rfl]at e ⊢
   exact⟨ρ,out,H0,G0,G1,e,s1,h⟩
 | false=>
   rw[if_neg qi]at e ⊢
   exact⟨ρ,out,H0,G0,G1,e,s1,h⟩
noncomputable def sMut(i:Nat)(f:Ro→Option D)(g:List D→D→Option (List D)):Ro→Option Out:=fun ρ=>(getO i ρ).bind fun l=>(f ρ).bind fun d=>(g l d).map fun l'=>.nx (ρ.set i (some (.ow l')))
theorem y5o{H0 G0 H G:Hp}{σ:L2.St}{ρ:Ro}{i:Nat}{l:List D}(s:SR K H0 G0 σ H G ρ)(h:getO i ρ=some l):∃a xs,σ[i]?=some (some (V.ref a))∧H a=some (.lst xs)∧RpL K G l xs∧G a=none:=by
 obtain⟨a,xs,h1,h2,h3,h4,h5⟩:=s.ow i l (Yon h)
 exact⟨a,xs,h1,h4,h5,h2⟩
noncomputable def appD(l:List D)(d:D):Option (List D):=if l.length < cap6 then some (l++[d])else none
theorem Yvp(i:Nat){x:Str}{p2 apos cpos:Pos}(he:ME X e f)(hN:X.N[i]?=some x:=by rfl)(hv:Vis X.env.scope x:=by first | exact Or.inl rfl | exact Or.inr (Or.inl rfl) | exact Or.inr (Or.inr rfl))
 (hd:(x==("__debug__":Str))=false:=by decide) (hcd:(x==("__classdict__":Str))=false:=by decide) (hse:swapsWith (.Call (.Attribute (.Name x p2) "append" apos) [e] [] cpos) none pos.line X.env=pure false:=by rfl)
 (hs:starEach [e] X.env=[(false,eval e X.env)]:=by rfl)
 (hfew:((backTo cpos (starEach [e] X.env)).all (fun x=>!x.1)&&(backToKw cpos (keywordEach [] X.env)).all (fun x=>x.1.isSome)&&decide ([e].length+([]:List Keyword).length+(if ([]:List Keyword).isEmpty then 0 else 1) < 30))=true:=by rfl)
 (hline:(apos.endLine==cpos.line)=true:=by rfl) (hbase:attributeBase (.Name x p2) "append" X.env (eval (.Name x p2) X.env)=eval (.Name x p2) X.env:=by rfl) :
 MS X (.Expr (.Call (.Attribute (.Name x p2) "append" apos) [e] [] cpos) pos) (sMut i f appD):=
 PS.imp (y03 (y4s PySem.F.plainAttrs_list PySem.F.slot_list_append PySem.F.type_list_append Yoe (Yr8 hN hv hd hcd) (Yex he Yjb hs) hbase hfew hline hs rfl) hse) fun F σ H hx_=>by
  obtain⟨ρ,out,H0,G0,G,e,s,h⟩:=hx_
  unfold sMut at e
  obtain⟨l,h1,e⟩:=qa e
  obtain⟨d,h2,e⟩:=qa e
  obtain⟨l',h3,rfl⟩:=qc e
  unfold appD at h3
  split at h3
  ·rename_i hl
   cases h3
   obtain⟨a,xs,ha,hH,hr,hG⟩:=y5o s h1
   refine⟨_,ha,.inl ⟨rfl,xs,SqL.of hH⟩,tOf.at h2 s fun v H1 G1 g1 r1 s1=>?_⟩
   refine⟨a,xs,v,rfl,rfl,g1.h _ _ hH,?_,h σ _ G1 (s1.mut (Yon h1) ha ((hr.mono g1.g).append (.one r1)))⟩
   rw[hr.length]
   exact Qh hl (Yho (qu _))
  ·cases h3
theorem Yym{J:It}{G':Hp}{ds:List D}(hz:ds.length≤sizeLine)(h:∀(i:Nat) H2 G2,Same G' G2→Same G2 H2→(∀d,ds[i]?=some d→J.go i H2∧∀y H3,J.yld i H2 y H3→H3=H2∧Rp K G2 d y)∧(ds.length≤i→J.stop i H2)):Wk K J G' ds:=
 ⟨hz,fun i H2 G2 s1 s2=>⟨fun d hd=>⟨((h i H2 G2 s1 s2).1 d hd).1,fun y H3 q=>by
  obtain⟨rfl,r⟩:=((h i H2 G2 s1 s2).1 d hd).2 y H3 q
  exact⟨G2,.refl s2,r⟩⟩,(h i H2 G2 s1 s2).2⟩⟩
variable {tg:Expr}
noncomputable def iSeq(K:W.Frag)(tl:TE):TI:=fun σ H R=>tl σ H fun x H1=>∃a xs,x=.ref a∧((SqL K H1 a xs∧(xs.length≤sizeLine→R (Itl K a) H1))∨(SqT K H1 a xs∧(xs.length≤sizeLine→R (Itt K a) H1)))
theorem y5p{l:Expr}{tl:TE}(hl:PE X l tl):PI X tg l (iSeq X.K tl):=by
 intro pins s σ H R I h
 refine thn (hl pins s σ H _ I h) fun v s1 hx_=>?_
 obtain⟨x,H1,I1,r1,q1⟩:=hx_
 obtain⟨a,xs,e,q1⟩:=q1
 subst e
 cases r1
 rcases q1 with⟨hq,q⟩ | ⟨hq,q⟩
 ·obtain⟨its,rv,p,hz⟩:=I1.list hq
  refine wpAny_pyIter_list p.isList ?_
  refine⟨s1.heap.objs.size,[s1.heap.objs.size],_,_,H1,rfl,I1.kept (t':=s1.toks) fun b o e=>qe _ e,Yuq a _,⟨_,qp _ rfl,rfl,rfl⟩,fun b hb=>?_,q hz⟩
  have e:b=s1.heap.objs.size:=by simpa using hb
  subst e
  exact I1.fpOk (qu _) (I1.hok.fresh (qu _))
 ·obtain⟨its,rv,p,hz⟩:=I1.tuple hq
  refine wpAny_pyIter_tuple (show s1.heap.IsTuple a its.toArray from p) ?_
  refine⟨s1.heap.objs.size,[s1.heap.objs.size],_,_,H1,rfl,I1.kept (t':=s1.toks) fun b o e=>qe _ e,Ytb a _,⟨_,qp _ rfl,rfl,rfl⟩,fun b hb=>?_,q hz⟩
  have e:b=s1.heap.objs.size:=by simpa using hb
  subst e
  exact I1.fpOk (qu _) (I1.hok.fresh (qu _))
theorem y5q{l:Expr}(hl:ME X l f):MI X tg l (b1 f Yn):=PI.imp (y5p hl) fun σ H R hx_=>by
 obtain⟨ρ,ds,H0,G0,G,e,s,h⟩:=hx_
 obtain⟨c,h1,h2⟩:=Ybv e
 refine tOf.at h1 s fun v H1 G1 g1 r1 s1=>?_
 rcases Yap h2 with rfl | rfl | ⟨ns,rfl,rfl⟩
 ·rw[Rp]at r1
  obtain⟨p,xs,rfl,g,rl⟩:=r1
  refine⟨p,xs,rfl,.inr ⟨.inl (.inl (s1.seen _ _ g)),fun hz=>h _ H1 G1 g1 (Yym (by rw[←rl.length];exact hz) fun i H2 G2 e1 e2=>⟨fun d hd=>?_,fun hi=>⟨xs,.inl (.inl (e2 _ _ (e1 _ _ g))),by rw[rl.length];exact hi⟩⟩)⟩⟩
  obtain⟨x,hx,rx⟩:=rl.get hd
  refine⟨⟨xs,x,.inl (.inl (e2 _ _ (e1 _ _ g))),hx⟩,fun y H3 q=>⟨q.1,?_⟩⟩
  have:=q.2 xs (.inl (.inl (e2 _ _ (e1 _ _ g))))
  rw[hx]at this
  cases this
  exact rx.mono e1
 ·rw[Rp]at r1
  obtain⟨p,xs,rfl,g,rl⟩:=r1
  refine⟨p,xs,rfl,.inl ⟨.inl (Ybc s1.seen g),fun hz=>h _ H1 G1 g1 (Yym (by rw[←rl.length];exact hz) fun i H2 G2 e1 e2=>⟨fun d hd=>?_,fun hi=>⟨xs,.inl (Ybc e2 (Ybc e1 g)),by rw[rl.length];exact hi⟩⟩)⟩⟩
  obtain⟨x,hx,rx⟩:=rl.get hd
  refine⟨⟨xs,x,.inl (Ybc e2 (Ybc e1 g)),hx⟩,fun y H3 q=>⟨q.1,?_⟩⟩
  have:=q.2 xs (.inl (Ybc e2 (Ybc e1 g)))
  rw[hx]at this
  cases this
  exact rx.mono e1
 ·rw[Rp]at r1
  obtain⟨p,rfl,g⟩:=r1
  have rl:RpL X.K G1 (ns.map D.int) (ns.map V.int):=.ints ns
  refine⟨p,_,rfl,.inl ⟨s1.seen.seq g,fun hz=>h _ H1 G1 g1 (Yym (by rw[←rl.length];exact hz) fun i H2 G2 e1 e2=>⟨fun d hd=>?_,fun hi=>⟨_,e2.seq (e1.seq g),by rw[rl.length];exact hi⟩⟩)⟩⟩
  obtain⟨x,hx,rx⟩:=rl.get hd
  refine⟨⟨_,x,e2.seq (e1.seq g),hx⟩,fun y H3 q=>⟨q.1,?_⟩⟩
  have:=q.2 _ (e2.seq (e1.seq g))
  rw[hx]at this
  cases this
  exact rx.mono e1
noncomputable def rngD(a n:Int):List D:=(List.range (n - a).toNat).map fun i=>.int (a+(i:Nat))
theorem Yjk(a n:Int):(rngD a n).length=(n - a).toNat:=by simp[rngD]
theorem y0d{a n:Int}{G':Hp}(hz:(n - a).toNat≤sizeLine):Wk K (Itr a (n - a).toNat) G' (rngD a n):=
 Yym (by rw[Yjk];exact hz) fun i H2 G2 _ _=>⟨fun d hd=>by
  unfold rngD at hd
  rw[Qk]at hd
  obtain⟨j,h1,rfl⟩:=qc hd
  have hj:i < (n - a).toNat:=by
   have:=(qo h1).1
   simpa using this
  rw[List.getElem?_range hj]at h1
  cases h1
  exact⟨hj,fun y H3 q=>⟨q.1,by rw[Rp];exact q.2⟩⟩,fun hi=>by rw[Yjk]at hi;exact hi⟩
noncomputable def rng1:List D→Option (List D)
 | [.int n]=>if decide (-(cap6:Int)≤n)&&decide (n≤cap6)then some (rngD 0 n)else none
 | _=>none
noncomputable def rng2:List D→Option (List D)
 | [.int a,.int n]=>if decide (-(cap6:Int)≤a)&&decide (a≤cap6)&&decide (-(cap6:Int)≤n)&&decide (n≤cap6)then some (rngD a n)else none
 | _=>none
theorem Yvq{l ds:List D}(h:rng1 l=some ds):∃n:Int,l=[.int n]∧-1000000≤n∧n≤1000000∧ds=rngD 0 n:=by
 unfold rng1 at h
 split at h
 ·rename_i n
  split at h
  ·rename_i hc
   cases h
   simp only[Qe,decide_eq_true_eq]at hc
   have hcap:(cap6:Int)=1000000:=by decide
   exact⟨n,rfl,by lia,by lia,rfl⟩
  ·cases h
 ·cases h
theorem Yvr{l ds:List D}(h:rng2 l=some ds):∃a n:Int,l=[.int a,.int n]∧-1000000≤a∧a≤1000000∧-1000000≤n∧n≤1000000∧ds=rngD a n:=by
 unfold rng2 at h
 split at h
 ·rename_i a n
  split at h
  ·rename_i hc
   cases h
   simp only[Qe,decide_eq_true_eq]at hc
   have hcap:(cap6:Int)=1000000:=by decide
   exact⟨a,n,rfl,by lia,by lia,by lia,by lia,rfl⟩
  ·cases h
 ·cases h
theorem Yvs{a:Expr}{ga:Ro→Option (List D)}{p:Pos}(hg:Gl X "range")(hm:X.mg "range"=none)(ha:MA X [a] ga)(hs:starEach [a] X.env=[(false,eval a X.env)]:=by rfl):MI X tg (.Call (.Name "range" p) [a] [] pos) (cF ga rng1):=
 PI.imp (Yur hg hm ha hs) fun σ H R hx_=>by
  obtain⟨ρ,ds,H0,G0,G,e,s,h⟩:=hx_
  unfold cF at e
  obtain⟨l,h1,h2⟩:=qa e
  refine tAof.at h1 s fun vs H1 G1 g1 r1 s1=>?_
  obtain⟨n,rfl,c1,c2,rfl⟩:=Yvq h2
  obtain⟨v,rfl,rv⟩:=Ygd r1
  rw[Rp]at rv
  subst rv
  refine⟨n,rfl,by lia,by lia,?_⟩
  have:=h (Itr 0 (n - 0).toNat) H1 G1 g1 (y0d (Yho (by unfold cap6;lia)))
  simpa using this
theorem Yvt{a b:Expr}{ga:Ro→Option (List D)}{p:Pos}(hg:Gl X "range")(hm:X.mg "range"=none)(ha:MA X [a,b] ga)(hs:starEach [a,b] X.env=[(false,eval a X.env),(false,eval b X.env)]:=by rfl)(hs2:starEach [b] X.env=[(false,eval b X.env)]:=by rfl) :
 MI X tg (.Call (.Name "range" p) [a,b] [] pos) (cF ga rng2):=
 PI.imp (Yus hg hm ha hs hs2) fun σ H R hx_=>by
  obtain⟨ρ,ds,H0,G0,G,e,s,h⟩:=hx_
  unfold cF at e
  obtain⟨l,h1,h2⟩:=qa e
  refine tAof.at h1 s fun vs H1 G1 g1 r1 s1=>?_
  obtain⟨a,n,rfl,c1,c2,c3,c4,rfl⟩:=Yvr h2
  rw[RpL]at r1
  obtain⟨x,r,rfl,rx,r1⟩:=r1
  obtain⟨y,rfl,ry⟩:=Ygd r1
  rw[Rp]at rx ry
  subst rx;subst ry
  exact⟨a,n,rfl,⟨by lia,by lia,by lia,by lia⟩,h _ H1 G1 g1 (y0d (Nat.le_trans (by lia:(n - a).toNat≤2000000) (by rw[sizeLine_eq];decide)))⟩
noncomputable def gSet(i:Nat):D→Ro→Option Ro:=fun d ρ=>some (ρ.set i (some (.sh d)))
theorem y1x(i:Nat){x:Str}(hN:X.N.Nodup)(hi:X.N[i]?=some x:=by rfl)(hx:Loc X.env.scope x:=by first | exact Or.inl rfl | exact Or.inr rfl)(hf:X.fn x=true∨X.env.scope.names.lookup x=some .local:=by first | exact .inl rfl | exact .inr rfl):MG X (.Name x pos) (gSet i):=
 PG.imp (Yhi hN hi hx hf) fun v σ H Q hx_=>by
  obtain⟨d,ρ,ρ',H0,G0,G,e,s,r,h⟩:=hx_
  cases e
  exact h _ (s.set_sh i r)
noncomputable def Yvu(i j:Nat):D→Ro→Option Ro:=fun d ρ=>match d with
 | .tup [a,b]=>some ((ρ.set i (some (.sh a))).set j (some (.sh b)))
 | _=>none
theorem y1y(i j:Nat){x y:Str}{px py:Pos}{k:Nat}(hc:X.calm=true)(hN:X.N.Nodup)(hi:X.N[i]?=some x:=by rfl)(hj:X.N[j]?=some y:=by rfl)(hx:Loc X.env.scope x:=by first | exact Or.inl rfl | exact Or.inr rfl)(hy:Loc X.env.scope y:=by first | exact Or.inl rfl | exact Or.inr rfl)
 (hf:X.fn x=true∨X.env.scope.names.lookup x=some .local:=by first | exact .inl rfl | exact .inr rfl) (hf2:X.fn y=true∨X.env.scope.names.lookup y=some .local:=by first | exact .inl rfl | exact .inr rfl):MG X (.Tuple [.Name x px,.Name y py] k pos) (Yvu i j):=
 PG.imp (y30 (n:=2) hc (Ygu (Yhi hN hi hx hf) (Ygu (Yhi hN hj hy hf2) Yup))) fun v σ H Q hx_=>by
  obtain⟨d,ρ,ρ',H0,G0,G,e,s,r,h⟩:=hx_
  match d,e,r with
  | .tup [a,b],e,r=>
    cases e
    rw[Rp]at r
    obtain⟨p,xs,rfl,g,rl⟩:=r
    rw[RpL]at rl
    obtain⟨u,us,rfl,ru,rl⟩:=rl
    obtain⟨w,rfl,rw'⟩:=Ygd rl
    exact⟨p,[u,w],rfl,.inl (.inl (s.seen _ _ g)),rfl,u,[w],rfl,w,[],rfl,rfl,h _ ((s.set_sh i ru).set_sh j rw')⟩
noncomputable def forM(gt:D→Ro→Option Ro)(fb:Ro→Option Out):List D→Ro→Option Out
 | [],ρ=>some (.nx ρ)
 | d::ds,ρ=>(gt d ρ).bind fun ρ1=>(fb ρ1).bind fun
   | .nx ρ2=>forM gt fb ds ρ2
   | .ct ρ2=>forM gt fb ds ρ2
   | .bk ρ2=>some (.nx ρ2)
   | .rt d=>some (.rt d)
noncomputable def sFor(gl:Ro→Option (List D))(gt:D→Ro→Option Ro)(fb:Ro→Option Out):Ro→Option Out:=fun ρ=>(gl ρ).bind fun ds=>forM gt fb ds ρ
theorem Yge{gt:D→Ro→Option Ro}{fb:Ro→Option Out}:∀(ds:List D) (ρ:Ro) (out:Out),forM gt fb ds ρ=some out→(∃ρ',out=.nx ρ')∨∃d,out=.rt d
 | [],ρ,out,h=>by cases h;exact .inl ⟨_,rfl⟩
 | d::ds,ρ,out,h=>by
   rw[forM]at h
   obtain⟨ρ1,h1,h⟩:=qa h
   obtain⟨o,h2,h⟩:=qa h
   cases o with
   | nx ρ2=>exact Yge ds ρ2 out h
   | ct ρ2=>exact Yge ds ρ2 out h
   | bk ρ2=>cases h;exact .inl ⟨_,rfl⟩
   | rt d=>cases h;exact .inr ⟨_,rfl⟩
theorem y5r{iter:Expr}{body:List Stmt}{gt:D→Ro→Option Ro}(hp:PassesOwn (model X.prog X.w) X.A X.env X.xe)(hc:X.calm=true)(hi:MI X tg iter gl)(hg:MG X tg gt)(hb:MB X body fs)
 (hs:∀x,foldedSetIterable iter X.env x=pure x:=by intro _;rfl):MS X (.For tg iter body [] pos) (sFor gl gt fs):=
 PS.imp (y33 hp hc hi hg hb hs) fun F σ H hx_=>by
  obtain⟨ρ,out,H0,G0,G,e,s,h⟩:=hx_
  unfold sFor at e
  obtain⟨ds,h1,h2⟩:=qa e
  refine⟨ρ,ds,H0,G0,G,h1,s,fun J H1 G1 g1 wk=>?_⟩
  obtain⟨Hb,sb,back⟩:=(s.grow g1).rebase
  have hout:=Yge ds ρ out h2
  refine⟨fun i m σ' H'=>m=ds.length - i∧i≤ds.length∧∃ρ' G',SR X.K Hb G1 σ' H' G' ρ'∧forM gt fs (ds.drop i) ρ'=some out,⟨_,rfl,Nat.zero_le _,ρ,G1,sb,h2⟩,?_⟩
  rintro i m σ' H' ⟨rfl,hi,ρ',G',s',e'⟩
  have W:=wk.2 i H' G' s'.gr.g s'.seen
  by_cases hlt:i < ds.length
  ·have hd:ds[i]?=some ds[i]:=qq hlt
   obtain⟨go,yl⟩:=W.1 _ hd
   rw[List.drop_eq_getElem_cons hlt,forM]at e'
   obtain⟨ρ1,e1,e'⟩:=qa e'
   obtain⟨o,e2,e'⟩:=qa e'
   refine .inr ⟨go,fun σ' H'=>i+1≤ds.length∧∃ρ' G',SR X.K Hb G1 σ' H' G' ρ'∧forM gt fs (ds.drop (i+1)) ρ'=some out,fun σ2 H2 q=>⟨ds.length - (i+1),by lia,rfl,q.1,q.2⟩,fun x H2 y=>?_⟩
   obtain⟨G2,g2,r2⟩:=yl x H2 y
   refine⟨_,ρ',ρ1,Hb,G1,G2,e1,s'.grow g2,r2,fun σ3 s3=>?_⟩
   refine⟨ρ1,o,Hb,G1,G2,e2,s3,?_⟩
   cases o with
   | nx ρ2=>exact fun σ4 H4 G4 s4=>⟨hlt,ρ2,G4,s4,e'⟩
   | ct ρ2=>exact fun σ4 H4 G4 s4=>⟨hlt,ρ2,G4,s4,e'⟩
   | bk ρ2=>
     cases e'
     exact fun σ4 H4 G4 s4=>h σ4 H4 G4 (back _ _ _ _ s4)
   | rt d=>
     cases e'
     refine fun v H4 G4 g4 r4=>h v H4 G4 ?_ r4
     have:=(back [] H4 G4 [] (SR.mkSh g4 rfl (fun i d e=>(by simp at e)) (fun i l e=>(by simp at e)) (fun i t ks vs e=>(by simp at e)))).gr
     exact this
  ·have ei:i=ds.length:=by lia
   subst ei
   rw[List.drop_length,forM]at e'
   cases e'
   exact .inl ⟨W.2 (qu _),h σ' H' G' (back _ _ _ _ s')⟩
noncomputable def Yf1(fc:Ro→Option Bool)(fb:Ro→Option Out):Nat→Ro→Option Out
 | 0,_=>none
 | n+1,ρ=>(fc ρ).bind fun k=>if k=true then (fb ρ).bind fun
  | .nx ρ2=>Yf1 fc fb n ρ2
  | .ct ρ2=>Yf1 fc fb n ρ2
  | .bk ρ2=>some (.nx ρ2)
  | .rt d=>some (.rt d)
  else some (.nx ρ)
theorem Yyn{c:Expr}{body:List Stmt}{fc:Ro→Option Bool}(n:Nat)(hp:PassesOwn (model X.prog X.w) X.A X.env X.xe)(hc:MT X c fc)(hb:MB X body fs):MS X (.While c body [] pos) (Yf1 fc fs n):=
 PS.imp (Yx4 hp hc hb) fun F σ H hx_=>by
  obtain⟨ρ,out,H0,G0,G,e,s,h⟩:=hx_
  refine⟨fun m σ' H'=>∃ρ' G',SR X.K H0 G0 σ' H' G' ρ'∧Yf1 fc fs m ρ'=some out,⟨n,ρ,G,s,e⟩,?_⟩
  rintro m σ' H' ⟨ρ',G',s',e'⟩
  cases m with
  | zero=>cases e'
  | succ m=>
    rw[Yf1]at e'
    obtain⟨k,e1,e'⟩:=qa e'
    refine tTof.at e1 s' fun H1 G1 g1 s1=>?_
    cases k with
    | false=>
      rw[if_neg qi]at e'
      cases e'
      exact h σ' H1 G1 s1
    | true=>
      rw[if_pos rfl]at e'
      obtain⟨o,e2,e'⟩:=qa e'
      refine⟨fun σ' H'=>∃ρ' G',SR X.K H0 G0 σ' H' G' ρ'∧Yf1 fc fs m ρ'=some out,fun σ2 H2 q=>⟨m,Qa m,q⟩,?_⟩
      refine⟨ρ',o,H0,G0,G1,e2,s1,?_⟩
      cases o with
      | nx ρ2=>exact fun σ4 H4 G4 s4=>⟨ρ2,G4,s4,e'⟩
      | ct ρ2=>exact fun σ4 H4 G4 s4=>⟨ρ2,G4,s4,e'⟩
      | bk ρ2=>cases e';exact h
      | rt d=>cases e';exact h
noncomputable def capR(src:List (Option Nat))(ρ:Ro):Ro:=src.map fun o=>o.bind fun j=>match ρ[j]? with
 | some (some (B.sh d))=>some (.sh d)
 | _=>none
theorem SR.cap{H0 G0 H G:Hp}{σ:L2.St}{ρ:Ro}(s:SR K H0 G0 σ H G ρ)(src:List (Option Nat)):SR K H G (capσ src σ) H G (capR src ρ):=by
 have noow:∀(i:Nat) l,(capR src ρ)[i]?≠some (some (B.ow l)):=fun i l h=>by
  unfold capR at h
  rw[Qk]at h
  obtain⟨o,h1,h2⟩:=qc h
  obtain⟨j,rfl,h3⟩:=qa h2
  split at h3<;>cases h3
 have nood:∀(i:Nat) t ks vs,(capR src ρ)[i]?≠some (some (B.od t ks vs)):=fun i t ks vs h=>by
  unfold capR at h
  rw[Qk]at h
  obtain⟨o,h1,h2⟩:=qc h
  obtain⟨j,rfl,h3⟩:=qa h2
  split at h3<;>cases h3
 refine SR.mkSh (.refl s.seen) (by simp[capσ,capR]) (fun i d h=>?_) noow nood
 unfold capR at h
 rw[Qk]at h
 obtain⟨o,h1,h2⟩:=qc h
 obtain⟨j,rfl,h3⟩:=qa h2
 split at h3
 ·rename_i d' hd
  cases h3
  obtain⟨v,q1,q2⟩:=s.sh j _ hd
  refine⟨v,?_,q2⟩
  unfold capσ
  rw[Qk,h1]
  show some ((σ[j]?).join)=some (some v)
  rw[q1]
  rfl
 ·cases h3
noncomputable def Yg0(gt:D→Ro→Option Ro)(fc:Ro→Option Bool)(fe:Ro→Option D)(ρ:Ro):List D→Option (List D)
 | []=>some []
 | d::ds=>(gt d ρ).bind fun ρ1=>(fc ρ1).bind fun k=>if k=true then (fe ρ1).bind fun v=>(Yg0 gt fc fe ρ ds).map (v::·)else Yg0 gt fc fe ρ ds
noncomputable def Ybd(gl:Ro→Option (List D))(src:List (Option Nat))(gt:D→Ro→Option Ro)(fc:Ro→Option Bool)(fe:Ro→Option D):Ro→Option (List D):=fun ρ=>(gl ρ).bind fun ds=>Yg0 gt fc fe (capR src ρ) ds
noncomputable def tY:Ro→Option Bool:=fun _=>some true
theorem y1z{σ:L2.St}{H:Hp}{Q:Bool→Hp→Prop}(h:tTof K tY σ H Q):tYes σ H Q:=by
 obtain⟨ρ,k,H0,G0,G,e,s,h⟩:=h
 cases e
 exact h H G (.refl s.seen)
theorem y5s:PIfs X [] (tTof X.K tY):=fun pins s σ H Q I h=>y1g pins s σ H Q I (y1z h)
theorem Yaq{src:List (Option Nat)}{i:Nat}(h:src[i]?=some none):∀ρ d ρ1,gSet i d (capR src ρ)=some ρ1→Le (capR src ρ) ρ1:=fun ρ d ρ1 e=>by
 cases e
 refine⟨by simp,fun j b hb=>?_⟩
 by_cases hj:j=i
 ·subst hj
  unfold capR at hb
  rw[Qk,h]at hb
  cases hb
 ·rw[Qf (Ne.symm hj)];exact hb
theorem Yvv{src:List (Option Nat)}{gt:D→Ro→Option Ro}{fc:Ro→Option Bool}{fe:Ro→Option D}(hle:∀ρ d ρ1,gt d (capR src ρ)=some ρ1→Le (capR src ρ) ρ1){σ:L2.St}{H:Hp}{Q:VK}
 (h:tFof K (Ybd gl src gt fc fe) σ H Q):tLC (tIof K gl) src (gOf K gt) (tTof K fc) (tOf K fe) σ H Q:=by
 obtain⟨ρ,l,H0,G0,G,e,s,h⟩:=h
 unfold Ybd at e
 obtain⟨ds,h1,h2⟩:=qa e
 refine⟨ρ,ds,H0,G0,G,h1,s,fun J H1 G1 g1 wk p hp=>?_⟩
 have s1:=s.grow g1
 have sc:=s1.cap src
 have gp:G1 p=none:=s1.seen.free hp
 refine⟨fun i m σ' H'=>m=ds.length - i∧i≤ds.length∧∃G' done xs rest,SR K H1 G1 σ' H' G' (capR src ρ)∧H' p=some (.lst xs)∧G' p=none∧RpL K G' done xs∧xs.length≤i∧Yg0 gt fc fe (capR src ρ) (ds.drop i)=some rest∧done++rest=l,
  ⟨_,rfl,Nat.zero_le _,G1,[],[],l,sc.grow (Gr.hid s1.seen hp _),Yv,gp,.nil,Nat.zero_le _,h2,rfl⟩,?_⟩
 rintro i m σ' H' ⟨rfl,hi,G',done,xs,rest,s',hx,gx,rx,hl,e',hd⟩
 have W:=wk.2 i H' G' s'.gr.g s'.seen
 by_cases hlt:i < ds.length
 ·have hdi:ds[i]?=some ds[i]:=qq hlt
  obtain⟨go,yl⟩:=W.1 _ hdi
  rw[List.drop_eq_getElem_cons hlt,Yg0]at e'
  obtain⟨ρ1,e1,e'⟩:=qa e'
  obtain⟨k,e2,e'⟩:=qa e'
  refine .inr ⟨go,fun x H2 y=>?_⟩
  obtain⟨G2,g2,r2⟩:=yl x H2 y
  have keep:∀{Ha Ga Hb Gb:Hp},Gr Ha Ga Hb Gb→Ha p=some (.lst xs)→Ga p=none→Hb p=some (.lst xs)∧Gb p=none:=fun {Ha Ga Hb Gb} g e1 e2=>by
   refine⟨g.h _ _ e1,?_⟩
   cases q:Gb p with
   | none=>rfl
   | some o=>
     have:=g.n p e2 (by rw[q];exact fun z=>nomatch z)
     rw[e1]at this
     cases this
  obtain⟨hx2,gx2⟩:=keep g2 hx gx
  refine⟨_,capR src ρ,ρ1,H1,G1,G2,e1,s'.grow g2,r2,fun σ3 s3=>?_⟩
  refine tTof.at e2 s3 fun H4 G4 g4 s4=>?_
  obtain⟨hx4,gx4⟩:=keep g4 hx2 gx2
  have le:=hle ρ _ ρ1 e1
  cases k with
  | false=>
    rw[if_neg qi]at e' ⊢
    exact⟨ds.length - (i+1),by lia,rfl,hlt,G4,done,xs,rest,s4.le le,hx4,gx4,(rx.mono g2.g).mono g4.g,by lia,e',hd⟩
  | true=>
    rw[if_pos rfl]at e' ⊢
    obtain⟨v,e3,e'⟩:=qa e'
    obtain⟨rest',e4,rfl⟩:=qc e'
    refine tOf.at e3 s4 fun w H5 G5 g5 r5 s5=>?_
    obtain⟨hx5,gx5⟩:=keep g5 hx4 gx4
    have hz:=wk.1
    refine⟨xs,hx5,by lia,ds.length - (i+1),by lia,rfl,hlt,G5,done++[v],xs++[w],rest',?_,Yv,gx5,(((rx.mono g2.g).mono g4.g).mono g5.g).append (.one r5),by simp;lia,e4,by simpa using hd⟩
    have s6:=s5.le le
    have noow:∀(i:Nat) l,(capR src ρ)[i]?≠some (some (B.ow l)):=fun i l h=>by
     unfold capR at h
     rw[Qk]at h
     obtain⟨o,h1,h2⟩:=qc h
     obtain⟨j,rfl,h3⟩:=qa h2
     split at h3<;>cases h3
    have nood:∀(i:Nat) t ks vs,(capR src ρ)[i]?≠some (some (B.od t ks vs)):=fun i t ks vs h=>by
     unfold capR at h
     rw[Qk]at h
     obtain⟨o,h1,h2⟩:=qc h
     obtain⟨j,rfl,h3⟩:=qa h2
     split at h3<;>cases h3
    refine SR.mkSh ⟨fun b o q=>?_,s6.gr.g,fun b o q=>?_,s6.gr.n⟩ s6.len s6.sh noow nood
    ·rw[Yz (Yy q hp)];exact s6.gr.h b o q
    ·rw[Yz (Yy q gx5)];exact s6.gr.s b o q
 ·have ei:i=ds.length:=by lia
  subst ei
  rw[List.drop_length,Yg0]at e'
  cases e'
  rw[List.append_nil]at hd
  subst hd
  exact .inl ⟨W.2 (qu _),h p xs H' G' (g1.trans s'.gr) (g1.h.free hp) gx hx rx⟩
section
variable {elt iter:Expr} {ifs:List Expr} {scope:Scope} {N:List Str} {src:List (Option Nat)} {gt:D→Ro→Option Ro} {fc:Ro→Option Bool} {fe:Ro→Option D}
theorem y10(S:CompSc X.N X.env.scope N src scope)(hc:X.calm=true)(hit:MI X tg iter gl)(hg:∀cl C fp s H,MG (Yau X scope N cl C fp s H) tg gt)(hi:∀cl C fp s H,PIfs (Yau X scope N cl C fp s H) ifs (tTof X.K fc))(he:∀cl C fp s H,ME (Yau X scope N cl C fp s H) elt fe)
 (hle:∀ρ d ρ1,gt d (capR src ρ)=some ρ1→Le (capR src ρ) ρ1) (hs:∀x,foldedSetIterable iter X.env x=pure x:=by intro _;rfl):MF X (.ListComp elt [⟨tg,iter,ifs,0⟩] scope pos) (Ybd gl src gt fc fe):=
 PE.imp (y1i S hc hit hg hi he hs) fun _ _ _ h=>Yvv hle h
theorem y11(i:Nat){y:Str}{py spos:Pos}(hN:X.N.Nodup)(S:CompSc X.N X.env.scope N src scope)(hc:X.calm=true)(hit:MI X tg iter gl)(hg:∀cl C fp s H,MG (Yau X scope N cl C fp s H) tg gt)(hi:∀cl C fp s H,PIfs (Yau X scope N cl C fp s H) ifs (tTof X.K fc))(he:∀cl C fp s H,ME (Yau X scope N cl C fp s H) elt fe)
 (hle:∀ρ d ρ1,gt d (capR src ρ)=some ρ1→Le (capR src ρ) ρ1) (hsw:swapsWith (.ListComp elt [⟨tg,iter,ifs,0⟩] scope pos) (some (.Name y py)) spos.line X.env=pure true:=by rfl) (hy:X.N[i]?=some y:=by rfl) (hx:Loc X.env.scope y:=by first | exact Or.inl rfl | exact Or.inr rfl)
 (hf:X.fn y=true∨X.env.scope.names.lookup y=some .local:=by first | exact .inl rfl | exact .inr rfl) (hs:∀x,foldedSetIterable iter X.env x=pure x:=by intro _;rfl):MS X (.Assign [.Name y py] (.ListComp elt [⟨tg,iter,ifs,0⟩] scope pos) spos) (sOwn i (Ybd gl src gt fc fe)):=
 PS.imp (y1j S hc hit hg hi he hN hy hx hsw hf hs) fun F σ H h=>by
  obtain⟨ρ,out,H0,G0,G,e,s,h⟩:=h
  obtain⟨l,h1,rfl⟩:=qc e
  exact Yvv hle ⟨ρ,l,H0,G0,G,h1,s,fun p xs H' G' g hp gp e' r=>h _ H' G' (s.set_ow i g hp gp e' r)⟩
end
noncomputable def Yw(n:Nat)(ds:List D):Ro:=ds.map (fun d=>some (.sh d))++List.replicate (n - ds.length) none
noncomputable def runB(k n:Nat)(fb:Ro→Option Out)(ds:List D):Option D:=if ds.length=k then (fb (Yw n ds)).bind fun
 | .rt d=>some d
 | .nx _=>some .non
 | _=>none
 else none
theorem SR.start{H G:Hp}{ds:List D}{vs:List V}{N:List Str}(s:Same G H)(r:RpL K G ds vs):SR K H G (start N vs) H G (Yw N.length ds):=by
 have hl:=r.length
 have noow:∀(i:Nat) l,(Yw N.length ds)[i]?≠some (some (B.ow l)):=fun i l h=>by
  unfold Yw at h
  rw[List.getElem?_append]at h
  split at h
  ·rw[Qk]at h
   obtain⟨d,_,h2⟩:=qc h
   cases h2
  ·rw[List.getElem?_replicate]at h
   split at h<;>cases h
 have nood:∀(i:Nat) t ks vs,(Yw N.length ds)[i]?≠some (some (B.od t ks vs)):=fun i t ks vs h=>by
  unfold Yw at h
  rw[List.getElem?_append]at h
  split at h
  ·rw[Qk]at h
   obtain⟨d,_,h2⟩:=qc h
   cases h2
  ·rw[List.getElem?_replicate]at h
   split at h<;>cases h
 refine SR.mkSh (.refl s) (by simp[L2.start,Yw,hl]) (fun i d h=>?_) noow nood
 unfold Yw at h
 rw[List.getElem?_append]at h
 split at h
 ·rename_i hi
  rw[Qk]at h
  obtain⟨d',h1,h2⟩:=qc h
  cases h2
  obtain⟨v,h3,h4⟩:=r.get h1
  refine⟨v,?_,h4⟩
  unfold L2.start
  rw[List.getElem?_append_left (by rw[qf,hl];simpa using hi),Qk,h3]
  rfl
 ·rw[List.getElem?_replicate]at h
  split at h<;>cases h
section
variable {P:Program} {w:World} {mg:Str→Option Value} {base:Heap}
theorem Yvw{x qual:Str}{st:Stmt}{f:Addr}{fd:FuncData}{N ps:List Str}{k n m:Nat}{fb:Ro→Option Out}(F:Fun K x qual st f fd)(S:FnScope N ps (defScope st))(hn:N.length=n)(hm:ps.length=m)
 (hb:∀(cdv:Value) (A:Around) (outer:List Env) (s:Shared) (H:Hp) (E:XK),Room k (A.deeper (envOfC qual (defScope st) s.heap.objs.size f cdv))→MB (cxOf CX0 P w K mg base N qual (defScope st) f cdv A outer s H E).nox (defBody st) fb) :
 FnOk P w K mg base CX0 (k+1) f fd ps (spOf K m (runB m n fb)):=by
 refine F.ok S (fun vs H Q E h=>by rw[h.1,hm]) fun cdv A outer s H vs Q E hr h=>?_
 obtain⟨hl,ds,d,G,sm,r,e,q⟩:=h
 refine⟨_,hb cdv A outer s H E hr,?_⟩
 unfold runB at e
 split at e
 ·rename_i hds
  obtain⟨o,h1,h2⟩:=qa e
  refine⟨Yw n ds,o,H,G,G,h1,by rw[←hn];exact SR.start sm r,?_⟩
  cases o with
  | rt d'=>cases h2;exact fun v H' G' g r'=>q v H' G' g r'
  | nx ρ=>cases h2;exact fun σ' H' G' s'=>q .non H' G' s'.gr (by rw[Rp])
  | bk ρ=>cases h2
  | ct ρ=>cases h2
 ·cases e
end
end
end
section
variable {K:W.Frag}
def Okf(P:Program)(w:World)(K:W.Frag)(mg:Str→Option Value)(base:Heap)(k n:Nat)(x:Str)(ps:List Str)(fn:List D→Option D):Prop:=
 ∃a fd,FnOk P w K mg base CX0 k a fd ps (spOf K n fn)∧Binds K fd ps []∧W.keepIn K (.ref a)=true∧mg x=some (.ref a)
theorem Yam{P:Program}{w:World}{K:W.Frag}{mg:Str→Option Value}{base:Heap}{k n:Nat}{x q:Str}{ps:List Str}{fn:List D→Option D}{st:Stmt}{a:Addr}{fd:FuncData}(F:Fun K x q st a fd)(b:Binds K fd ps [])
 (hm:mg x=some (.ref a)) (h:FnOk P w K mg base CX0 k a fd ps (spOf K n fn)):Okf P w K mg base k n x ps fn:=⟨a,fd,h,b,F.kp,hm⟩
section
variable {X:Cx} {a b e:Expr} {es:List Expr} {fa fb:Ro→Option D} {ga:Ro→Option (List D)} {pos:Pos}
theorem Yyo{j k n:Nat}{x:Str}{p:Pos}{ps:List Str}{fn:List D→Option D}(c:Okf X.prog X.w X.K X.mg X.base j n x ps fn)(hr:Room k X.A)(hg:Gl X x)(ha:MA X (e::es) ga)(hl:∀ρ l,ga ρ=some l→l.length=n)
 (hj:j≤k:=by first | exact qu _ | lia) (hdb:(x==("__debug__":Str))=false:=by decide) (he:starEach (e::es) X.env=(false,eval e X.env)::starEach es X.env:=by rfl) (hpl:(backTo pos (starEach es X.env)).any (·.1)=false:=by rfl) :
 ME X (.Call (.Name x p) (e::es) [] pos) (cC ga fn):=by
 obtain⟨a,fd,F,hb,hk,hm⟩:=c
 exact y1u F (hr.mono hj) hg hm hk hb ha hdb he hpl hl
theorem y5t(ha:MC X a fa)(hb:MC X b fb):ME X (.BinOp a .Add b pos) (b2 fa fb addI):=Yls y34 Yvf ha hb
noncomputable def negI:D→Option D
 | .int i=>some (.int (-i))
 | _=>none
theorem y5u(ha:MC X a fa):ME X (.UnaryOp .USub a pos) (b1 fa negI):=PE.imp (y7p y39 ha) fun σ H Q hx_=>by
 obtain⟨ρ,d,H0,G0,G,e,s,h⟩:=hx_
 obtain⟨x,h1,h2⟩:=Ybv e
 refine tCof.at h1 s fun v H1 G1 g1 r1 s1=>?_
 cases x<;>simp[negI]at h2
 subst h2
 rw[Ct]at r1
 exact⟨_,r1,h _ H1 G1 g1 (by rw[Rp])⟩
noncomputable def catD:D→D→Option (List D)
 | .lst a,.lst b=>if a.length+b.length≤cap6 then some (a++b)else none
 | _,_=>none
noncomputable def y8d:R2:=fun x y H Q=>∃l b xs zs,x=.ref l∧y=.ref b∧Rd H l (.lst xs)∧Rd H b (.lst zs)∧xs.length+zs.length≤sizeLine∧∀p,H p=none→Q (.ref p) (upd H p (.lst (xs++zs)))
theorem y12:OpR X (binaryOp .Add) y8d:=by
 intro pins s σ H x y v u Q I rx ry h
 obtain⟨l,b,xs,zs,rfl,rfl,hH,hB,hz,q⟩:=h
 cases rx
 cases ry
 obtain⟨z,its,n,r,e⟩:=hH.ok I.hok
 obtain⟨z2,its2,n2,r2,e2⟩:=hB.ok I.hok
 have hl:=r.length
 have hl2:=r2.length
 refine PySem.P.add_list e e2 ?_ (by rw[qk,qk];lia)
 have ea:its.toArray++its2.toArray=(its++its2).toArray:=by simp
 rw[ea]
 exact⟨.ref _,_,I.lnew (t':=s.toks) (r.append r2) (by rw[qz];lia),rfl,q _ I.fresh⟩
theorem y5v(ha:MC X a fa)(hb:MC X b fb):MF X (.BinOp a .Add b pos) (b2 fa fb catD):=PE.imp (Yx5 y12 ha hb) fun σ H Q hx_=>by
 obtain⟨ρ,l,H0,G0,G,e,s,h⟩:=hx_
 obtain⟨dx,dy,h1,h2,h3⟩:=Yjh e
 refine tCof.at h1 s fun v H1 G1 g1 r1 s1=>tCof.at h2 s1 fun u H2 G2 g2 r2 s2=>?_
 unfold catD at h3
 split at h3
 ·rename_i l1 l2
  split at h3
  ·rename_i hz
   cases h3
   have r1':=r1.grow g2
   rw[Ct]at r1' r2
   obtain⟨p,xs,rfl,gp,rl⟩:=r1'
   obtain⟨q,zs,rfl,gq,rm⟩:=r2
   refine⟨p,q,xs,zs,rfl,rfl,gp,gq,by rw[rl.length,rm.length];exact Yho hz,fun m hm=>?_⟩
   exact h m _ _ G2 ((g1.trans g2).trans (.hid s2.seen hm _)) (g1.h.free (g2.h.free hm)) (s2.seen.free hm) Yv (rl.append rm)
  ·cases h3
 ·cases h3
noncomputable def Yc7:D→String
 | .non=>"NoneType"
 | .bl _=>"bool"
 | .int _=>"int"
 | .str _=>"str"
 | .tup _=>"tuple"
 | .lst _=>"list"
 | .scr _=>"list"
 | .dct _ _ _=>"dict"
noncomputable def Yk5:D→Bool
 | .scr _=>false
 | .dct _ _ _=>false
 | _=>true
noncomputable def isiD(T:String)(d:D):Option Bool:=if Yk5 d=true then some (Yc7 d==T||(T=="int"&&Yc7 d=="bool"))else none
theorem y13{G H:Hp}{d:D}{v:V}(hn:Yk5 d=true)(r:Ct K G H d v):TyOf K H v (.type (Yc7 d)):=by
 cases d<;>rw[Ct]at r
 ·subst r;exact .non
 ·subst r;exact .bl _
 ·subst r;exact .int _
 ·obtain⟨rfl,_⟩:=r;exact .str _
 ·obtain⟨a,xs,rfl,g,_⟩:=r;exact .tup g.1
 ·obtain⟨a,xs,rfl,g,_⟩:=r
  rcases g with g | ⟨o,g⟩
  ·exact .lst g
  ·exact .frz g
 ·cases hn
 ·cases hn
def Kit(T:String):Prop:=∀(K:W.Frag) (d:D),W.kitOne K (.type (Yc7 d)) (.type T)=some (Yc7 d==T||(T=="int"&&Yc7 d=="bool"))
theorem y14:Kit "int":=fun K d=>by cases d<;>rfl
theorem Ysl:Kit "bool":=fun K d=>by cases d<;>rfl
theorem y15:Kit "str":=fun K d=>by cases d<;>rfl
theorem Yjl:Kit "tuple":=fun K d=>by cases d<;>rfl
theorem Yyp{T:String}(hk:Kit T):Yc2 X (.builtin "isinstance") (fun xs H Q=>∃x d G,xs=[x,.ty T]∧Yk5 d=true∧Ct X.K G H d x∧Q (.bl (Yc7 d==T||(T=="int"&&Yc7 d=="bool"))) H):=by
 intro pins s σ H xs us Q I r h
 obtain⟨x,d,G,rfl,hn,rx,q⟩:=h
 obtain⟨u,w',rfl,r1,r2⟩:=Yuv r
 cases (show w'=Value.type T from r2)
 exact Yuy I r1 (y13 hn rx) (hk X.K d) fun tk=>⟨.bl _,H,I.tok tk,rfl,q⟩
theorem y5w{T:String}{tn:Str}{p p2:Pos}(ha:MC X a fa)(hg:Gl X "isinstance")(hg2:Gl X tn)(hm:X.mg "isinstance"=none)(hm2:X.mg tn=none)(hv2:bootBuiltins tn=some (.type T))(hk:Kit T)(hv:bootBuiltins "isinstance"=some (.builtin "isinstance"):=by decide +kernel)
 (hn2:tn≠"__name__":=by decide) (hd2:(tn==("__debug__":Str))=false:=by decide)
 (hs:starEach [a,.Name tn p2] X.env=(false,eval a X.env)::starEach [.Name tn p2] X.env:=by rfl) (hs2:starEach [.Name tn p2] X.env=(false,eval (.Name tn p2) X.env)::starEach [] X.env:=by rfl) (hpl:(backTo pos (starEach [.Name tn p2] X.env)).any (·.1)=false:=by rfl) :
 ME X (.Call (.Name "isinstance" p) [a,.Name tn p2] [] pos) (mB (b1 fa (isiD T))):=
 PE.imp (Ygv (Yyp hk) hg hm hv (Yex ha (Yex (y0z hg2 hm2 hv2 (v:=.ty T) rfl hn2 hd2) Yjb hs2) hs) (by decide) (by decide) hs hpl) fun σ H Q hx_=>by
  obtain⟨ρ,d,H0,G0,G,e,s,h⟩:=hx_
  obtain⟨k,ek,rfl⟩:=Yqo e
  obtain⟨x,h1,h2⟩:=Ybv ek
  unfold isiD at h2
  split at h2
  ·cases h2
   exact tCof.at h1 s fun v H1 G1 g1 r1 s1=>⟨v,x,G1,rfl,by assumption,r1,h _ H1 G1 g1 (by rw[Rp])⟩
  ·cases h2
end
end
section
variable {K:W.Frag}
noncomputable def insI(a:Int):List Int→List Int
 | []=>[a]
 | b::l=>if a≤b then a::b::l else b::insI a l
noncomputable def Ybn:List Int→List Int
 | []=>[]
 | a::l=>insI a (Ybn l)
theorem Yjm(a:Int):∀l:List Int,(insI a l).Perm (a::l)
 | []=>.refl _
 | b::l=>by
   rw[insI]
   split
   ·exact .refl _
   ·exact((Yjm a l).cons b).trans (.swap a b l)
theorem Yan:∀l:List Int,(Ybn l).Perm l
 | []=>.refl _
 | a::l=>(Yjm a _).trans ((Yan l).cons a)
theorem Yjn(a:Int):∀l:List Int,l.Pairwise (·≤·)→(insI a l).Pairwise (·≤·)
 | [],_=>by simp[insI]
 | b::l,h=>by
   rw[insI]
   split
   ·rename_i hab
    refine List.pairwise_cons.mpr ⟨fun x hx=>?_,h⟩
    rcases qt hx with rfl | hx
    ·exact hab
    ·exact Int.le_trans hab ((List.pairwise_cons.mp h).1 x hx)
   ·rename_i hab
    refine List.pairwise_cons.mpr ⟨fun x hx=>?_,Yjn a l (List.pairwise_cons.mp h).2⟩
    rcases qt ((Yjm a l).mem_iff.mp hx)with rfl | hx
    ·lia
    ·exact(List.pairwise_cons.mp h).1 x hx
theorem Yar:∀l:List Int,(Ybn l).Pairwise (·≤·)
 | []=>.nil
 | a::l=>Yjn a _ (Yar l)
section
variable {prog:Program} {w:World} {A:Around} {E:Value→Shared→Prop} {s:Shared}
theorem Ytl{l:Addr}{vs:List Value}{Q:Value→Shared→Prop}(hl:s.heap.IsList l vs.toArray)(h2:vs.length < 2)
 (h:Q (.ref (s.heap.objs.size+1)) { s with heap:=sortedAll s.heap vs vs.toArray }):wpAny (model prog w) A (call (.builtin "sorted") [.ref l]) Q E s:=by
 refine Calls.call_function_entry kind_sorted plain_sorted entry_sorted (args_sorted1 _) ?_
 unfold Builtin.«sorted»
 refine wpAny_bind (m:=checkCount "sorted" 1 1 _) (wpAny_pure ?_)
 refine wpAny_bind (collect_list hl ?_ (by rw[sizeLine_eq];lia))
 refine wpAny_bind (wpAny_newList ?_ (by rw[sizeLine_eq];lia))
 have hsz:((s.heap.push (seqObj "list" #[] 0)).update s.heap.objs.size (Obj.mapSeq (·++vs.toArray))).objs.size=s.heap.objs.size+1:=by
  rw[Heap.size_update,size_push']
 have hoL:(((s.heap.push (seqObj "list" #[] 0)).update s.heap.objs.size (Obj.mapSeq (·++vs.toArray))).push (seqObj "list" vs.toArray 0)).get? (s.heap.objs.size+1)=some (seqObj "list" vs.toArray 0):=by
  rw[←hsz];exact qp _ rfl
 show wpAny _ _ _ _ _ { s with heap:=((s.heap.push (seqObj "list" #[] 0)).update s.heap.objs.size (Obj.mapSeq (·++vs.toArray))).push (seqObj "list" vs.toArray 0) }
 rw[hsz]
 refine wpAny_bind (wpAny_holding (wpAny_call_entry slot_list_sort ⟨_,hoL,rfl⟩ entry_list_sort ?body (args_list_sort _)))
 case body=>
  rw[list_sort_plain]
  generalize hS:({ s with heap:=((s.heap.push (seqObj "list" #[] 0)).update s.heap.objs.size (Obj.mapSeq (·++vs.toArray))).push (seqObj "list" vs.toArray 0) }:Shared)=S at *
  have hoS:S.heap.get? (s.heap.objs.size+1)=some (seqObj "list" vs.toArray 0):=by rw[←hS];exact hoL
  have ha:s.heap.objs.size+1 < S.heap.objs.size:=ql hoS
  refine wpAny_bind (listItems_at hoS rfl ?_)
  refine wpAny_bind (listUpdate_at hoS rfl ?_ (by rw[qk,sizeLine_eq];lia) (Nat.zero_le _))
  obtain⟨e1,ho1⟩:∃e1,(S.heap.update (s.heap.objs.size+1) (Obj.mapSeq fun _=>#[])).get? (s.heap.objs.size+1)=some (seqObj "list" #[] e1):=⟨_,get?_update_seq hoS (fun _=>#[])⟩
  refine wpAny_bind (seqEpoch_at ho1 rfl ?_)
  refine wpAny_bind (wpAny_newTuple ?_ (by show vs.length≤_;rw[sizeLine_eq];lia))
  refine wpAny_bind (wpAny_newList ?_ (Nat.zero_le _))
  refine wpAny_holding ?_
  have ho6:(((S.heap.update (s.heap.objs.size+1) (Obj.mapSeq fun _=>#[])).push (seqObj "tuple" vs.toArray 0)).push (seqObj "list" #[] 0)).get? (s.heap.objs.size+1)=some (seqObj "list" #[] e1):=by
   rw[Heap.get?_push_ne _ _ _ (by rw[size_push',Heap.size_update];exact qm (qw ha)),Heap.get?_push_ne _ _ _ (by rw[Heap.size_update];exact qm ha)]
   exact ho1
  show wpAny (model prog w) _ _ _ _ { S with heap:=((S.heap.update (s.heap.objs.size+1) (Obj.mapSeq fun _=>#[])).push (seqObj "tuple" vs.toArray 0)).push (seqObj "list" #[] 0) }
  dsimp only
  have hlt:vs.toArray.size < 2:=by rw[qk];exact h2
  rw[if_pos hlt,if_pos hlt]
  refine wpAny_bind (wpAny_pure ?_)
  rw[StateT.run_pure]
  refine wpAny_bind (wpAny_pure ?_)
  dsimp only
  refine wpAny_bind (seqEpoch_at ho6 rfl ?_)
  refine wpAny_bind (listUpdate_at ho6 rfl ?_ (hsz2:=by rw[Array.size_map];show(pairsOf vs).size≤_;rw[pairsOf_size,sizeLine_eq];lia))
  simp only[bne_self_eq_false,Qo,if_false]
  have hout:(arrOf (SortSt.mk' general' (vs.toArray.zip vs.toArray) #[] 7 none)).map (·.2)=vs.toArray:=by
   show(vs.toArray.zip vs.toArray).map (·.2)=vs.toArray
   apply Array.toList_inj.mp
   simp[List.map_snd_zip]
  refine wpAny_pure ⟨_,rfl,wpAny_pure ⟨_,rfl,?_⟩⟩
  have hh:=h
  unfold sortedAll sortedHeap at hh
  rw[←hS,hout]
  exact hh
noncomputable def plt(j:Int)(q:Bool)(i:Int)(p:Bool):Bool:=if j=i then (!q&&p)else decide (j < i)
theorem y16{b c:Addr}{i j:Int}{p q:Bool}{t u:Tok}{R:Bool→Shared→Prop}(hb:IsTup s.heap b #[.int i t,.bool p])(hc:IsTup s.heap c #[.int j u,.bool q])(h:R (plt j q i p) s) :
 wpAny (model prog w) A (keyLt' (tuples' true) (.ref c) (.ref b)) R E s:=by
 obtain⟨ob,h1,_,n1,d1⟩:=hb
 obtain⟨oc,h2,_,n2,d2⟩:=hc
 refine W.kat_lt h2 d2 h1 d1 ?_
 show W.KatLex prog w A true false R [(.int j u,.int i t),(.bool q,.bool p)] 0 s
 unfold plt at h
 refine W.kat_cons (SeqAt.EqAt.int_int j u i t prog w _ _ (W.kat_go (fun e=>W.kat_yes (W.kat_cons (SeqAt.EqAt.bool_bool q p prog w _ _ (W.kat_go (fun e2=>W.kat_yes (W.kat_nil ?_)) fun e2=>W.kat_no (W.kat_one _ _ (lt_bool ?_)))))) fun e=>W.kat_no ?_))
 ·have e':j=i:=by simpa using e
  have e2':q=p:=by simpa using e2
  rw[if_pos e',e2']at h
  cases p<;>exact h
 ·have e':j=i:=by simpa using e
  rw[if_pos e']at h
  show R _ s
  cases p<;>cases q<;>first | exact h | simp at e2
 ·have e':¬j=i:=by simpa using e
  rw[if_neg e']at h
  exact oneLt_int h
theorem Ytm{cmp:Nat→Nat→(Bool→Shared→Prop)→Shared→Prop}{G:Array Nat→Shared→Prop}{S:Shared}(h:cmp 1 0 (fun k s'=>if k=true then G #[1,0] s' else G #[0,1] s') S):(W.kas_sort 2).kasWp cmp G S:=by
 show cmp 1 0 (fun k s'=>W.KasT.kasWp cmp _ G s') S
 have e:∀(k:Bool) (s':Shared),(if k=true then G #[1,0] s' else G #[0,1] s')=W.KasT.kasWp cmp (W.KasT.bind (W.KasT.bind (if k=true then W.KasT.ret 1 else W.kas_asc (List.toArray (List.range 2)) 0 2)
  fun n=>if (n==2)=true then W.KasT.ret (n,List.toArray (List.range 2))else if n > 1 then .ask ((List.toArray (List.range 2)).getD 0 0) ((List.toArray (List.range 2)).getD (n - 1) 0) fun c=>if c=true then .ret (n,List.toArray (List.range 2))else W.kas_descPart n 2 (W.kas_rev (List.toArray (List.range 2)) 0 n)
   else W.kas_descPart n 2 (List.toArray (List.range 2))) fun r=>if r.1 < 2 then W.kas_bin (2 - max r.1 1) r.2 (max r.1 1)else .ret r.2) G s':=fun k s'=>by cases k<;>rfl
 have e2:(fun(k:Bool) (s':Shared)=>if k=true then G #[1,0] s' else G #[0,1] s')=_:=funext fun k=>funext fun s'=>e k s'
 rw[e2]at h
 exact h
theorem Ytn{l b c:Addr}{i j:Int}{p q:Bool}{t u:Tok}{Q:Value→Shared→Prop}(hl:s.heap.IsList l #[.ref b,.ref c])(hb:IsTup s.heap b #[.int i t,.bool p])(hc:IsTup s.heap c #[.int j u,.bool q])
 (h:Q (.ref (s.heap.objs.size+1)) { s with heap:=sortedAll s.heap [.ref b,.ref c] (if plt j q i p=true then #[.ref c,.ref b]else #[.ref b,.ref c]) }):wpAny (model prog w) A (call (.builtin "sorted") [.ref l]) Q E s:=by
 generalize hvs:[Value.ref b,Value.ref c]=vs at *
 have hl':s.heap.IsList l vs.toArray:=hl
 have hlen:vs.length=2:=by rw[←hvs];rfl
 refine Calls.call_function_entry kind_sorted plain_sorted entry_sorted (args_sorted1 _) ?_
 unfold Builtin.«sorted»
 refine wpAny_bind (m:=checkCount "sorted" 1 1 _) (wpAny_pure ?_)
 refine wpAny_bind (collect_list hl' ?_ (by rw[sizeLine_eq];lia))
 refine wpAny_bind (wpAny_newList ?_ (by rw[sizeLine_eq];lia))
 have hsz:((s.heap.push (seqObj "list" #[] 0)).update s.heap.objs.size (Obj.mapSeq (·++vs.toArray))).objs.size=s.heap.objs.size+1:=by
  rw[Heap.size_update,size_push']
 have hoL:(((s.heap.push (seqObj "list" #[] 0)).update s.heap.objs.size (Obj.mapSeq (·++vs.toArray))).push (seqObj "list" vs.toArray 0)).get? (s.heap.objs.size+1)=some (seqObj "list" vs.toArray 0):=by
  rw[←hsz];exact qp _ rfl
 have keep0:∀b o,s.heap.get? b=some o→(((s.heap.push (seqObj "list" #[] 0)).update s.heap.objs.size (Obj.mapSeq (·++vs.toArray))).push (seqObj "list" vs.toArray 0)).get? b=some o:=fun b o q=>by
  have hlt:b < s.heap.objs.size:=ql q
  rw[Heap.get?_push_ne _ _ _ (by rw[hsz];exact qm (qw hlt)),Heap.get?_update_ne _ _ _ _ (qm hlt),Heap.get?_push_ne _ _ _ (qm hlt)]
  exact q
 show wpAny _ _ _ _ _ { s with heap:=((s.heap.push (seqObj "list" #[] 0)).update s.heap.objs.size (Obj.mapSeq (·++vs.toArray))).push (seqObj "list" vs.toArray 0) }
 rw[hsz]
 refine wpAny_bind (wpAny_holding (wpAny_call_entry slot_list_sort ⟨_,hoL,rfl⟩ entry_list_sort ?body (args_list_sort _)))
 case body=>
  rw[list_sort_plain]
  generalize hS:({ s with heap:=((s.heap.push (seqObj "list" #[] 0)).update s.heap.objs.size (Obj.mapSeq (·++vs.toArray))).push (seqObj "list" vs.toArray 0) }:Shared)=S at *
  have hoS:S.heap.get? (s.heap.objs.size+1)=some (seqObj "list" vs.toArray 0):=by rw[←hS];exact hoL
  have keepS:∀b o,s.heap.get? b=some o→S.heap.get? b=some o:=by rw[←hS];exact keep0
  have ha:s.heap.objs.size+1 < S.heap.objs.size:=ql hoS
  refine wpAny_bind (listItems_at hoS rfl ?_)
  refine wpAny_bind (listUpdate_at hoS rfl ?_ (by rw[qk,sizeLine_eq];lia) (Nat.zero_le _))
  obtain⟨e1,ho1⟩:∃e1,(S.heap.update (s.heap.objs.size+1) (Obj.mapSeq fun _=>#[])).get? (s.heap.objs.size+1)=some (seqObj "list" #[] e1):=⟨_,get?_update_seq hoS (fun _=>#[])⟩
  refine wpAny_bind (seqEpoch_at ho1 rfl ?_)
  refine wpAny_bind (wpAny_newTuple ?_ (by show vs.length≤_;rw[sizeLine_eq];lia))
  refine wpAny_bind (wpAny_newList ?_ (Nat.zero_le _))
  refine wpAny_holding ?_
  have ho6:(((S.heap.update (s.heap.objs.size+1) (Obj.mapSeq fun _=>#[])).push (seqObj "tuple" vs.toArray 0)).push (seqObj "list" #[] 0)).get? (s.heap.objs.size+1)=some (seqObj "list" #[] e1):=by
   rw[Heap.get?_push_ne _ _ _ (by rw[size_push',Heap.size_update];exact qm (qw ha)),Heap.get?_push_ne _ _ _ (by rw[Heap.size_update];exact qm ha)]
   exact ho1
  have keep6:∀b o,s.heap.get? b=some o→(((S.heap.update (s.heap.objs.size+1) (Obj.mapSeq fun _=>#[])).push (seqObj "tuple" vs.toArray 0)).push (seqObj "list" #[] 0)).get? b=some o:=fun b o q=>by
   have hlt:b < s.heap.objs.size:=ql q
   refine qe _ (qe _ ?_)
   rw[Heap.get?_update_ne _ _ _ _ (qm (qw hlt))]
   exact keepS b o q
  generalize hS6:({ S with heap:=((S.heap.update (s.heap.objs.size+1) (Obj.mapSeq fun _=>#[])).push (seqObj "tuple" vs.toArray 0)).push (seqObj "list" #[] 0) }:Shared)=S6
  have ho7:S6.heap.get? (s.heap.objs.size+1)=some (seqObj "list" #[] e1):=by rw[←hS6];exact ho6
  have tb:IsTup S6.heap b #[.int i t,.bool p]:=by
   obtain⟨o,a1,a2⟩:=hb
   exact⟨o,by rw[←hS6];exact keep6 b o a1,a2⟩
  have tc:IsTup S6.heap c #[.int j u,.bool q]:=by
   obtain⟨o,a1,a2⟩:=hc
   exact⟨o,by rw[←hS6];exact keep6 c o a1,a2⟩
  dsimp only
  have hn2:¬vs.toArray.size < 2:=by rw[qk];lia
  rw[if_neg hn2,if_neg hn2]
  have kt:W.KatTups S6.heap vs [.int i t,.int j u]:=by
   obtain⟨ob,b1,b2,n1,b3⟩:=tb
   obtain⟨oc,c1,c2,n2,c3⟩:=tc
   rw[←hvs]
   exact .cons b1 b2 b3 rfl (.cons c1 c2 c3 rfl .nil)
  refine wpAny_bind (W.kat_kind (T:=.type "int") kt (qw (Qa 0)) (fun v hv=>?_) (by decide) ?_)
  ·rcases qt hv with rfl | hv
   ·exact .of_pure rfl
   ·rcases qt hv with rfl | hv
    ·exact .of_pure rfl
    ·cases hv
  have hcmp:wpAny (model prog w) A.in1.in1 (keyLt' (tuples' true) (vs.getD 1 Value.none) (vs.getD 0 Value.none)) (fun k s'=>k=plt j q i p∧s'=S6) (fun _ _=>False) S6:=by
   rw[←hvs]
   exact y16 tb tc ⟨rfl,rfl⟩
  refine wpAny_bind (wpAny_mono (W.kat_run (ks:=vs) (vs:=vs) (κ:=tuples' true) (G:=fun pm s'=>s'=S6∧pm=if plt j q i p=true then #[1,0]else #[0,1])
   (Q:=fun st' s'=>s'=S6∧failedOf st'=none∧(arrOf st').map (·.2)=if plt j q i p=true then #[.ref c,.ref b]else #[.ref b,.ref c]) rfl (by lia) (by lia) (fun pm st' s' a1 a2 a3 a4=>?_) ?_) ?_ fun _ _ e=>e)
  ·obtain⟨rfl,rfl⟩:=a4
   refine⟨rfl,a3,?_⟩
   rw[W.kat_snds rfl a2,←hvs]
   cases plt j q i p<;>rfl
  ·rw[hlen]
   refine Ytm ?_
   refine wpAny_mono hcmp (fun k s' hk=>?_) fun _ _ x=>x
   obtain⟨rfl,rfl⟩:=hk
   cases plt j q i p
   ·exact⟨rfl,rfl⟩
   ·exact⟨rfl,rfl⟩
  rintro⟨⟨⟩,st'⟩ s' ⟨rfl,hf,hout⟩
  dsimp only
  refine wpAny_bind (seqEpoch_at ho7 rfl ?_)
  refine wpAny_bind (listUpdate_at ho7 rfl ?_ (Nat.zero_le _) (by rw[hout,sizeLine_eq];cases plt j q i p<;>exact(by decide:2≤16777216+1)))
  rw[hf]
  simp only[bne_self_eq_false,Qo,if_false]
  refine wpAny_pure ⟨_,rfl,wpAny_pure ⟨_,rfl,?_⟩⟩
  have hh:=h
  unfold sortedAll sortedHeap at hh
  rw[←hS6,←hS,hout]
  subst hvs
  exact hh
end
noncomputable def intsD:List D→Option (List Int)
 | []=>some []
 | .int i::l=>(intsD l).map (i::·)
 | _=>none
noncomputable def prI:D→Option (Int × Bool)
 | .tup [.int j,.bl q]=>some (j,q)
 | _=>none
noncomputable def y0e(e d:D):Option Bool:=(prI e).bind fun x=>(prI d).map fun y=>plt x.1 x.2 y.1 y.2
theorem Yhp{α:Type}{x:α}{P:Prop}(h:none=some x):P:=by cases h
theorem Ysm{d:D}{x:Int × Bool}(h:prI d=some x):d=.tup [.int x.1,.bl x.2]:=by
 cases d with
 | tup l=>cases l with
   | nil=>exact Yhp h
   | cons a l=>cases a with
     | int j=>cases l with
       | nil=>exact Yhp h
       | cons b l=>cases b with
         | bl q=>cases l with
           | nil=>exact Option.some.inj h ▸ rfl
           | cons _ _=>exact Yhp h
         | _=>exact Yhp h
     | _=>exact Yhp h
 | _=>exact Yhp h
noncomputable def Yyq(l:List D):Option (List D):=match intsD l with
 | some ns=>if ns.length < 64 then some ((Ybn ns).map D.int)else none
 | none=>match l with
   | [d]=>some [d]
   | [d,e]=>(y0e e d).map fun k=>if k=true then [e,d]else [d,e]
   | _=>none
noncomputable def Yml:List D→Option (List D)
 | [.lst l]=>Yyq l
 | _=>none
theorem Yb7:∀{l:List D} {ns:List Int},intsD l=some ns→l=ns.map D.int
 | [],ns,h=>by cases h;rfl
 | .int i::l,ns,h=>by
   rw[intsD]at h
   obtain⟨m,h1,rfl⟩:=qc h
   rw[Yb7 h1]
   rfl
 | .non::l,ns,h=>by simp[intsD]at h
 | .bl _::l,ns,h=>by simp[intsD]at h
 | .str _::l,ns,h=>by simp[intsD]at h
 | .tup _::l,ns,h=>by simp[intsD]at h
 | .lst _::l,ns,h=>by simp[intsD]at h
 | .scr _::l,ns,h=>by simp[intsD]at h
 | .dct _ _ _::l,ns,h=>by simp[intsD]at h
theorem Yec{G:Hp}:∀{ns:List Int} {xs:List V},RpL K G (ns.map D.int) xs→xs=ns.map V.int
 | [],xs,h=>by rw[List.map_nil,RpL]at h;exact h
 | n::ns,xs,h=>by
   rw[Qd,RpL]at h
   obtain⟨x,r,rfl,h1,h2⟩:=h
   rw[Rp]at h1
   rw[h1,Yec h2]
   rfl
def Yvx(H:Hp)(x:V)(i:Int)(p:Bool):Prop:=∃a,x=.ref a∧H a=some (.tup [.int i,.bl p])
noncomputable def y5x:List V→Hp→VK→Prop:=fun vs H Q=>∃a xs,vs=[.ref a]∧Rd H a (.lst xs)∧
 ((∃ns:List Int,xs=ns.map V.int∧ns.length < 64∧∀p,H p=none→Q (.ref p) (upd H p (.lst ((Ybn ns).map V.int))))∨
  (xs.length < 2∧∀p,H p=none→Q (.ref p) (upd H p (.lst xs)))∨
  (∃x y i p j q,xs=[x,y]∧Yvx H x i p∧Yvx H y j q∧∀r,H r=none→Q (.ref r) (upd H r (.lst (if plt j q i p=true then [y,x]else [x,y])))))
theorem Ydg{X:Cx}:Yc2 X (.builtin "sorted") y5x:=by
 intro pins s σ H xs us Q I r h
 obtain⟨a,ys,rfl,hr,h⟩:=h
 obtain⟨u,rfl,ru⟩:=Yf7 r
 cases ru
 obtain⟨its,rv,pl,hz⟩:=I.list (.inl hr)
 have fin:∀(out:Array Value) (zs:List V),Vals zs out.toList→zs.length≤sizeLine→Q (.ref (s.heap.objs.size+1)) (upd H (s.heap.objs.size+1) (.lst zs))→EP X pins σ Q (.ref (s.heap.objs.size+1)) { s with heap:=sortedAll s.heap its out }:=fun out zs hv hz' hq=>by
  obtain⟨e,he⟩:=sortedAll_at s.heap its out
  exact⟨.ref (s.heap.objs.size+1),_,I.laid (t':=s.toks) (fun b o q=>sortedAll_old q) (Nat.le_succ _) (show ObjOk X.prog X.w _ _ _ (.lst zs) from⟨hz',out.toList,e,hv,by rw[Array.toArray_toList];exact he⟩),rfl,hq⟩
 have fr:H (s.heap.objs.size+1)=none:=I.hok.fresh (Nat.le_succ _)
 have hl:=rv.length
 rcases h with⟨ns,rfl,h64,q⟩ | ⟨h2,q⟩ | ⟨x,y,i,p,j,k,rfl,px,py,q⟩
 ·have hI:=Yfo rv
  refine sorted_ints pl.isList hI (by rw[hI.length];exact h64) fun out ns' h1 h2 h3=>?_
  have e:ns'=Ybn ns:=W.ksm_same (h2.trans (Yan ns).symm) h3 (Yar ns)
  subst e
  have hn:(Ybn ns).length=ns.length:=(Yan ns).length_eq
  exact fin out _ (Yez h1) (by rw[qf,hn,sizeLine_eq];lia) (q _ fr)
 ·refine Ytl pl.isList (by lia) ?_
  exact fin its.toArray ys (by simpa using rv) hz (q _ fr)
 ·obtain⟨b,rfl,hb⟩:=px
  obtain⟨c,rfl,hc⟩:=py
  obtain⟨u1,u2,rfl,r1,r2⟩:=Yuv rv
  cases r1
  cases r2
  obtain⟨_,ib,vb,tb⟩:=(show ObjOk X.prog X.w H s.heap b (.tup [.int i,.bl p]) from I.hok b _ hb)
  obtain⟨_,ic,vc,tc⟩:=(show ObjOk X.prog X.w H s.heap c (.tup [.int j,.bl k]) from I.hok c _ hc)
  obtain⟨w1,w2,rfl,⟨t,rfl⟩,w2e⟩:=Yuv vb
  cases w2e
  obtain⟨w3,w4,rfl,⟨t',rfl⟩,w4e⟩:=Yuv vc
  cases w4e
  refine Ytn (by simpa using pl.isList) (by simpa using tb) (by simpa using tc) ?_
  refine fin _ (if plt j k i p=true then [.ref c,.ref b]else [.ref b,.ref c]) ?_ (by rw[sizeLine_eq];cases plt j k i p<;>exact(by decide:2≤16777216)) (q _ fr)
  cases plt j k i p
  ·exact .cons rfl (.cons rfl .nil)
  ·exact .cons rfl (.cons rfl .nil)
theorem Yop{G H:Hp}{d:D}{v:V}{i:Int}{p:Bool}(s:Same G H)(e:d=.tup [.int i,.bl p])(r:Rp K G d v):Yvx H v i p:=by
 subst e
 rw[Rp]at r
 obtain⟨a,xs,rfl,g,rl⟩:=r
 rw[RpL]at rl
 obtain⟨x,r',rfl,h1,h2⟩:=rl
 obtain⟨y,rfl,h3⟩:=Ygd h2
 rw[Rp]at h1
 rw[Rp]at h3
 subst h1;subst h3
 exact⟨a,rfl,s _ _ g⟩
theorem Yqr{e d:D}{k:Bool}(h:y0e e d=some k):∃j q i p,e=.tup [.int j,.bl q]∧d=.tup [.int i,.bl p]∧k=plt j q i p:=by
 obtain⟨x,h1,h2⟩:=qa h
 obtain⟨y,h3,h4⟩:=qc h2
 exact⟨x.1,x.2,y.1,y.2,Ysm h1,Ysm h3,h4.symm⟩
theorem Yed:SemF K y5x Yml:=by
 intro vs ds l H G Q h s r q
 unfold Yml at h
 split at h
 ·rename_i m
  obtain⟨v,rfl,rv⟩:=Ybw r
  rw[Ct]at rv
  obtain⟨a,xs,rfl,g,rl⟩:=rv
  refine⟨a,xs,rfl,g,?_⟩
  unfold Yyq at h
  split at h
  ·rename_i ns hns
   split at h
   ·rename_i h64
    cases h
    cases Yb7 hns
    refine .inl ⟨ns,Yec rl,h64,fun p hp=>?_⟩
    exact q p _ _ G (.hid s hp _) hp (s.free hp) Yv (.ints _)
   ·cases h
  ·split at h
   ·cases h
    refine .inr (.inl ⟨by rw[rl.length];exact Qa 1,fun p hp=>?_⟩)
    exact q p _ _ G (.hid s hp _) hp (s.free hp) Yv rl
   ·rename_i d e
    obtain⟨k,h1,rfl⟩:=qc h
    obtain⟨j,y,i,x,rfl,rfl,rfl⟩:=Yqr h1
    rw[RpL]at rl
    obtain⟨v1,r1,rfl,p1,rl⟩:=rl
    obtain⟨v2,rfl,p2⟩:=Ygd rl
    refine .inr (.inr ⟨v1,v2,i,x,j,y,rfl,Yop s rfl p1,Yop s rfl p2,fun p hp=>?_⟩)
    refine q p _ _ G (.hid s hp _) hp (s.free hp) Yv ?_
    cases plt j y i x
    ·exact .cons p1 (.one p2)
    ·exact .cons p2 (.one p1)
   ·cases h
 ·cases h
end
section
variable {K:W.Frag}
theorem Ymm{P:Program}{w:World}{mg:Str→Option Value}{base:Heap}{k n:Nat}{x q:Str}{ps:List Str}{st:Stmt}{a:Addr}{fd:FuncData}(F:Fun K x q st a fd)(b:Binds K fd ps [])(hm:mg x=some (.ref a))(hn:ps.length=n) :
 Okf P w K mg base k n x ps (fun _=>none):=by
 have no:∀vs H Q E,¬spOf K n (fun _=>none) vs H Q E:=fun vs H Q E h=>by
  obtain⟨_,ds,d,G,_,_,e,_⟩:=h
  cases e
 exact⟨a,fd,⟨fun vs H Q E h=>absurd h (no vs H Q E),fun A outer s H args us vs Q E _ _ _ _ h=>absurd h (no vs H Q E)⟩,b,F.kp,hm⟩
section
variable {X:Cx} {e:Expr} {f fb:Ro→Option D} {pos pos':Pos}
noncomputable def blsD:List D→Option (List Bool)
 | []=>some []
 | .bl b::l=>(blsD l).map (b::·)
 | _=>none
theorem Yoq:∀{l:List D} {bs:List Bool},blsD l=some bs→l=bs.map D.bl
 | [],bs,h=>by cases h;rfl
 | .bl i::l,bs,h=>by
   rw[blsD]at h
   obtain⟨m,h1,rfl⟩:=qc h
   rw[Yoq h1]
   rfl
 | .non::l,ns,h=>by simp[blsD]at h
 | .int _::l,ns,h=>by simp[blsD]at h
 | .str _::l,ns,h=>by simp[blsD]at h
 | .tup _::l,ns,h=>by simp[blsD]at h
 | .lst _::l,ns,h=>by simp[blsD]at h
 | .scr _::l,ns,h=>by simp[blsD]at h
 | .dct _ _ _::l,ns,h=>by simp[blsD]at h
theorem Yvy{G:Hp}:∀{bs:List Bool} {xs:List V},RpL K G (bs.map D.bl) xs→xs=bs.map V.bl
 | [],xs,h=>by rw[List.map_nil,RpL]at h;exact h
 | n::ns,xs,h=>by
   rw[Qd,RpL]at h
   obtain⟨x,r,rfl,h1,h2⟩:=h
   rw[Rp]at h1
   rw[h1,Yvy h2]
   rfl
theorem Ymn:∀{bs:List Bool} {us:List Value},Vals (bs.map V.bl) us→us=bs.map Value.bool
 | [],us,h=>by cases h;rfl
 | b::bs,us,h=>by
   cases h with
   | cons r t=>
     cases (show _=Value.bool b from r)
     rw[Ymn t]
     rfl
theorem Yvz(bs:List Bool):((List.range bs.length).any fun i=>bs.getD i false)=bs.any id:=by
 induction bs with
 | nil=>rfl
 | cons b bs ih=>
   rw[qr,List.range_succ_eq_map,List.any_cons,List.any_map,List.any_cons]
   have:(List.range bs.length).any ((fun i=>(b::bs).getD i false) ∘ Nat.succ)=(List.range bs.length).any fun i=>bs.getD i false:=by
    congr 1
   rw[this,ih]
   rfl
theorem Yv0(bs:List Bool):((List.range bs.length).all fun i=>bs.getD i false)=bs.all id:=by
 induction bs with
 | nil=>rfl
 | cons b bs ih=>
   rw[qr,List.range_succ_eq_map,List.all_cons,List.all_map,List.all_cons]
   have:(List.range bs.length).all ((fun i=>(b::bs).getD i false) ∘ Nat.succ)=(List.range bs.length).all fun i=>bs.getD i false:=by
    congr 1
   rw[this,ih]
   rfl
noncomputable def rBls(g:List Bool→V):List V→Hp→VK→Prop:=fun vs H Q=>∃(a:Addr) (bs:List Bool),vs=[.ref a]∧Rd H a (.lst (bs.map V.bl))∧Q (g bs) H
theorem Yor(A:Around)(prog:Program)(w:World)(bs:List Bool):TruthOf prog w A (fun i v=>((bs.map Value.bool).toArray)[i]?=some v) (fun i=>bs.getD i false):=fun i v s Q E hP hQ=>by
 have hP':(bs.map Value.bool)[i]?=some v:=by simpa using hP
 rw[Qk]at hP'
 obtain⟨b,h1,rfl⟩:=qc hP'
 refine wpAny_truthy_bool ?_
 have:bs.getD i false=b:=by simp[h1]
 rw[←this]
 exact hQ
theorem Yos{pins:List (Addr × Obj)}{s:Shared}{σ:L2.St}{H:Hp}{a:Addr}{its:List Value}{A:Around}{E:Value→Shared→Prop}{Q:Value→Shared→Prop}(hh:A.handled=none)(hl:s.heap.IsList a its.toArray)
 (h:∀s₂,s₂={ s with heap:=s.heap.push { cls:=.type "list_iterator",data:=.fields #[.ref a,.int 0 0] } }→Walks X.prog X.w A s.heap.objs.size [s.heap.objs.size,a] [s.heap.objs.size] its.toArray.size (fun i v=>its.toArray[i]?=some v) (fun i h=>h.IsListIter s.heap.objs.size a i∧h.IsList a its.toArray)→
  (s₂.heap.IsListIter s.heap.objs.size a 0∧s₂.heap.IsList a its.toArray)→Q (.ref s.heap.objs.size) s₂):wpAny (model X.prog X.w) A (pyIter (.ref a)) Q E s:=by
 have hne:a≠s.heap.objs.size:=by
  obtain⟨o,ho,_⟩:=hl
  exact qm (ql ho)
 refine wpAny_pyIter_list hl (h _ rfl (Walks.list hh _ a hne _) ⟨⟨_,qp _ rfl,rfl,rfl⟩,?_⟩)
 obtain⟨o,ho,r⟩:=hl
 exact⟨o,qe _ ho,r⟩
theorem Yim{pins:List (Addr × Obj)}{s:Shared}{σ:L2.St}{H:Hp}{h':Heap}{tk:Nat}{o:Obj}(I:Inv X pins σ H s)(k:∀b u,b∉[s.heap.objs.size]→(s.heap.push o).get? b=some u→h'.get? b=some u):Inv X pins σ H { s with heap:=h',toks:=tk }:=
 I.kept fun b u q=>k b u (by
  intro z
  have e:b=s.heap.objs.size:=by simpa using z
  exact absurd (ql q) (by rw[e];exact Qg _)) (qe _ q)
theorem Yot(hc:X.calm=true):Yc2 X (.builtin "any") (rBls fun bs=>.bl (bs.any id)):=by
 intro pins s σ H xs us Q I r h
 obtain⟨a,bs,rfl,hr,q⟩:=h
 obtain⟨u,rfl,ru⟩:=Yf7 r
 cases ru
 obtain⟨its,rv,pl,hz⟩:=I.list (.inl hr)
 cases Ymn rv
 refine call_any_walk (Yos (X:=X) (pins:=pins) (σ:=σ) (H:=H) (show X.A.in1.handled=none from I.ok.hd hc) pl.isList fun s₂ e W st=>?_)
 subst e
 refine⟨_,_,_,_,_,_,fun i=>bs.getD i false,rfl,W,st,Yor _ _ _ bs,fun h' tk k=>⟨.bl _,H,(show Inv X pins σ H { s with heap:=h',toks:=tk } from Yim I k),?_,q⟩⟩
 show Value.bool _=Value.bool _
 rw[qk,qf,Yvz]
theorem Ych(hc:X.calm=true):Yc2 X (.builtin "all") (rBls fun bs=>.bl (bs.all id)):=by
 intro pins s σ H xs us Q I r h
 obtain⟨a,bs,rfl,hr,q⟩:=h
 obtain⟨u,rfl,ru⟩:=Yf7 r
 cases ru
 obtain⟨its,rv,pl,hz⟩:=I.list (.inl hr)
 cases Ymn rv
 refine call_all_walk (Yos (X:=X) (pins:=pins) (σ:=σ) (H:=H) (show X.A.in1.handled=none from I.ok.hd hc) pl.isList fun s₂ e W st=>?_)
 subst e
 refine⟨_,_,_,_,_,_,fun i=>bs.getD i false,rfl,W,st,Yor _ _ _ bs,fun h' tk k=>⟨.bl _,H,(show Inv X pins σ H { s with heap:=h',toks:=tk } from Yim I k),?_,q⟩⟩
 show Value.bool _=Value.bool _
 rw[qk,qf,Yv0]
noncomputable def anyC:List D→Option D
 | [.lst l]=>(blsD l).map fun bs=>.bl (bs.any id)
 | _=>none
noncomputable def allC:List D→Option D
 | [.lst l]=>(blsD l).map fun bs=>.bl (bs.all id)
 | _=>none
theorem Yv1{g:List Bool→V}{gd:List Bool→D}{m:List D→Option D}(hm:∀ds d,m ds=some d→∃l bs,ds=[.lst l]∧blsD l=some bs∧d=gd bs)(hg:∀G bs,Rp K G (gd bs) (g bs)):SemC K (rBls g) m:=by
 intro vs ds d H G Q h s r q
 obtain⟨l,bs,rfl,h1,rfl⟩:=hm ds d h
 obtain⟨v,rfl,rv⟩:=Ybw r
 rw[Ct]at rv
 obtain⟨a,xs,rfl,g',rl⟩:=rv
 cases Yoq h1
 cases Yvy rl
 exact⟨a,bs,rfl,g',q _ H G (.refl s) (hg G bs)⟩
theorem Yv2:SemC K (rBls fun bs=>.bl (bs.any id)) anyC:=Yv1 (gd:=fun bs=>.bl (bs.any id)) (fun ds d h=>by
 unfold anyC at h
 split at h
 ·obtain⟨bs,h1,rfl⟩:=qc h
  exact⟨_,bs,rfl,h1,rfl⟩
 ·cases h) fun G bs=>by rw[Rp]
theorem Ye2:SemC K (rBls fun bs=>.bl (bs.all id)) allC:=Yv1 (gd:=fun bs=>.bl (bs.all id)) (fun ds d h=>by
 unfold allC at h
 split at h
 ·obtain⟨bs,h1,rfl⟩:=qc h
  exact⟨_,bs,rfl,h1,rfl⟩
 ·cases h) fun G bs=>by rw[Rp]
end
end
section
variable {K:W.Frag}
section
variable {prog:Program} {w:World} {A:Around} {E:Value→Shared→Prop} {s:Shared}
theorem Yhq{it t:Addr}{i:Nat}{items:Array Value}{x:Value}{Q:Value→Shared→Prop}(hit:s.heap.IsTupleIter it t i)
 (ht:s.heap.IsTuple t items) (hx:items[i]?=some x)
 (hQ:∀h',h'.IsTupleIter it t (i+1)→Heap.SameBut it s.heap h'→Q x { s with heap:=h' }) :
 wpAny (model prog w) A (Builtin.SmallTypes.nextOf (.ref it)) Q E s:=by
 obtain⟨o,ho,hc,hd⟩:=id hit
 obtain⟨ol,hol,_,nl,hdl⟩:=ht
 unfold Builtin.SmallTypes.nextOf
 refine wpAny_bind (wpAny_callSpecial?_slot (name:=Str.ofString "__next__") hit.typeIs F.slot_tuple_iterator_next
  (wpAny_call_entry F.slot_tuple_iterator_next hit.typeIs F.entry_tuple_iterator_next ?_ (F.args_tuple_iterator_next_1 _)))
 show wpAny _ _ (field (.ref it) 0 >>= _) _ _ s
 refine wpAny_bind (wpAny_field ho hd (x:=.ref t) rfl ?_)
 show wpAny _ _ (if (Value.ref t==Value.none)=true then _ else _) _ _ s
 rw[if_neg (show ¬((Value.ref t==Value.none)=true) from qi)]
 show wpAny _ _ (field (.ref it) 1 >>= _) _ _ s
 refine wpAny_bind (wpAny_field ho hd (x:=.int i 0) rfl ?_)
 show wpAny _ _ (seqItems? (.ref t) >>= _) _ _ s
 refine wpAny_bind (wpAny_seqItems hol hdl ?_)
 simp only[Int.toNat_natCast,hx]
 refine wpAny_bind (wpAny_setField ho hd (by simp) (wpAny_pure ⟨x,rfl,wpAny_pure (hQ _ ?_ (Heap.SameBut.update ..))⟩))
 exact⟨_,Heap.get?_update_self _ ho (Obj.isFreed_of_fields (Obj.data_mapFields hd _)),(Obj.cls_mapFields ..).trans hc,by
  rw[Obj.data_mapFields hd];simp[rawInt]⟩
theorem Yix{it l:Addr}{i:Nat}{items:Array Value}{Q:Value→Shared→Prop}(hh:A.handled=none)
 (hit:s.heap.IsTupleIter it l i) (hl:s.heap.IsTuple l items) (hx:items[i]?=none)
 (hE:∀h' e,Heap.ExtBut it s.heap h'→(∃o,h'.get? e=some o∧o.cls=.type "StopIteration")→E (.ref e) { s with heap:=h' }) :
 wpAny (model prog w) A (Builtin.SmallTypes.nextOf (.ref it)) Q E s:=by
 obtain⟨o,ho,hc,hd⟩:=id hit
 obtain⟨ol,hol,_,nl,hdl⟩:=hl
 unfold Builtin.SmallTypes.nextOf
 refine wpAny_bind (wpAny_callSpecial?_slot (name:=Str.ofString "__next__") hit.typeIs F.slot_tuple_iterator_next
  (wpAny_call_entry F.slot_tuple_iterator_next hit.typeIs F.entry_tuple_iterator_next ?_ (F.args_tuple_iterator_next_1 _)))
 show wpAny _ _ (field (.ref it) 0 >>= _) _ _ s
 refine wpAny_bind (wpAny_field ho hd (x:=.ref l) rfl ?_)
 show wpAny _ _ (if (Value.ref l==Value.none)=true then _ else _) _ _ s
 rw[if_neg (show ¬((Value.ref l==Value.none)=true) from qi)]
 show wpAny _ _ (field (.ref it) 1 >>= _) _ _ s
 refine wpAny_bind (wpAny_field ho hd (x:=.int i 0) rfl ?_)
 show wpAny _ _ (seqItems? (.ref l) >>= _) _ _ s
 refine wpAny_bind (wpAny_seqItems hol hdl ?_)
 simp only[Int.toNat_natCast,hx]
 refine wpAny_bind (wpAny_rule (wpAny_bind (wpAny_setField ho hd (by simp) ?_)))
 show wpAny _ _ (newExc (.type "StopIteration") [] >>= _) _ _ _
 refine wpAny_bind ?_
 simp only[newExc,newTuple]
 refine wpAny_bind (wpAny_newObj_type ?_ (by size_fits))
 refine wpAny_bind (m:=firstArgMember _ _) (wpAny_of_eq (a:=Value.none) (by first | rfl | (simp only[firstArgMember];rfl)) ?_)
 refine wpAny_newObj_type ?_ (by size_fits)
 simp only[raiseNew]
 refine wpAny_bind (wpAny_handled ?_)
 first | rw[show A.in1.handled=none from hh] | rw[hh]
 refine wpAny_bind (wpAny_pure (wpAny_throw ?_))
 exact hE _ _ (((Heap.SameBut.update ..).extBut.push _).push _) ⟨_,qp _ rfl,rfl⟩
theorem Yjo{e it l:Addr}{i:Nat}{items:Array Value}{x old:Value}{Q:Value→Shared→Prop}
 (he:IsEnum s.heap e it i old) (hit:s.heap.IsTupleIter it l i) (hl:s.heap.IsTuple l items) (hx:items[i]?=some x) (hne:e≠it)
 (hQ:∀h',IsEnumOut h' e it ((i:Int)+1) x s.heap.objs.size→h'.IsTupleIter it l (i+1)→
  h'.get? s.heap.objs.size=some { cls:=.type "tuple",data:=.seq #[.int i s.toks,x] }→h'.objs.size=s.heap.objs.size+1→
  (∀b o,b≠e→b≠it→s.heap.get? b=some o→h'.get? b=some o)→Q (.ref s.heap.objs.size) { s with heap:=h',toks:=s.toks+1 }) :
 wpAny (model prog w) A (Builtin.«enumerate.__next__» ⟨[.ref e],[]⟩) (fun fin s'=>∃v,fin=.done (.ret v)∧Q v s') E s:=by
 obtain⟨hp,g,d,tk,os⟩:=s
 show wpAny _ _ (field (.ref e) 2 >>= _) _ _ _
 refine wpAny_bind (wpAny_field he rfl (x:=.ref it) rfl ?_)
 refine wpAny_bind (Yhq hit hl hx fun h₁ hit₁ hs₁=>?_)
 replace hs₁:Heap.SameBut it hp h₁:=hs₁
 have he₁:IsEnum h₁ e it i old:=(hs₁.2 e hne).trans he
 show wpAny _ _ (field (.ref e) 3 >>= _) _ _ ⟨h₁,g,d,tk,os⟩
 refine wpAny_bind (wpAny_field he₁ rfl (x:=rawInt i) rfl ?_)
 show wpAny _ _ (field (.ref e) 4 >>= _) _ _ ⟨h₁,g,d,tk,os⟩
 refine wpAny_bind (wpAny_field he₁ rfl (x:=.none) rfl ?_)
 show wpAny _ _ (mkInt i >>= _) _ _ ⟨h₁,g,d,tk,os⟩
 refine wpAny_bind (wpAny_mkInt ?_)
 show wpAny _ _ (setField (.ref e) 3 (rawInt ((i:Int)+1)) >>= _) _ _ ⟨h₁,g,d,tk+1,os⟩
 refine wpAny_bind (wpAny_setField_rec he₁ (by simp) fun h₂ he₂ hs₂=>?_)
 replace hs₂:Heap.SameBut e h₁ h₂:=hs₂
 replace he₂:IsEnum h₂ e it ((i:Int)+1) old:=he₂
 show wpAny _ _ (setField (.ref e) 4 .none >>= _) _ _ ⟨h₂,g,d,tk+1,os⟩
 refine wpAny_bind (wpAny_setField_rec he₂ (by simp) fun h₃ he₃ hs₃=>?_)
 replace hs₃:Heap.SameBut e h₂ h₃:=hs₃
 replace he₃:IsEnum h₃ e it ((i:Int)+1) old:=he₃
 show wpAny _ _ (newTuple [.int i tk,x] >>= _) _ _ ⟨h₃,g,d,tk+1,os⟩
 refine wpAny_bind (wpAny_newTuple ?_)
 have he₄:IsEnum (h₃.push { cls:=.type "tuple",data:=.seq #[.int i tk,x] }) e it ((i:Int)+1) old:=qe _ he₃
 generalize hh₄:h₃.push { cls:=.type "tuple",data:=.seq #[.int i tk,x] }=h₄ at he₄
 have hsz:h₃.objs.size=hp.objs.size:=by rw[hs₃.1,hs₂.1,hs₁.1]
 have hel:e < hp.objs.size:=ql he
 have ht₄:h₄.get? hp.objs.size=some { cls:=.type "tuple",data:=.seq #[.int i tk,x] }:=by rw[←hh₄,←hsz];exact qp _ rfl
 have hz₄:h₄.objs.size=hp.objs.size+1:=by rw[←hh₄,Heap.size_push,hsz]
 have hk₄:∀b o,b≠e→b≠it→hp.get? b=some o→h₄.get? b=some o:=fun b o hbe hbi hb=>by
  rw[←hh₄];exact qe _ (hs₃.extBut b o hbe (hs₂.extBut b o hbe (hs₁.extBut b o hbi hb)))
 have hit₄:h₄.IsTupleIter it l (i+1):=by
  rw[←hh₄];obtain⟨o,ho,r⟩:=(hit₁.at fun o q=>hs₃.extBut it o (Ne.symm hne) (hs₂.extBut it o (Ne.symm hne) q));exact⟨o,qe _ ho,r⟩
 show wpAny _ _ (Builtin.SmallTypes.ownedTupleIsFree (.ref e) >>= _) _ _ ⟨h₄,g,d,tk+1,os⟩
 rw[hsz]
 clear hh₄ he₃ hs₃ he₂ hs₂ he₁ hs₁ hit₁ hsz h₃ h₂ h₁
 refine wpAny_bind ?_
 ·unfold Builtin.SmallTypes.ownedTupleIsFree
  refine wpAny_bind (wpAny_field he₄ rfl (x:=.none) rfl (wpAny_pure ?_))
  simp only[if_true]
  refine wpAny_bind (wpAny_rule ?_)
  refine wpAny_bind (wpAny_field he₄ rfl (x:=old) rfl ?_)
  refine wpAny_bind (wpAny_setField_rec he₄ (by simp) fun h₅ he₅ hs₅=>?_)
  replace hs₅:Heap.SameBut e h₄ h₅:=hs₅
  replace he₅:IsEnum h₅ e it ((i:Int)+1) x:=he₅
  show wpAny _ _ (Builtin.SmallTypes.ownedTupleHandOut (.ref e) (.ref hp.objs.size) >>= _) _ _ ⟨h₅,g,d,tk+1,os⟩
  refine wpAny_bind ?_
  ·unfold Builtin.SmallTypes.ownedTupleHandOut
   refine wpAny_bind (wpAny_setField_rec he₅ (by simp) fun h₆ he₆ hs₆=>?_)
   replace hs₆:Heap.SameBut e h₅ h₆:=hs₆
   replace he₆:IsEnumOut h₆ e it ((i:Int)+1) x hp.objs.size:=he₆
   refine wpAny_setField_rec he₆ (by simp) fun h₇ he₇ hs₇=>?_
   replace hs₇:Heap.SameBut e h₆ h₇:=hs₇
   replace he₇:IsEnumOut h₇ e it ((i:Int)+1) x hp.objs.size:=he₇
   refine wpAny_bind (wpAny_letGo (wpAny_pure ⟨_,rfl,hQ h₇ he₇ ?_ ?_ ?_ ?_⟩))
   ·exact hit₄.at fun o q=>hs₇.extBut it o (Ne.symm hne) (hs₆.extBut it o (Ne.symm hne) (hs₅.extBut it o (Ne.symm hne) q))
   ·exact hs₇.extBut _ _ (Nat.ne_of_gt hel) (hs₆.extBut _ _ (Nat.ne_of_gt hel) (hs₅.extBut _ _ (Nat.ne_of_gt hel) ht₄))
   ·rw[hs₇.1,hs₆.1,hs₅.1,hz₄]
   ·exact fun b o hbe hbi hb=>hs₇.extBut b o hbe (hs₆.extBut b o hbe (hs₅.extBut b o hbe (hk₄ b o hbe hbi hb)))
theorem Yhr{e it l:Addr}{i:Nat}{items:Array Value}{x old:Value}{Q:Option Value→Shared→Prop}
 (he:IsEnum s.heap e it i old) (hit:s.heap.IsTupleIter it l i) (hl:s.heap.IsTuple l items) (hx:items[i]?=some x) (hne:e≠it)
 (hQ:∀h',IsEnumOut h' e it ((i:Int)+1) x s.heap.objs.size→h'.IsTupleIter it l (i+1)→
  h'.get? s.heap.objs.size=some { cls:=.type "tuple",data:=.seq #[.int i s.toks,x] }→h'.objs.size=s.heap.objs.size+1→
  (∀b o,b≠e→b≠it→s.heap.get? b=some o→h'.get? b=some o)→Q (some (.ref s.heap.objs.size)) { s with heap:=h',toks:=s.toks+1 }) :
 wpAny (model prog w) A (pyNext (.ref e)) Q E s:=by
 have hT:s.TypeIs (.ref e) "enumerate":=⟨_,he,rfl⟩
 unfold pyNext
 exact wpAny_bind (wpAny_attempt (wpAny_callSpecial?_slot (name:=Str.ofString "__next__") hT F.slot_enumerate_next
  (wpAny_call_entry F.slot_enumerate_next hT F.entry_enumerate_next
   (Yjo he hit hl hx hne fun h' a b c d k=>wpAny_pure (hQ h' a b c d k)) (F.args_enumerate_next_1 _))))
theorem Yiy{e it l:Addr}{i:Nat}{items:Array Value}{old:Value}{Q:Option Value→Shared→Prop}(hh:A.handled=none)
 (he:IsEnum s.heap e it i old) (hit:s.heap.IsTupleIter it l i) (hl:s.heap.IsTuple l items) (hx:items[i]?=none)
 (hQ:∀h',Heap.ExtBut it s.heap h'→Q none { s with heap:=h' }):wpAny (model prog w) A (pyNext (.ref e)) Q E s:=by
 have hT:s.TypeIs (.ref e) "enumerate":=⟨_,he,rfl⟩
 unfold pyNext
 refine wpAny_bind (wpAny_attempt (wpAny_callSpecial?_slot (name:=Str.ofString "__next__") hT F.slot_enumerate_next
  (wpAny_call_entry F.slot_enumerate_next hT F.entry_enumerate_next ?_ (F.args_enumerate_next_1 _))))
 show wpAny _ _ (field (.ref e) 2 >>= _) _ _ _
 refine wpAny_bind (wpAny_field he rfl (x:=.ref it) rfl ?_)
 refine wpAny_bind (Yix hh hit hl hx fun h' x he' hx'=>?_)
 obtain⟨o,ho,hc⟩:=hx'
 refine wpAny_bind (wpAny_isInstance (T:="StopIteration") (b:=true) ⟨o,ho,hc⟩ isSubtype_stop ?_)
 exact wpAny_pure (hQ _ he')
theorem Yjp(l:Addr)(items:Array Value)(n:Nat)(dct:Option Addr)(sl:Array (Option Value)) :
 Meets (Builtin.«enumerate.__new__» ⟨[.type "enumerate",.ref l],[]⟩) (fun _ R s=>s.heap.get? l=some { cls:=.type "tuple",dict:=dct,data:=.seq items n,slots:=sl }∧
  R (.ok (.ret (.ref (s.heap.push { cls:=.type "tuple_iterator",data:=.fields #[.ref l,.int 0 0] }).objs.size)))
   { s with heap:=(s.heap.push { cls:=.type "tuple_iterator",data:=.fields #[.ref l,.int 0 0] }).push { cls:=.type "enumerate",data:=.fields #[.none,.bool false,.ref s.heap.objs.size,rawInt 0,.none,.none] } }):=
 .of_wp fun prog w A R s h=>by
  obtain⟨hp,g,d,tk,os⟩:=s;obtain⟨hl,h⟩:=h
  have hsub:=sub_enumerate
  have hL:Heap.IsTuple (Shared.heap ⟨hp,g,d,tk,os⟩) l items:=⟨_,hl,rfl,n,rfl⟩
  wp_walk using PySem.AutoSeq1.wpAny_loadPart' hl
  refine wpAny_stack_any fun st=>wpAny_pure ?_
  split
  ·rename_i c _ _ _ _ _
   cases (c==Value.type "enumerate")
   ·wp_walk using PySem.AutoSeq1.wpAny_loadPart' hl,wpAny_pyIter_tuple hL
    exact⟨_,rfl,h⟩
   ·wp_walk using PySem.AutoSeq1.wpAny_loadPart' hl,wpAny_pyIter_tuple hL
    exact⟨_,rfl,h⟩
  ·wp_walk using PySem.AutoSeq1.wpAny_loadPart' hl,wpAny_pyIter_tuple hL
   exact⟨_,rfl,h⟩
theorem Yfz{l:Addr}{items:Array Value}{Q:Value→Shared→Prop}(hL:s.heap.IsTuple l items)
 (h:∀h',IsEnum h' (s.heap.objs.size+1) s.heap.objs.size 0 .none→h'.IsTupleIter s.heap.objs.size l 0→h'.objs.size=s.heap.objs.size+2→
  (∀b o,s.heap.get? b=some o→h'.get? b=some o)→Q (.ref (s.heap.objs.size+1)) { s with heap:=h' }) :
 wpAny (model prog w) A (call (.type "enumerate") [.ref l]) Q E s:=by
 obtain⟨⟨c,dct,dt,sl⟩,hl,hc,n,hd⟩:=hL
 replace hc:c=.type "tuple":=hc
 replace hd:dt=.seq items n:=hd
 subst hc hd
 refine callType_new F.called_enumerate (by decide) (F.typeCall_enumerate_1 _) (F.newCall_enumerate_1 _) (fun obj=>F.args_object_init_2 obj _) F.entry_enumerate_new
  (Yjp l items n dct sl) ⟨hl,?_⟩
 have hz:(s.heap.push { cls:=.type "tuple_iterator",data:=.fields #[.ref l,.int 0 0] }).objs.size=s.heap.objs.size+1:=Heap.size_push ..
 show _∧_
 rw[hz]
 have he:IsEnum ((s.heap.push { cls:=.type "tuple_iterator",data:=.fields #[.ref l,.int 0 0] }).push
  { cls:=.type "enumerate",data:=.fields #[.none,.bool false,.ref s.heap.objs.size,rawInt 0,.none,.none] }) (s.heap.objs.size+1) s.heap.objs.size 0 .none:=by
  have:=qp (s.heap.push { cls:=.type "tuple_iterator",data:=.fields #[.ref l,.int 0 0] })
   (o:={ cls:=.type "enumerate",data:=.fields #[.none,.bool false,.ref s.heap.objs.size,rawInt 0,.none,.none] }) rfl
  rw[hz]at this;exact this
 refine⟨⟨_,he,rfl⟩,h _ he ⟨_,qe _ (qp _ rfl),rfl,rfl⟩ (by rw[Heap.size_push,hz]) fun b o x=>qe _ (qe _ x)⟩
end
theorem Yg1{X:Cx}{pins:List (Addr × Obj)}{σ:L2.St}{H:Hp}{s:Shared}{h':Heap}{t':Nat}{ch:List Addr}{T:Addr}{o:HO}(I:Inv X pins σ H s)(hf:∀b∈ch,FpOk X pins H b)
 (k:∀b u,b∉ch→s.heap.get? b=some u→h'.get? b=some u) (hT:s.heap.objs.size≤T) (new:ObjOk X.prog X.w (upd H T o) h' T o):Inv X pins σ (upd H T o) { s with heap:=h',toks:=t' }:=by
 have fr:H T=none:=I.hok.fresh hT
 have nch:∀b u,H b=some u→b∉ch:=fun b u e z=>by rw[(hf b z).1]at e;cases e
 refine I.step (g':=s.gens) (d':=s.drawn) (ch:=ch) (fun b hb=>?_) (fun b u _ _ hc e _=>k b u hc e) (fun b u _ _ hc e _=>⟨u.slots,k b u hc e⟩) (fun b u _ e n=>?_)
  (fun b u hc e=>⟨u,k b u hc e⟩) (fun b xs e=>?_) (fun b u xs e=>?_) (fun b ps e=>⟨#[],?_⟩) (fun m hm=>?_) (fun b u e=>?_) I.bare
 ·obtain⟨_,f1,_,f3,f4,f5⟩:=hf b hb
  exact⟨f3,f1,f4,f5⟩
 ·rw[Yz (qm (Qh (ql e) hT))];exact n
 ·rw[Yz (Yy e fr)];exact e
 ·rw[Yz (Yy e fr)];exact e
 ·rw[Yz (Yy e fr),e];simp
 ·obtain⟨ob,es,ep,ho,r⟩:=hm
  exact⟨ob,es,ep,k _ ob (fun z=>(hf _ z).2.1 rfl) ho,r⟩
 ·by_cases hb:b=T
  ·subst hb;rw[Yv]at e;cases e;exact new
  ·rw[Yz hb]at e
   refine(I.hok b u e).stay (fun c v hc q=>k c v ?_ q) (fun c q=>by rw[Yz (Yy q fr)];exact q) fun c xs q=>by rw[Yz (Yy q fr)];exact q
   rcases hc with z | z
   ·rw[z];exact nch b u e
   ·exact nch c _ z
noncomputable def IteL(K:W.Frag)(a:Addr):It:=
 ⟨fun i H=>∃xs x,SqL K H a xs∧xs[i]?=some x,fun i H x H'=>∃y p,(∀xs,SqL K H a xs→xs[i]?=some y)∧H p=none∧x=.ref p∧H'=upd H p (.tup [.int i,y]),fun i H=>∃xs,SqL K H a xs∧xs.length≤i⟩
noncomputable def IteT(K:W.Frag)(a:Addr):It:=
 ⟨fun i H=>∃xs x,SqT K H a xs∧xs[i]?=some x,fun i H x H'=>∃y p,(∀xs,SqT K H a xs→xs[i]?=some y)∧H p=none∧x=.ref p∧H'=upd H p (.tup [.int i,y]),fun i H=>∃xs,SqT K H a xs∧xs.length≤i⟩
section
variable {elts:List Expr} {x1:Nat} {pt:Pos}
theorem Yto{P:Program}{w:World}(a it e:Addr)(hei:e≠it):Turn P w K (.Tuple elts x1 pt) (IteL K a) [e,it] e (fun i h=>(∃old,IsEnum h e it i old)∧h.IsListIter it a i) where
 mem:=by simp
 obj:=fun i h st b hb=>by
  obtain⟨⟨old,he⟩,hit⟩:=st
  rcases qt hb with rfl | hb
  ·exact⟨_,he,fun v z=>by cases z⟩
  ·have z:b=it:=by simpa using hb
   subst z
   obtain⟨o,q,c,d⟩:=hit
   exact⟨o,q,fun v z=>by rw[d]at z;cases z⟩
 keep:=fun i h h' st k=>by
  obtain⟨⟨old,he⟩,hit⟩:=st
  exact⟨⟨old,k e (by simp) _ he⟩,hit.at fun o q=>k it (by simp) o q⟩
 item:=by
  intro X hP hw hK hc i pins s σ H E I hf st hg
  subst hP hw hK
  obtain⟨xs,x,hq,hx⟩:=hg
  obtain⟨its,rv,p,hz⟩:=I.list hq
  obtain⟨u,hu,ru⟩:=rv.get hx
  obtain⟨⟨old,he⟩,hit⟩:=st
  refine wpAny_pyNext_enum_item he hit p.isList (x:=u) (by simpa using hu) hei fun h' ho hit' hT hsz hk=>?_
  refine⟨_,rfl,wpAny_letOwnedTupleGo_enum ho fun h2 he2 hs2=>?_⟩
  have fr:H s.heap.objs.size=none:=I.fresh
  have hne:∀b∈[e,it],b≠s.heap.objs.size:=fun b hb z=>by
   rcases qt hb with rfl | hb
   ·exact absurd (ql he) (by rw[z];exact Qg _)
   ·have z2:b=it:=by simpa using hb
    subst z2
    obtain⟨o,q,_⟩:=hit
    exact absurd (ql q) (by rw[z];exact Qg _)
  have kk:∀b o,b∉[e,it]→s.heap.get? b=some o→h2.get? b=some o:=fun b o hb q=>by
   have h1:b≠e:=fun z=>hb (by simp[z])
   have h3:b≠it:=fun z=>hb (by simp[z])
   exact(hs2.2 b h1).trans (hk b o h1 h3 q)
  have tT:h2.get? s.heap.objs.size=some { cls:=.type "tuple",data:=.seq #[.int i s.toks,u] }:=(hs2.2 _ (Ne.symm (hne e (by simp)))).trans hT
  refine⟨.ref s.heap.objs.size,upd H s.heap.objs.size (.tup [.int i,x]),(show Inv X pins σ _ { s with heap:=h2,toks:=s.toks+1 } from Yg1 (s:=s) (t':=s.toks+1) I hf kk (qu _) ?_),rfl,⟨x,s.heap.objs.size,fun ys hy=>by rw[I.list_inj hy hq];exact hx,fr,rfl,rfl⟩,⟨⟨_,by simpa using he2⟩,hit'.at fun o q=>(hs2.2 it (Ne.symm hei)).trans q⟩,fun b hb=>?_⟩
  ·exact⟨by rw[sizeLine_eq];show 2≤16777216;decide,[.int i s.toks,u],.cons ⟨_,rfl⟩ (.cons ru .nil),_,tT,rfl,0,rfl⟩
  ·rw[Yz (hne b hb)];exact(hf b hb).1
 done:=by
  intro X hP hw hK hc i pins s σ H E I hf st hg
  subst hP hw hK
  obtain⟨xs,hq,hx⟩:=hg
  obtain⟨its,rv,p,hz⟩:=I.list hq
  obtain⟨⟨old,he⟩,hit⟩:=st
  obtain⟨f0,f1,f2,f3,f4,f5⟩:=hf it (by simp)
  have hl:=rv.length
  exact wpAny_pyNext_enum_end (I.ok.hd hc) he hit p.isList (by simp;lia) fun h' eb=>⟨rfl,I.turned (t':=s.toks) (fun b o hb e=>eb b o hb e) f0 f1 f3 f4 f5⟩
 self:=fun _ _ _ _ _ st h=>let ⟨⟨_,he⟩,_⟩:=st;wpAny_pyIter_enum he h
theorem Ytp{P:Program}{w:World}(a it e:Addr)(hei:e≠it):Turn P w K (.Tuple elts x1 pt) (IteT K a) [e,it] e (fun i h=>(∃old,IsEnum h e it i old)∧h.IsTupleIter it a i) where
 mem:=by simp
 obj:=fun i h st b hb=>by
  obtain⟨⟨old,he⟩,hit⟩:=st
  rcases qt hb with rfl | hb
  ·exact⟨_,he,fun v z=>by cases z⟩
  ·have z:b=it:=by simpa using hb
   subst z
   obtain⟨o,q,c,d⟩:=hit
   exact⟨o,q,fun v z=>by rw[d]at z;cases z⟩
 keep:=fun i h h' st k=>by
  obtain⟨⟨old,he⟩,hit⟩:=st
  exact⟨⟨old,k e (by simp) _ he⟩,hit.at fun o q=>k it (by simp) o q⟩
 item:=by
  intro X hP hw hK hc i pins s σ H E I hf st hg
  subst hP hw hK
  obtain⟨xs,x,hq,hx⟩:=hg
  obtain⟨its,rv,p,hz⟩:=I.tuple hq
  obtain⟨u,hu,ru⟩:=rv.get hx
  obtain⟨⟨old,he⟩,hit⟩:=st
  refine Yhr he hit (show s.heap.IsTuple a its.toArray from p) (x:=u) (by simpa using hu) hei fun h' ho hit' hT hsz hk=>?_
  refine⟨_,rfl,wpAny_letOwnedTupleGo_enum ho fun h2 he2 hs2=>?_⟩
  have fr:H s.heap.objs.size=none:=I.fresh
  have hne:∀b∈[e,it],b≠s.heap.objs.size:=fun b hb z=>by
   rcases qt hb with rfl | hb
   ·exact absurd (ql he) (by rw[z];exact Qg _)
   ·have z2:b=it:=by simpa using hb
    subst z2
    obtain⟨o,q,_⟩:=hit
    exact absurd (ql q) (by rw[z];exact Qg _)
  have kk:∀b o,b∉[e,it]→s.heap.get? b=some o→h2.get? b=some o:=fun b o hb q=>by
   have h1:b≠e:=fun z=>hb (by simp[z])
   have h3:b≠it:=fun z=>hb (by simp[z])
   exact(hs2.2 b h1).trans (hk b o h1 h3 q)
  have tT:h2.get? s.heap.objs.size=some { cls:=.type "tuple",data:=.seq #[.int i s.toks,u] }:=(hs2.2 _ (Ne.symm (hne e (by simp)))).trans hT
  refine⟨.ref s.heap.objs.size,upd H s.heap.objs.size (.tup [.int i,x]),(show Inv X pins σ _ { s with heap:=h2,toks:=s.toks+1 } from Yg1 (s:=s) (t':=s.toks+1) I hf kk (qu _) ?_),rfl,⟨x,s.heap.objs.size,fun ys hy=>by rw[I.tuple_inj hy hq];exact hx,fr,rfl,rfl⟩,⟨⟨_,by simpa using he2⟩,hit'.at fun o q=>(hs2.2 it (Ne.symm hei)).trans q⟩,fun b hb=>?_⟩
  ·exact⟨by rw[sizeLine_eq];show 2≤16777216;decide,[.int i s.toks,u],.cons ⟨_,rfl⟩ (.cons ru .nil),_,tT,rfl,0,rfl⟩
  ·rw[Yz (hne b hb)];exact(hf b hb).1
 done:=by
  intro X hP hw hK hc i pins s σ H E I hf st hg
  subst hP hw hK
  obtain⟨xs,hq,hx⟩:=hg
  obtain⟨its,rv,p,hz⟩:=I.tuple hq
  obtain⟨⟨old,he⟩,hit⟩:=st
  obtain⟨f0,f1,f2,f3,f4,f5⟩:=hf it (by simp)
  have hl:=rv.length
  exact Yiy (I.ok.hd hc) he hit (show s.heap.IsTuple a its.toArray from p) (by simp;lia) fun h' eb=>⟨rfl,I.turned (t':=s.toks) (fun b o hb e=>eb b o hb e) f0 f1 f3 f4 f5⟩
 self:=fun _ _ _ _ _ st h=>let ⟨⟨_,he⟩,_⟩:=st;wpAny_pyIter_enum he h
variable {X:Cx} {pos:Pos}
noncomputable def y8e(K:W.Frag)(ta:TA):TI:=fun σ H R=>ta σ H fun vs H1=>∃a xs,vs=[.ref a]∧((SqL K H1 a xs∧(xs.length≤sizeLine→R (IteL K a) H1))∨(SqT K H1 a xs∧(xs.length≤sizeLine→R (IteT K a) H1)))
theorem y17{l:Expr}{ta:TA}{p:Pos}(hg:Gl X "enumerate")(hm:X.mg "enumerate"=none)(ha:PA X [l] ta)(hs:starEach [l] X.env=[(false,eval l X.env)]:=by rfl):PI X (.Tuple elts x1 pt) (.Call (.Name "enumerate" p) [l] [] pos) (y8e X.K ta):=by
 intro pins s σ H R I h
 refine Call_ (Yij I hg hm boot_enumerate (PyProof.Rows.callWith_type1 (thn (ha pos pins s σ H _ I h) fun us s1 hx_=>?_) hs rfl))
 obtain⟨vs,H1,I1,r1,q1⟩:=hx_
 obtain⟨a,xs,rfl,q⟩:=q1
 obtain⟨u,rfl,ru⟩:=Yf7 r1
 cases ru
 have fin:∀(h':Heap),h'.objs.size=s1.heap.objs.size+2→(∀b o,s1.heap.get? b=some o→h'.get? b=some o)→∀b∈[s1.heap.objs.size+1,s1.heap.objs.size],FpOk X pins H1 b:=fun h' hz hk b hb=>by
  have hb':s1.heap.objs.size≤b:=by
   rcases qt hb with rfl | hb
   ·exact Nat.le_succ _
   ·have:b=s1.heap.objs.size:=by simpa using hb
    lia
  exact I1.fpOk hb' (I1.hok.fresh hb')
 rcases q with⟨hq,q⟩ | ⟨hq,q⟩
 ·obtain⟨its,rv,pl,hz⟩:=I1.list hq
  refine call_enumerate_list pl.isList fun h' he hit hsz hk=>wpAny_pyIter_enum (s:={ s1 with heap:=h' }) he ?_
  exact⟨_,[s1.heap.objs.size+1,s1.heap.objs.size],_,_,H1,rfl,I1.kept (t':=s1.toks) hk,Yto a s1.heap.objs.size _ (Nat.succ_ne_self _),⟨⟨_,he⟩,hit⟩,fin h' hsz hk,q hz⟩
 ·obtain⟨its,rv,pl,hz⟩:=I1.tuple hq
  refine Yfz (show s1.heap.IsTuple a its.toArray from pl) fun h' he hit hsz hk=>wpAny_pyIter_enum (s:={ s1 with heap:=h' }) he ?_
  exact⟨_,[s1.heap.objs.size+1,s1.heap.objs.size],_,_,H1,rfl,I1.kept (t':=s1.toks) hk,Ytp a s1.heap.objs.size _ (Nat.succ_ne_self _),⟨⟨_,he⟩,hit⟩,fin h' hsz hk,q hz⟩
noncomputable def Ymo(l:List D):List D:=(List.range l.length).map fun i:Nat=>.tup [.int (i:Int),l.getD i .non]
noncomputable def Yv3(c:D):Option (List D):=(Yn c).map Ymo
theorem Yjq{l:List D}{i:Nat}{d:D}(h:(Ymo l)[i]?=some d):∃e,l[i]?=some e∧d=.tup [.int i,e]:=by
 unfold Ymo at h
 rw[Qk]at h
 obtain⟨j,h1,rfl⟩:=qc h
 have hj:i < l.length:=by
  have:=(qo h1).1
  simpa using this
 rw[List.getElem?_range hj]at h1
 cases h1
 exact⟨l[i],qq hj,by simp[hj]⟩
theorem Ybq(l:List D):(Ymo l).length=l.length:=by simp[Ymo]
theorem Gr.newTup{H G:Hp}{d:D}{x:V}(s:Same G H){p:Addr}(hp:H p=none)(i:Nat)(r:Rp K G d x):∃G3,Gr H G (upd H p (.tup [.int i,x])) G3∧Rp K G3 (.tup [.int i,d]) (.ref p):=by
 refine⟨_,Gr.new s hp (.tup [.int i,x]),?_⟩
 rw[Rp]
 exact⟨p,_,rfl,Yv,.cons (by rw[Rp]) (.one (r.mono (Gr.new s hp _).g))⟩
theorem You{l:Expr}{f:Ro→Option D}{p:Pos}(hg:Gl X "enumerate")(hm:X.mg "enumerate"=none)(hl:ME X l f)(hs:starEach [l] X.env=[(false,eval l X.env)]:=by rfl) :
 MI X (.Tuple elts x1 pt) (.Call (.Name "enumerate" p) [l] [] pos) (b1 f Yv3):=
 PI.imp (y17 hg hm (Yqq hl Yvl hs) hs) fun σ H R hx_=>by
  obtain⟨ρ,ds,H0,G0,G,e,s,h⟩:=hx_
  obtain⟨c,h1,h2⟩:=Ybv e
  obtain⟨l,h3,rfl⟩:=qc h2
  refine tAof.at (show Yh f aNil ρ=some [c] by simp[Yh,aNil,h1]) s fun vs H1 G1 g1 r1 s1=>?_
  obtain⟨v,rfl,rv⟩:=Ygd r1
  rcases Yap h3 with rfl | rfl | ⟨ns,rfl,rfl⟩
  ·rw[Rp]at rv
   obtain⟨p,xs,rfl,g,rl⟩:=rv
   refine⟨p,xs,rfl,.inr ⟨.inl (.inl (s1.seen _ _ g)),fun hz=>h _ H1 G1 g1 ⟨by rw[Ybq,←rl.length];exact hz,fun i H2 G2 e1 e2=>⟨fun d hd=>?_,fun hi=>⟨xs,.inl (.inl (e2 _ _ (e1 _ _ g))),by rw[rl.length,←Ybq l];exact hi⟩⟩⟩⟩⟩
   obtain⟨d',hd',rfl⟩:=Yjq hd
   obtain⟨x,hx,rx⟩:=rl.get hd'
   refine⟨⟨xs,x,.inl (.inl (e2 _ _ (e1 _ _ g))),hx⟩,fun y H3 q=>?_⟩
   obtain⟨y',q',a1,a2,rfl,rfl⟩:=q
   have:=a1 xs (.inl (.inl (e2 _ _ (e1 _ _ g))))
   rw[hx]at this
   cases this
   exact Gr.newTup e2 a2 i (rx.mono e1)
  ·rw[Rp]at rv
   obtain⟨p,xs,rfl,g,rl⟩:=rv
   refine⟨p,xs,rfl,.inl ⟨.inl (Ybc s1.seen g),fun hz=>h _ H1 G1 g1 ⟨by rw[Ybq,←rl.length];exact hz,fun i H2 G2 e1 e2=>⟨fun d hd=>?_,fun hi=>⟨xs,.inl (Ybc e2 (Ybc e1 g)),by rw[rl.length,←Ybq l];exact hi⟩⟩⟩⟩⟩
   obtain⟨d',hd',rfl⟩:=Yjq hd
   obtain⟨x,hx,rx⟩:=rl.get hd'
   refine⟨⟨xs,x,.inl (Ybc e2 (Ybc e1 g)),hx⟩,fun y H3 q=>?_⟩
   obtain⟨y',q',a1,a2,rfl,rfl⟩:=q
   have:=a1 xs (.inl (Ybc e2 (Ybc e1 g)))
   rw[hx]at this
   cases this
   exact Gr.newTup e2 a2 i (rx.mono e1)
  ·rw[Rp]at rv
   obtain⟨p,rfl,g⟩:=rv
   have rl:RpL X.K G1 (ns.map D.int) (ns.map V.int):=.ints ns
   refine⟨p,_,rfl,.inl ⟨s1.seen.seq g,fun hz=>h _ H1 G1 g1 ⟨by rw[Ybq,←rl.length];exact hz,fun i H2 G2 e1 e2=>⟨fun d hd=>?_,fun hi=>⟨_,e2.seq (e1.seq g),by rw[rl.length,←Ybq];exact hi⟩⟩⟩⟩⟩
   obtain⟨d',hd',rfl⟩:=Yjq hd
   obtain⟨x,hx,rx⟩:=rl.get hd'
   refine⟨⟨_,x,e2.seq (e1.seq g),hx⟩,fun y H3 q=>?_⟩
   obtain⟨y',q',a1,a2,rfl,rfl⟩:=q
   have:=a1 _ (e2.seq (e1.seq g))
   rw[hx]at this
   cases this
   exact Gr.newTup e2 a2 i (rx.mono e1)
end
end
section
variable {K:W.Frag}
noncomputable def Ya0{α β:Type} [DecidableEq α]:List α→List β→α→Option β
 | k::ks,v::vs,x=>if k=x then some v else Ya0 ks vs x
 | _,_,_=>none
theorem Ymp{α:Type} [DecidableEq α] {G:Hp} (x:α):∀{ks:List α} {vs:List D} {vxs:List V},RpL K G vs vxs→(∀d,Ya0 ks vs x=some d→∃v,Ya0 ks vxs x=some v∧Rp K G d v)∧(Ya0 ks vs x=none→Ya0 ks vxs x=none)
 | [],_,_,_=>⟨fun d h=>by simp[Ya0]at h,fun _=>by simp[Ya0]⟩
 | k::ks,[],_,r=>by
   rw[RpL]at r;subst r
   exact⟨fun d h=>by simp[Ya0]at h,fun _=>by simp[Ya0]⟩
 | k::ks,d::vs,_,r=>by
   rw[RpL]at r
   obtain⟨y,r',rfl,r1,r2⟩:=r
   by_cases e:k=x
   ·simp only[Ya0,if_pos e]
    exact⟨fun d' h=>⟨y,rfl,by cases h;exact r1⟩,fun h=>by cases h⟩
   ·simp only[Ya0,if_neg e]
    exact Ymp x r2
noncomputable def setK{α β:Type} [DecidableEq α]:List α→List β→α→β→List β
 | k::ks,v::vs,x,y=>if k=x then y::vs else v::setK ks vs x y
 | _,vs,_,_=>vs
theorem Ygf{α β:Type} [DecidableEq α] (x:α) (y:β):∀(ks:List α) (vs:List β),(setK ks vs x y).length=vs.length
 | [],vs=>by cases vs<;>simp[setK]
 | k::ks,[]=>by simp[setK]
 | k::ks,v::vs=>by
   simp only[setK]
   split
   ·simp
   ·simp[Ygf x y ks vs]
theorem Yqs{α:Type} [DecidableEq α] {G:Hp} (x:α) {d:D} {y:V} (ry:Rp K G d y):∀{ks:List α} {vs:List D} {vxs:List V},RpL K G vs vxs→RpL K G (setK ks vs x d) (setK ks vxs x y)
 | [],[],_,r=>by simpa [setK]using r
 | [],_::_,_,r=>by
   rw[RpL]at r
   obtain⟨z,r',rfl,r1,r2⟩:=r
   simp only[setK]
   exact .cons r1 r2
 | k::ks,[],_,r=>by
   rw[RpL]at r;subst r
   simp[setK];exact .nil
 | k::ks,e::vs,_,r=>by
   rw[RpL]at r
   obtain⟨z,r',rfl,r1,r2⟩:=r
   simp only[setK]
   split
   ·exact .cons ry r2
   ·exact .cons r1 (Yqs x ry r2)
theorem Yhs{α β:Type} [DecidableEq α] {x:α}:∀{ks:List α} {vs:List β},vs.length=ks.length→(Ya0 ks vs x=none↔x∉ks)
 | [],_,_=>by simp[Ya0]
 | k::ks,[],h=>by simp at h
 | k::ks,v::vs,h=>by
   by_cases e:k=x
   ·simp[Ya0,e]
   ·have e':¬x=k:=fun z=>e z.symm
    simp only[Ya0,e,if_false,List.mem_cons,e',false_or]
    exact Yhs (by simpa using h)
end
section
open Sem (wp)
variable {K:W.Frag}
theorem Yv4{items acc:Array Value}(h:ItemsOf (fun i v=>items[items.size - 1 - i]?=some v) acc items.size):acc.toList=items.toList.reverse:=by
 obtain⟨h1,h2⟩:=h
 apply List.ext_getElem?
 intro i
 by_cases hi:i < items.size
 ·have hi2:i < acc.size:=by rw[h1];exact hi
  have e:=h2 i acc[i] (Qr hi2)
  rw[List.getElem?_reverse (by simpa using hi)]
  rw[Array.getElem?_toList,Array.getElem?_toList,Qr hi2,←e]
  simp
 ·rw[List.getElem?_eq_none (by simp;lia),List.getElem?_eq_none (by simp;lia)]
theorem Yin:∀{xs:List V} {us:List Value},Vals xs us→Vals xs.reverse us.reverse
 | _,_,.nil=>.nil
 | _,_,.cons r t=>by
   rw[List.reverse_cons,List.reverse_cons]
   exact(Yin t).append (.cons r .nil)
end
section
variable {K:W.Frag}
end
section
variable {K:W.Frag}
noncomputable def tK(x:Str):TE:=fun _ H Q=>Q (.str x) H
structure MP(X:Cx)(pos:Pos)(keys:List (Option Expr))(values:List Expr)(ks:List Str)(fs:List (Ro→Option D)):Prop where
 len:ks.length=fs.length
 pps:PPs X pos keys values ((ks.zip fs).map fun p=>(tK p.1,tOf X.K p.2))
 all:keys.all (·.isSome)=true
 kv:keys.length=values.length
 kk:keys.length=ks.length
end
section
variable {K:W.Frag}
structure DtH(H:Hp)(a:Addr)(nks:List (List Int × Addr))(vxs:List V):Prop where
 at':H a=some (dTo a nks vxs)
 len:nks.length=vxs.length
 nd:(nks.map (·.1)).Nodup
 keys:∀p∈nks,∃ys,H p.2=some (.tup ys)∧y1m ys=some p.1
section
variable {X:Cx} {a b e:Expr} {fa fb f:Ro→Option D} {pos:Pos}
theorem RpL.snoc{G:Hp}{d:D}{y:V}(r:Rp K G d y):∀{l:List D} {xs:List V},RpL K G l xs→RpL K G (l++[d]) (xs++[y])
 | [],_,h=>by
   rw[RpL]at h
   subst h
   exact .cons r .nil
 | e::l,_,h=>by
   rw[RpL]at h
   obtain⟨x,q,rfl,r1,r2⟩:=h
   exact .cons r1 (RpL.snoc r r2)
end
end
section
noncomputable def Yqt:List Expr→Option (List Int)
 | []=>some []
 | .Constant (.int i) _ _::es=>(Yqt es).map (i::·)
 | _=>none
noncomputable def Yjr(ns:List Int):Ro→Option (List D):=fun _=>if ns.length≤cap6 then some (ns.map D.int)else none
noncomputable def Yv5:List Int→Ro→Option (List D)
 | []=>aNil
 | n::ns=>Yh (kD (.int n)) (Yv5 ns)
theorem Ysn(ρ:Ro):∀ns:List Int,Yv5 ns ρ=some (ns.map D.int)
 | []=>rfl
 | n::ns=>by rw[Yv5,Yh,Ysn ρ ns];rfl
theorem Yv6{X:Cx}:∀{es:List Expr} {ns:List Int},Yqt es=some ns→MA X es (Yv5 ns)
 | [],ns,h=>by
   cases h
   exact Yvl
 | e::es,ns,h=>by
   unfold Yqt at h
   split at h
   ·rename_i e2;cases e2
   ·rename_i i j p es' e1
    cases e1
    obtain⟨m,h1,rfl⟩:=qc h
    exact Yqq Yz5 (Yv6 h1)
   ·cases h
theorem Yv7{X:Cx}{es:List Expr}{pos:Pos}(ns:List Int)(h:Yqt es=some ns:=by decide +kernel):MF X (.List es pos) (Yjr ns):=by
 have:=y0a (pos:=pos) (Yv6 (X:=X) h)
 have e:dLst (Yv5 ns)=Yjr ns:=by
  funext ρ
  unfold dLst Yjr
  rw[Ysn]
  simp
 rw[e]at this
 exact this
theorem y18(X:Cx)(pos' pos p1 p2:Pos)(x:Str)(i:Nat)(es:List Expr)(b:Expr)(fb:Ro→Option D)(ns:List Int)(hN:X.N.Nodup)(h:Yqt es=some ns)(hi:X.N[i]?=some x)
 (hx:Loc X.env.scope x) (hf:X.fn x=true∨X.env.scope.names.lookup x=some .local) (hs:Yey b) (hb:MC X b fb) :
 MS X (.Assign [.Name x pos'] (.Subscript (.List es p1) b p2) pos) (sSet i (b2 (lF (Yjr ns)) fb ixD)):=
 y0c i hN (Yvj (ME.mc (MF.me (Yv7 ns h))) hb hs) hi hx rfl hf
end
section
section
variable {X:Cx} {a b c e:Expr} {fa fb fc:Ro→Option D} {pos:Pos} {st:Stmt}
noncomputable def ch3(fa fb fc:Ro→Option D)(g g':D→D→Option Bool):Ro→Option Bool:=fun ρ=>
 (fa ρ).bind fun x=>(fb ρ).bind fun y=>(g x y).bind fun k=>if k=true then (fc ρ).bind fun z=>g' y z else some false
theorem Yyr{g g':D→D→Option Bool}{ρ:Ro}{k:Bool}(h:ch3 fa fb fc g g' ρ=some k) :
 ∃x y,fa ρ=some x∧fb ρ=some y∧((g x y=some false∧k=false)∨(g x y=some true∧∃z,fc ρ=some z∧g' y z=some k)):=by
 unfold ch3 at h
 obtain⟨x,h1,h⟩:=qa h
 obtain⟨y,h2,h⟩:=qa h
 obtain⟨q,h3,h⟩:=qa h
 refine⟨x,y,h1,h2,?_⟩
 cases q with
 | false=>
   rw[if_neg (by simp)]at h
   cases h
   exact .inl ⟨h3,rfl⟩
 | true=>
   rw[if_pos rfl]at h
   obtain⟨z,h4,h⟩:=qa h
   exact .inr ⟨h3,z,h4,h⟩
theorem Yys{op op':CmpOp}{r r':R2}{g g':D→D→Option Bool}(ho:OpR X (compareOp op) r)(hr:Yfy X.K r g)(ho':OpR X (compareOp op') r')(hr':Yfy X.K r' g')(ha:MC X a fa)(hb:MC X b fb)(hc:MC X c fc)
 (hm:lastMarks [op,op'] [b,c]=false:=by with_unfolding_all rfl):ME X (.Compare a [op,op'] [b,c] pos) (mB (ch3 fa fb fc g g')):=
 PE.imp (Yx6 ho ho' ha hb hc hm) fun σ H Q h=>by
  obtain⟨ρ,d,H0,G0,G,e,s,h⟩:=h
  obtain⟨k,ek,rfl⟩:=Yqo e
  obtain⟨x,y,h1,h2,h3⟩:=Yyr ek
  refine tCof.at h1 s fun v H1 G1 g1 r1 s1=>tCof.at h2 s1 fun u H2 G2 g2 r2 s2=>?_
  rcases h3 with⟨h3,rfl⟩ | ⟨h3,z,h4,h5⟩
  ·exact hr v u x y false H2 G2 _ h3 s2.seen (r1.grow g2) r2 ⟨false,rfl,by rw[if_neg (by simp)];exact h _ H2 G2 (g1.trans g2) (by rw[Rp])⟩
  ·refine hr v u x y true H2 G2 _ h3 s2.seen (r1.grow g2) r2 ⟨true,rfl,?_⟩
   rw[if_pos rfl]
   exact tCof.at h4 s2 fun w H3 G3 g3 r3 s3=>hr' u w y z k H3 G3 _ h5 s3.seen (r2.grow g3) r3 (h _ H3 G3 ((g1.trans g2).trans g3) (by rw[Rp]))
noncomputable def nS:Ro→Option Out:=fun _=>none
theorem Yyt:MS X st nS:=fun _ _ _ _ _ _ ⟨_,_,_,_,_,h,_⟩=>nomatch h
end
end
section
section
variable {X:Cx} {e:Expr} {f:Ro→Option D} {fc:Ro→Option Bool} {gl:Ro→Option (List D)} {K:W.Frag}
mutual
noncomputable def plB:D→Bool
 | .non=>true
 | .bl _=>true
 | .int _=>true
 | .str _=>true
 | .tup l=>plBL l
 | .lst _=>false
 | .scr _=>false
 | .dct _ _ _=>false
noncomputable def plBL:List D→Bool
 | []=>true
 | d::l=>plB d&&plBL l
end
mutual
theorem Rp.plain{G G':Hp}(hG:∀b ys,G b=some (HO.tup ys)→G' b=some (HO.tup ys)):∀{d:D} {v:V},plB d=true→Rp K G d v→Rp K G' d v
 | .non,_,_,r=>by rw[Rp]at r ⊢;exact r
 | .bl _,_,_,r=>by rw[Rp]at r ⊢;exact r
 | .int _,_,_,r=>by rw[Rp]at r ⊢;exact r
 | .str _,_,_,r=>by rw[Rp]at r ⊢;exact r
 | .tup l,_,h,r=>by
   rw[Rp]at r ⊢
   rw[plB]at h
   obtain⟨a,xs,e,g,q⟩:=r
   exact⟨a,xs,e,hG _ _ g,RpL.plain hG h q⟩
 | .lst _,_,h,_=>by rw[plB]at h;cases h
 | .scr _,_,h,_=>by rw[plB]at h;cases h
 | .dct _ _ _,_,h,_=>by rw[plB]at h;cases h
theorem RpL.plain{G G':Hp}(hG:∀b ys,G b=some (HO.tup ys)→G' b=some (HO.tup ys)):∀{l:List D} {xs:List V},plBL l=true→RpL K G l xs→RpL K G' l xs
 | [],_,_,r=>by rw[RpL]at r ⊢;exact r
 | d::l,_,h,r=>by
   rw[RpL]at r ⊢
   rw[plBL,Qe]at h
   obtain⟨x,xs,e,g,q⟩:=r
   exact⟨x,xs,e,Rp.plain hG h.1 g,RpL.plain hG h.2 q⟩
end
noncomputable def Yk6(is:List Nat)(f:Ro→Option D):Ro→Option D:=fun ρ=>(f (frz is ρ)).bind fun d=>if plB d=true then some d else none
theorem Yyu(is:List Nat)(h:ME X e f):ME X e (Yk6 is f):=PE.imp h fun σ H Q hq=>by
 obtain⟨ρ,d,H0,G0,G,e,s,h⟩:=hq
 unfold Yk6 at e
 obtain⟨d',h1,e⟩:=qa e
 split at e
 case isFalse=>cases e
 rename_i hs
 cases e
 obtain⟨G',s',ht⟩:=SR.frzT is s
 refine⟨frz is ρ,_,H0,G0,G',h1,s',fun v H1 G1 g r=>?_⟩
 refine h v H1 (fun a=>if H a=none then G1 a else G a) ⟨g.h,fun a o e=>?_,fun a o e=>?_,fun a h h'=>?_⟩ (r.plain (fun b ys e=>?_) hs)
 ·have hH:H a≠none:=fun z=>by rw[s.seen _ _ e]at z;cases z
  show(if H a=none then G1 a else G a)=some o
  rw[if_neg hH];exact e
 ·by_cases z:H a=none
  ·rw[if_pos z]at e;exact g.s _ _ e
  ·rw[if_neg z]at e;exact g.h _ _ (s.seen _ _ e)
 ·refine Classical.byContradiction fun z=>?_
  rw[if_neg z]at h'
  exact h' h
 ·show(if H b=none then G1 b else G b)=some (HO.tup ys)
  by_cases z:H b=none
  ·rw[if_pos z];exact e
  ·rw[if_neg z]
   refine ht b ys ?_
   cases q:G' b with
   | none=>exact absurd (g.n b q (by rw[e];exact fun y=>nomatch y)) z
   | some o=>
     have:=g.g _ _ q
     rw[e]at this
     cases this
     rfl
end
end
section
noncomputable def zK(ns:List Int)(vxs:List V):List (Key × V):=(ns.zip vxs).map fun p=>(Sum.inl p.1,p.2)
theorem Ygg(n:Int)(v:V)(ns:List Int)(vxs:List V):zK (n::ns) (v::vxs)=(Sum.inl n,v)::zK ns vxs:=rfl
theorem y5y:∀{kvs:List (Key × V)} {ns:List Int},kvs.map (fun p=>kV p.1)=ns.map V.int→kvs=zK ns (kvs.map (·.2))
 | [],ns,h=>by
   cases ns with
   | nil=>rfl
   | cons n ns=>cases h
 | (k,v)::kvs,[],h=>by cases h
 | (k,v)::kvs,n::ns,h=>by
   rw[Qd,Qd]at h
   injection h with h1 h2
   cases k with
   | inl i=>
     have:i=n:=by simp[kV]at h1;exact h1
     subst this
     rw[Qd,Ygg,←y5y h2]
   | inr x=>cases h1
theorem Yso(i:Int):∀(ns:List Int) (vxs:List V),valV (zK ns vxs) (Sum.inl i)=Ya0 ns vxs i
 | [],vxs=>by simp[zK,Ya0,valV]
 | n::ns,[]=>by simp[zK,Ya0,valV]
 | n::ns,v::vxs=>by
   rw[Ygg,Ya0]
   by_cases h:n=i
   ·rw[if_pos h,Yi1 (by simp[h])]
   ·rw[if_neg h,Yi2 (by simpa using h)]
    exact Yso i ns vxs
theorem Ye3:∀(ns:List Int) (vxs:List V),ns.length=vxs.length→(zK ns vxs).map (·.1)=ns.map Sum.inl
 | [],vxs,_=>rfl
 | n::ns,[],h=>by simp at h
 | n::ns,v::vxs,h=>by
   rw[Ygg,Qd,Qd,Ye3 ns vxs (by simpa using h)]
theorem y5z(ns:List Int)(vxs:List V)(h:ns.length=vxs.length):(zK ns vxs).length=ns.length:=by
 have:=congrArg List.length (Ye3 ns vxs h)
 simpa using this
theorem y0f(i:Int):∀(ns:List Int) (vxs:List V),ns.length=vxs.length→((zK ns vxs).any fun kv=>decide (kv.1=Sum.inl i))=decide (i∈ns)
 | [],vxs,_=>by simp[zK]
 | n::ns,[],h=>by simp at h
 | n::ns,v::vxs,h=>by
   rw[Ygg,List.any_cons,y0f i ns vxs (by simpa using h)]
   by_cases e:n=i
   ·subst e;simp
   ·have e':¬i=n:=fun z=>e z.symm
    simp[e,e']
theorem y0g(i:Int)(y:V):∀(ns:List Int) (vxs:List V),ns.length=vxs.length→ns.Nodup→(zK ns vxs).map (fun kv=>if kv.1=Sum.inl i then (kv.1,y)else kv)=zK ns (setK ns vxs i y)
 | [],vxs,_,_=>by simp[zK]
 | n::ns,[],h,_=>by simp at h
 | n::ns,v::vxs,h,hn=>by
   obtain⟨h1,h2⟩:=List.nodup_cons.mp hn
   have hl:ns.length=vxs.length:=by simpa using h
   rw[Ygg,Qd,setK]
   by_cases e:n=i
   ·subst e
    rw[if_pos rfl,if_pos rfl,Ygg]
    have:(zK ns vxs).map (fun kv=>if kv.1=Sum.inl n then (kv.1,y)else kv)=zK ns vxs:=by
     refine(List.map_congr_left fun kv hkv=>?_).trans (List.map_id _)
     rw[if_neg]
     ·rfl
     ·intro z
      have:kv.1∈(zK ns vxs).map (·.1):=Qm hkv
      rw[Ye3 ns vxs hl,z]at this
      obtain⟨m,hm,e⟩:=qx this
      injection e with e
      exact h1 (e ▸ hm)
    rw[this]
   ·rw[if_neg (by simpa using e),if_neg e,Ygg,y0g i y ns vxs hl h2]
theorem y19(i:Int)(y:V):∀(ns:List Int) (vxs:List V),ns.length=vxs.length→zK (ns++[i]) (vxs++[y])=zK ns vxs++[(Sum.inl i,y)]:=fun ns vxs h=>by
 unfold zK
 rw[List.zip_append h,List.map_append]
 rfl
noncomputable def putI(ns:List Int)(vxs:List V)(i:Int)(y:V):List Int × List V:=if i∈ns then (ns,setK ns vxs i y)else (ns++[i],vxs++[y])
theorem y0h{ns:List Int}{vxs:List V}(h:ns.length=vxs.length)(hn:ns.Nodup)(i:Int)(y:V):putK (zK ns vxs) (Sum.inl i) y=zK (putI ns vxs i y).1 (putI ns vxs i y).2:=by
 unfold putK putI
 rw[y0f i ns vxs h]
 by_cases e:i∈ns
 ·rw[if_pos (decide_eq_true e),if_pos e]
  exact y0g i y ns vxs h hn
 ·rw[if_neg (by simpa using e),if_neg e,y19 i y ns vxs h]
theorem Yv8{ns:List Int}(h:(ns.map (Sum.inl:Int→Key)).Nodup):ns.Nodup:=by
 rw[List.nodup_iff_pairwise_ne,List.pairwise_map]at h
 rw[List.nodup_iff_pairwise_ne]
 exact h.imp fun h z=>h (by rw[z])
theorem Ytq{ns:List Int}(h:ns.Nodup):(ns.map (Sum.inl:Int→Key)).Nodup:=by
 rw[List.nodup_iff_pairwise_ne,List.pairwise_map]
 rw[List.nodup_iff_pairwise_ne]at h
 exact h.imp fun h z=>h (by injection z)
variable {K:W.Frag}
theorem Yqu{G H:Hp}{a:Addr}{ks:List D}{kxs vxs:List V}{ns:List Int}(hn:intsD ks=some ns)(d:Dc false G H a kxs vxs)(r:RpL K G ks kxs):H a=some (.dK (zK ns vxs))∧ns.Nodup∧ns.length=vxs.length∧kxs=ns.map V.int:=by
 cases Yb7 hn
 have e:=Yec r
 rcases d with⟨_,kvs,h1,h2,h3,h4⟩ | ⟨h,_⟩
 ·rw[e]at h3
  have hz:=y5y h3.symm
  rw[←h4]at hz
  have hl:ns.length=vxs.length:=by
   have:=congrArg List.length h3
   rw[h4]
   simpa using this
  refine⟨by rw[h1,←hz],?_,hl,e⟩
  rw[hz,Ye3 ns vxs hl]at h2
  exact Yv8 h2
 ·cases h
theorem Yyv{G H:Hp}{a:Addr}{vxs:List V}{ns:List Int}(h:H a=some (.dK (zK ns vxs)))(hn:ns.Nodup)(hl:ns.length=vxs.length):Dc false G H a (ns.map V.int) vxs:=by
 refine .inl ⟨rfl,zK ns vxs,h,by rw[Ye3 ns vxs hl];exact Ytq hn,?_,?_⟩
 ·have:=congrArg (List.map kV) (Ye3 ns vxs hl)
  rw[Qj,Qj]at this
  exact(this.trans (List.map_congr_left fun _ _=>rfl)).symm
 ·unfold zK
  rw[Qj]
  have:(fun p:Int × V=>((Sum.inl p.1,p.2):Key × V).2)=fun p=>p.2:=rfl
  show vxs=(ns.zip vxs).map fun p:Int × V=>p.2
  clear h hn this
  induction ns generalizing vxs with
  | nil=>cases vxs with
    | nil=>rfl
    | cons=>simp at hl
  | cons n ns ih=>cases vxs with
    | nil=>simp at hl
    | cons v vxs=>simp;exact ih (by simpa using hl)
noncomputable def getI:D→D→Option D
 | .dct false ks vs,.int i=>(intsD ks).bind fun ns=>Ya0 ns vs i
 | _,_=>none
noncomputable def hasI(neg:Bool):D→D→Option Bool
 | .int i,.dct false ks _=>(intsD ks).map fun ns=>decide (i∈ns) != neg
 | _,_=>none
noncomputable def rIxI:R2:=fun x y H Q=>∃a z,x=.ref a∧DGet H a y (some z)∧Q z H
noncomputable def rInI(neg:Bool):R2:=fun x y H Q=>∃a o,y=.ref a∧DGet H a x o∧Q (.bl (o.isSome != neg)) H
theorem Yyw:Sem2 K rIxI getI:=by
 intro x y dx dy d H G Q h s rx ry q
 unfold getI at h
 split at h
 ·rename_i ks vs i
  obtain⟨ns,h1,h⟩:=qa h
  rw[Ct]at rx
  rw[Ct]at ry
  subst ry
  obtain⟨a,kxs,vxs,rfl,dc,r1,r2⟩:=rx
  obtain⟨e1,e2,e3,e4⟩:=Yqu h1 dc r1
  obtain⟨v,f1,f2⟩:=(Ymp i r2).1 d h
  refine⟨a,v,rfl,?_,q v H G (.refl s) f2⟩
  have:=DGet.k (k:=Sum.inl i) e1
  rw[Yso,f1]at this
  exact this
 ·cases h
theorem Ytr{ns:List Int}{vxs:List V}{i:Int}(hl:ns.length=vxs.length):(Ya0 ns vxs i).isSome=decide (i∈ns):=by
 cases h:Ya0 ns vxs i with
 | none=>
   have:=(Yhs (x:=i) (ks:=ns) (vs:=vxs) hl.symm).mp h
   simp[this]
 | some v=>
   have:i∈ns:=Classical.byContradiction fun z=>by
    rw[(Yhs (x:=i) (ks:=ns) (vs:=vxs) hl.symm).mpr z]at h
    cases h
   simp[this]
theorem Yyx{neg:Bool}:Yfy K (rInI neg) (hasI neg):=by
 intro x y dx dy b H G Q h s rx ry q
 unfold hasI at h
 split at h
 ·rename_i i ks vs
  obtain⟨ns,h1,rfl⟩:=qc h
  rw[Ct]at rx
  rw[Ct]at ry
  subst rx
  obtain⟨a,kxs,vxs,rfl,dc,r1,r2⟩:=ry
  obtain⟨e1,e2,e3,e4⟩:=Yqu h1 dc r1
  refine⟨a,Ya0 ns vxs i,rfl,?_,?_⟩
  ·have:=DGet.k (k:=Sum.inl i) e1
   rw[Yso]at this
   exact this
  ·rw[Ytr e3]
   exact q
 ·cases h
section
variable {X:Cx}
theorem y8f(hu:X.A.units+64 < cLine):IxR X rIxI:=by
 intro value slice pins s σ H x y v u Q I rx ry h hs
 obtain⟨a,z,rfl,g,q⟩:=h
 cases rx
 exact tail_any (Yqk I g) PySem.F.slot_dict_getitem.lookup (Yu1 (by lia) I g ry fun w' s3 I3 rw'=>⟨z,H,I3,rw',q⟩) hs
theorem y50(hu:X.A.units+64 < cLine):OpR X (compareOp .In) (rInI false):=by
 intro pins s σ H x y v u Q I rx ry h
 obtain⟨a,o,rfl,g,q⟩:=h
 cases ry
 exact d_in (by lia) I g rx fun s3 I3=>⟨.bl (o.isSome != false),H,I3,by simp;rfl,q⟩
noncomputable def y51:V→V→V→Hp→(Hp→Prop)→Prop:=fun o i v H Q=>∃a H',o=.ref a∧DPut H a i v H'∧Q H'
theorem y52(hu:X.A.units+64 < cLine):PSet X y51:=by
 intro pins s σ H o i v ov iv u Q I ro ri rv h
 obtain⟨a,H',rfl,g,q⟩:=h
 cases ro
 exact Yu3 (by lia) I g ri rv fun s4 I4=>⟨_,I4,q⟩
variable {a b e f':Expr} {fa fb f fz:Ro→Option D} {pos:Pos}
theorem y2a(hu:X.A.units+64 < cLine)(ha:MC X a fa)(hb:MC X b fb)(hs:Yey b:=by intro _ _;rfl):ME X (.Subscript a b pos) (b2 fa fb getI):=y4z (y8f hu) Yyw ha hb hs
noncomputable def Yts(i:Nat):Ro→Option Out:=fun ρ=>some (.nx (ρ.set i (some (.od false [] []))))
theorem y2b(i:Nat){x:Str}{pos' dpos:Pos}(hN:X.N.Nodup)(hi:X.N[i]?=some x:=by rfl)(hx:Loc X.env.scope x:=by first | exact Or.inl rfl | exact Or.inr rfl)
 (hs:swapsWith (.Dict [] [] dpos) (some (.Name x pos')) pos.line X.env=pure false:=by rfl)
 (hf:X.fn x=true∨X.env.scope.names.lookup x=some .local:=by first | exact .inl rfl | exact .inr rfl):MS X (.Assign [.Name x pos'] (.Dict [] [] dpos) pos) (Yts i):=
 PS.imp (Yr9 hN hi hx Yx9 hs hf) fun F σ H hx_=>by
  obtain⟨ρ,out,H0,G0,G,e,s,h⟩:=hx_
  cases e
  intro p hp
  exact h _ _ G (s.set_od i (.hid s.seen hp _) hp (s.seen.free hp) (kxs:=[]) (vxs:=[]) (Yyv (ns:=[]) (vxs:=[]) Yv .nil rfl) .nil .nil)
noncomputable def Yov(i:Nat):Ro→Option (List D × List D):=fun ρ=>match ρ[i]? with
 | some (some (B.od false ks vs))=>some (ks,vs)
 | _=>none
theorem Ytt{i:Nat}{ρ:Ro}{l:List D × List D}(h:Yov i ρ=some l):ρ[i]?=some (some (B.od false l.1 l.2)):=by
 unfold Yov at h
 split at h
 ·cases h;assumption
 ·cases h
noncomputable def Ytu(ks vs:List D)(k d:D):Option (List D × List D):=(intsD ks).bind fun ns=>match k with
 | .int i=>if vs.length < cap6 then some (if i∈ns then (ks,setK ns vs i d)else (ks++[k],vs++[d]))else none
 | _=>none
noncomputable def Ytv(i:Nat)(fi f:Ro→Option D):Ro→Option Out:=fun ρ=>(f ρ).bind fun d=>(Yov i ρ).bind fun l=>(fi ρ).bind fun k=>(Ytu l.1 l.2 k d).map fun l'=>.nx (ρ.set i (some (.od false l'.1 l'.2)))
theorem y2c(hu:X.A.units+64 < cLine)(i:Nat){x:Str}{ie:Expr}{p2 p3:Pos}(hb:MC X ie fb)(he:ME X e f)(hN:X.N[i]?=some x:=by rfl)(hv:Vis X.env.scope x:=by first | exact Or.inl rfl | exact Or.inr (Or.inl rfl) | exact Or.inr (Or.inr rfl))
 (hd:(x==("__debug__":Str))=false:=by decide) (hcd:(x==("__classdict__":Str))=false:=by decide)
 (ha:∀v,assign (.Subscript (.Name x p2) ie p3) X.env v=(do
  let ov ←holding [v] (eval (.Name x p2) X.env)
  let iv ←holding [v,ov] (eval ie X.env)
  standAt p3
  holding [v,ov,iv] (setItem ov iv v)
  release [v,ov,iv] []):=by intro _;rfl)
 (hs:swapsWithSole [.Subscript (.Name x p2) ie p3] e pos.line X.env=pure false:=by rfl) (hw:swappedStores [.Subscript (.Name x p2) ie p3] e X.env=pure none:=by rfl)
 (h1:(assignEach [.Subscript (.Name x p2) ie p3] X.env).map (·.2)=[assign (.Subscript (.Name x p2) ie p3) X.env]:=by rfl):MS X (.Assign [.Subscript (.Name x p2) ie p3] e pos) (Ytv i fb f):=
 PS.imp (Yz0 he (y31 (Yr8 hN hv hd hcd) hb (y52 hu) ha) hs hw h1) fun F σ H hx_=>by
  obtain⟨ρ,out,H0,G0,G,e,s,h⟩:=hx_
  unfold Ytv at e
  obtain⟨d,h1,e⟩:=qa e
  obtain⟨l,h2,e⟩:=qa e
  obtain⟨k,h3,e⟩:=qa e
  obtain⟨l',h4,rfl⟩:=qc e
  obtain⟨ks,vs⟩:=l
  unfold Ytu at h4
  obtain⟨ns,h5,h4⟩:=qa h4
  obtain⟨j,rfl⟩:∃j,k=.int j:=by
   cases k with
   | int j=>exact⟨j,rfl⟩
   | _=>cases h4
  dsimp only at h4
  split at h4
  case isFalse=>cases h4
  rename_i hcap
  have hod:=Ytt h2
  refine tOf.at h1 s fun v H1 G1 g1 r1 s1=>?_
  obtain⟨a0,_,_,ha0,_⟩:=s1.od i _ _ _ hod
  refine⟨_,ha0,tCof.at h3 s1 fun u H2 G2 g2 r2 s2=>?_⟩
  obtain⟨a,kxs,vxs,ha,hG,hH0,dc,rk,rv⟩:=s2.od i _ _ _ hod
  rw[ha0]at ha
  cases ha
  obtain⟨e1,e2,e3,e4⟩:=Yqu h5 dc rk
  rw[Ct]at r2
  subst r2
  have hvl:vxs.length < cap6:=by rw[rv.length];exact hcap
  have hsl:(zK ns vxs).length < sizeLine:=by
   rw[y5z _ _ e3,e3,sizeLine_eq]
   have:cap6=1000000:=rfl
   lia
  refine⟨a0,_,rfl,DPut.k (k:=Sum.inl j) (v:=v) e1 hsl,?_⟩
  have r1':=r1.mono g2.g
  injection h4 with h4
  rw[y0h e3 e2]
  refine h _ _ G2 (s2.mutd hod ha0 (kxs:=(putI ns vxs j v).1.map V.int) (vxs:=(putI ns vxs j v).2) (Yyv Yv ?_ ?_) ?_ ?_)
  ·unfold putI
   split
   ·exact e2
   ·rename_i hm
    rw[List.nodup_append]
    refine⟨e2,by simp,fun x hx y hy z'=>?_⟩
    simp at hy
    subst z' hy
    exact hm hx
  ·unfold putI
   split
   ·rw[Ygf];exact e3
   ·simp[e3]
  ·rw[←h4]
   unfold putI
   rw[e4]at rk
   split
   ·exact rk
   ·rw[List.map_append]
    exact RpL.snoc (by rw[Rp]) rk
  ·rw[←h4]
   unfold putI
   split
   ·exact Yqs j r1' rv
   ·exact RpL.snoc r1' rv
noncomputable def Ymq:D→D→D→Option D
 | .dct false ks vs,.int i,z=>(intsD ks).map fun ns=>(Ya0 ns vs i).getD z
 | _,_,_=>none
noncomputable def b3{α:Type}(fa fb fc:Ro→Option D)(g:D→D→D→Option α):Ro→Option α:=fun ρ=>(fa ρ).bind fun x=>(fb ρ).bind fun y=>(fc ρ).bind fun z=>g x y z
theorem Ytw{x y z d:D}(h:Ymq x y z=some d):∃ks vs i ns,x=.dct false ks vs∧y=.int i∧intsD ks=some ns∧d=(Ya0 ns vs i).getD z:=by
 unfold Ymq at h
 split at h
 ·obtain⟨ns,h1,h2⟩:=qc h
  exact⟨_,_,_,ns,rfl,rfl,h1,h2.symm⟩
 ·cases h
theorem Yyy(hu:X.A.units+64 < cLine){o e1 e2:Expr}{apos cpos:Pos}(ho:MC X o fa)(he:MC X e1 fb)(hf:ME X e2 fz)(m:M2 X o "get" apos e1 e2 cpos):ME X (.Call (.Attribute o "get" apos) [e1,e2] [] cpos) (b3 fa fb fz Ymq):=
 PE.imp (Yya (by lia) ho he hf m) fun σ H Q hx_=>by
  obtain⟨ρ,d,H0,G0,G,e,s,h⟩:=hx_
  unfold b3 at e
  obtain⟨x,h1,e⟩:=qa e
  obtain⟨y,h2,e⟩:=qa e
  obtain⟨z,h3,e⟩:=qa e
  obtain⟨ks,vs,i,ns,rfl,rfl,h5,rfl⟩:=Ytw e
  refine tCof.at h1 s fun v H1 G1 g1 r1 s1=>?_
  have r1c:=r1
  rw[Ct]at r1c
  obtain⟨a,kxs,vxs,rfl,dc,rk,rv⟩:=r1c
  refine⟨a,rfl,.inl ⟨_,.inl (Yqu h5 dc rk).1⟩,tCof.at h2 s1 fun u H2 G2 g2 r2 s2=>tOf.at h3 s2 fun w H3 G3 g3 r3 s3=>?_⟩
  have r1g:=r1.grow (g2.trans g3)
  rw[Ct]at r1g
  rw[Ct]at r2
  subst r2
  obtain⟨a',kxs',vxs',ea,dc',rk',rv'⟩:=r1g
  cases ea
  obtain⟨e1,e2,e3,e4⟩:=Yqu h5 dc' rk'
  refine⟨Ya0 ns vxs' i,?_,h _ H3 G3 ((g1.trans g2).trans g3) ?_⟩
  ·have:=DGet.k (k:=Sum.inl i) e1
   rw[Yso]at this
   exact this
  ·cases hf:Ya0 ns vs i with
   | none=>
     rw[(Ymp i rv').2 hf]
     exact r3
   | some d=>
     obtain⟨v,f1,f2⟩:=(Ymp i rv').1 d hf
     rw[f1]
     exact f2
end
set_option maxRecDepth 100000
section
variable {prog:Program} {w:World} {A:Around} {E:Value→Shared→Prop} {s:Shared}
theorem Ymr:isSubtype (.type "dict") (.type "dict")=pure true:=by rw[isSubtype_type];kernel_rfl
def PIn(vals:List Int)(i:Nat)(v:Value):Prop:=∃k t,vals[i]?=some k∧v=.int k t
theorem y2d{vals:List Int}:∀{acc:List Value},acc.length=vals.length→(∀(j:Nat) v,acc[j]?=some v→PIn vals j v)→IntsAre acc vals:=by
 induction vals with
 | nil=>
   intro acc h _
   rw[List.length_eq_zero_iff.mp h]
   exact .nil
 | cons k r ih=>
   intro acc h hp
   match acc,h with
   | v::acc,h=>
     obtain⟨k',t,e1,e2⟩:=hp 0 v rfl
     simp at e1
     subst e1
     subst e2
     refine .cons _ t (ih (by simpa using h) fun j v hj=>?_)
     obtain⟨k',t,e1,e2⟩:=hp (j+1) v (by simpa using hj)
     exact⟨k',t,by simpa using e1,e2⟩
theorem Yow{a:Addr}{kvs:List (Key × Value)}{ns:List Int}(hh:A.handled=none)(hd:(a==sysModules)=false)(hS:s.heap.DictOf (Yaf prog w) a kvs)(hk:kvs.map (·.1)=ns.map Sum.inl)(hl:ns.length≤1000){Q:List Value→Shared→Prop}
 (hQ:∀(h':Heap) (tk:Nat) (acc:List Value),s.heap.objs.size≤h'.objs.size→(∀b o,s.heap.get? b=some o→h'.get? b=some o)→IntsAre acc ns→Q acc { s with heap:=h',toks:=tk }) :
 wpAny (model prog w) A (collect (.ref a)) Q E s:=by
 obtain⟨o,es,ep,ho,hex,hdat,hrest⟩:=id hS
 have hlt:a < s.heap.objs.size:=ql ho
 have hlen:kvs.length=ns.length:=by have:=congrArg List.length hk;simpa using this
 unfold collect
 refine wpAny_bind (wpAny_runValue (codeAny_builtin F.entry_proto_collect ?_))
 rw[Around.under_plainId F.plain_proto_collect _]
 show wpAny _ A.in1 (newList [] >>= fun l=>again (.builtin "list.__iadd__" ⟨[l,.ref a],[]⟩)) _ _ s
 refine wpAny_bind (wpAny_newObj_type ?_)
 refine wpAny_pure ⟨plainId_quiet F.plain_list_iadd _,codeAny_builtin F.entry_list_iadd ?_⟩
 rw[Around.under_plainId F.plain_list_iadd _]
 generalize hH:s.heap.push { cls:=.type "list",data:=.seq ([]:List Value).toArray }=H
 have hHs:H.objs.size=s.heap.objs.size+1:=by rw[←hH,Heap.size_push]
 have keepH:∀b o,s.heap.get? b=some o→H.get? b=some o:=fun b o e=>by rw[←hH];exact qe _ e
 have hL:H.get? s.heap.objs.size=some { cls:=.type "list",data:=.seq ([]:List Value).toArray }:=by rw[←hH];exact qp _ rfl
 have hoH:=keepH a o ho
 have hT:Shared.TypeIs { s with heap:=H } (.ref a) "dict":=⟨o,hoH,hex.1⟩
 have hSI:s.heap.objs.size≠a:=fun z=>by rw[←z]at hlt;exact absurd hlt (Qg _)
 have h1:Builtin.List.listSameRef (.ref s.heap.objs.size) (.ref a)=false:=by simp[Builtin.List.listSameRef,hSI]
 show wpAny _ A.in1 (Builtin.List.listExtendWith (.ref s.heap.objs.size) (.ref a) (.ref s.heap.objs.size)) _ _ _
 unfold Builtin.List.listExtendWith
 refine wpAny_bind (wpAny_typeOf hT ?_)
 have h2:(Value.type "dict"==Value.type "list")=false:=by decide
 have h3:(Value.type "dict"==Value.type "tuple")=false:=by decide
 simp only[h1,h2,h3,Bool.or_false,Qo,if_false]
 have hat:H.DictAt (Yaf prog w) a kvs ep:=⟨o,es,hoH,hex,hdat,hrest⟩
 refine wpAny_bind (wpAny_pyIter_dict (s:={ s with heap:=H }) hd hat ?_)
 generalize hO:({ cls:=.type "dict_keyiterator",data:=.fields #[.ref a,.int 0 0,.int kvs.length 0,.int ep 0] }:Obj)=itO
 have hoI:(H.push itO).get? a=some o:=qe _ hoH
 have hT':Shared.TypeIs { s with heap:=H.push itO } (.ref a) "dict":=⟨o,hoI,hex.1⟩
 refine wpAny_bind (wpAny_holding ?_)
 unfold Builtin.List.listLengthHint
 refine wpAny_bind (wpAny_specialOf hT' F.slot_dict_len.lookup ?_)
 (generalize hid:("dict.__len__":String)=id0;(fail_if_success (clear hid id0));wp_delta;rw[show splitId id0=some ("dict","__len__") from by subst hid;decide +kernel];subst hid)
 refine wpAny_bind (wpAny_isInstance (b:=true) hT' Ymr ?_)
 show wpAny _ A.in1 (typeOf (Value.ref a) >>= _) _ _ _
 refine wpAny_bind (wpAny_typeOf hT' ?_)
 refine wpAny_pure ?_
 rw[if_pos (by decide)]
 refine wpAny_bind (wpAny_rule ?_)
 have haI:a≠H.objs.size:=fun z=>by rw[z,hHs]at hlt;exact absurd hlt (Nat.not_lt.mpr (Nat.le_succ _))
 have hSf:s.heap.objs.size∉[H.objs.size,a]:=fun hm=>by
  simp only[List.mem_cons,List.not_mem_nil,or_false]at hm
  rcases hm with z | z
  ·rw[hHs]at z;exact absurd z (qm (Qa _))
  ·exact hSI z
 have hS₁:(H.push itO).get? s.heap.objs.size=some { cls:=.type "list",data:=.seq ([]:List Value).toArray }:=qe _ hL
 refine wpAny_bind ?_
 show wpAny _ A.in1 (updateSeq s.heap.objs.size (·.push .none) >>= fun _=>updateSeq s.heap.objs.size (·.pop)) _ _ _
 refine wpAny_bind (wpAny_updateSeq hS₁ rfl ?_)
 have hS₂:=Heap.get?_update_self (Obj.mapSeq (·.push Value.none)) hS₁ rfl
 refine wpAny_updateSeq hS₂ rfl ?_
 have hS₃:=Heap.get?_update_self (Obj.mapSeq (·.pop)) hS₂ rfl
 have oth:∀b o,b≠s.heap.objs.size→(H.push itO).get? b=some o→
  (((H.push itO).update s.heap.objs.size (Obj.mapSeq (·.push Value.none))).update s.heap.objs.size (Obj.mapSeq (·.pop))).get? b=some o:=
  fun b o hb e=>(Heap.get?_update_other _ _ (Ne.symm hb)).trans ((Heap.get?_update_other _ _ (Ne.symm hb)).trans e)
 have W:=(Walks.dictKeys (prog:=prog) (w:=w) (knd:=Yaf prog w) (A:=A.in1) hh H.objs.size a haI kvs ep).toS
 have hst:(H.push itO).IsKeyIter H.objs.size a 0 kvs.length ep∧(H.push itO).DictAt (Yaf prog w) a kvs ep:=⟨⟨_,qp _ (by rw[←hO];rfl),by rw[←hO],by rw[←hO];rfl⟩,hat.at' fun o e=>qe _ e⟩
 refine wpAny_pure ⟨plainId_quiet F.plain_extend_loop _,codeAny_extend_loopS W (by rw[sizeLine_eq,hlen];lia) _ hSf _ kvs.length 0 _ _ _ rfl (Nat.zero_le _)
  (W.frame 0 ({ s with heap:=H.push itO }:Shared) _ s.toks hst (qu _) fun b hb o e=>oth b o (fun h=>hSf (h ▸ hb)) e) hS₃ (ItemsOf.nil _) fun s' acc' c' hm hS' hacc=>?_⟩
 show wpAny _ A (load s.heap.objs.size >>= _) _ _ s'
 refine wpAny_bind (wpAny_load hS' ?_)
 have eg:s'.gens=s.gens:=hm.gens
 have ed:s'.drawn=s.drawn:=hm.drawn
 have eo:s'.os=s.os:=hm.os
 have es':s'={ s with heap:=s'.heap,toks:=s'.toks }:=by
  obtain⟨a1,a2,a3,a4,a5⟩:=s'
  simp only at eg ed eo
  subst eg;subst ed;subst eo
  rfl
 rw[es']
 refine wpAny_pure (hQ s'.heap s'.toks acc'.toList (Nat.le_of_lt (ql hS')) (fun b ob e=>?_) (y2d (by rw[qj,hacc.1,hlen]) fun j v hj=>?_))
 ·have hb:b < s.heap.objs.size:=ql e
  refine hm.heap b ob (fun hm'=>?_) (oth b ob (qm hb) (qe _ (keepH b ob e)))
  rcases qt hm' with z | z
  ·rw[z]at hb;exact absurd hb (Qg _)
  ·rw[List.mem_singleton.mp z,hHs]at hb
   exact absurd hb (Nat.not_lt.mpr (Nat.le_succ _))
 ·obtain⟨k,x,e1,e2⟩:=hacc.2 j v (by rw[←Array.getElem?_toList];exact hj)
  have hkj:(kvs.map (·.1))[j]?=some k:=by rw[Qk,e1];rfl
  rw[hk,Qk]at hkj
  obtain⟨n,hn,rfl⟩:=qc hkj
  have e2':Yqg (Sum.inl n) v=true:=e2
  rcases Yay e2' with⟨i,t,h1,h2⟩ | ⟨x,t,h1,h2⟩
  ·injection h1 with h1
   exact⟨n,t,hn,by rw[h2,h1]⟩
  ·cases h1
theorem Yqv{a:Addr}{kvs:List (Key × Value)}{ns:List Int}(hh:A.handled=none)(hd:(a==sysModules)=false)(hS:s.heap.DictOf (Yaf prog w) a kvs)(hk:kvs.map (·.1)=ns.map Sum.inl)(h64:ns.length < 64){Q:Value→Shared→Prop}
 (hQ:∀(h':Heap) (tk e:Nat) (p:Addr) (out:Array Value) (ns':List Int),(∀b o,s.heap.get? b=some o→h'.get? b=some o)→s.heap.objs.size≤p→h'.get? p=some (seqObj "list" out e)→IntsAre out.toList ns'→ns'.Perm ns→ns'.Pairwise (·≤·)→
  Q (.ref p) { s with heap:=h',toks:=tk }):wpAny (model prog w) A (call (.builtin "sorted") [.ref a]) Q E s:=by
 refine Calls.call_function_entry kind_sorted plain_sorted entry_sorted (args_sorted1 _) ?_
 unfold Builtin.«sorted»
 refine wpAny_bind (m:=checkCount "sorted" 1 1 _) (wpAny_pure ?_)
 refine wpAny_bind (Yow (A:=A.in1) hh hd hS hk (by lia) fun h' tk acc hle keep hI=>?_)
 have hl:acc.length=ns.length:=IntsAre.length hI
 have h64':acc.length < 64:=by rw[hl];exact h64
 refine wpAny_bind (wpAny_newList ?_ (by rw[sizeLine_eq];lia))
 have hoL:(h'.push (seqObj "list" acc.toArray 0)).get? h'.objs.size=some (seqObj "list" acc.toArray 0):=qp _ rfl
 show wpAny _ _ _ _ _ { s with heap:=h'.push (seqObj "list" acc.toArray 0),toks:=tk }
 refine wpAny_bind (wpAny_holding (wpAny_call_entry slot_list_sort ⟨_,hoL,rfl⟩ entry_list_sort (list_sort_tree (s:={ s with heap:=h'.push (seqObj "list" acc.toArray 0),toks:=tk }) hoL hI h64' fun out ns' a1 a2 a3=>⟨_,rfl,?_⟩) (args_list_sort _)))
 obtain⟨e,he⟩:=sortedHeap_at (n:=0) (out:=out) hoL
 refine wpAny_pure ⟨_,rfl,hQ _ tk e h'.objs.size out ns' (fun b o eb=>?_) hle he a1 a2 a3⟩
 have hb:=ql (keep b o eb)
 rw[sortedHeap_old (qm hb) (by rw[size_push'];exact qw hb)]
 exact qe _ (keep b o eb)
end
section
variable {X:Cx} {e:Expr} {f:Ro→Option D} {p pos:Pos}
noncomputable def Yv9:List V→Hp→VK→Prop:=fun xs H Q=>∃a kvs ns,xs=[.ref a]∧Rd H a (.dK kvs)∧kvs.map (·.1)=ns.map Sum.inl∧ns.length < 64∧∀p,H p=none→Q (.ref p) (upd H p (.lst ((Ybn ns).map V.int)))
theorem Yqw(hc:X.calm=true):Yc2 X (.builtin "sorted") Yv9:=by
 intro pins s σ H xs us Q I r h
 obtain⟨a,kvs,ns,rfl,hq,hk,hl,q⟩:=h
 obtain⟨u,rfl,rx⟩:=Yf7 r
 cases rx
 have hh:X.A.handled=none:=I.ok.hd hc
 obtain⟨z,hd,vs,rel,dd⟩:=Yqj I.hok hq
 have hkv:vs.map (·.1)=ns.map Sum.inl:=by
  rw[←hk]
  clear hk dd z hq
  induction rel with
  | nil=>rfl
  | cons r _ ih=>rw[Qd,Qd,r.1,ih]
 refine Yqv hh hd dd hkv hl fun h' tk e p out ns' keep hp he hI hpm hs=>?_
 have en:ns'=Ybn ns:=W.ksm_same (hpm.trans (Yan ns).symm) hs (Yar ns)
 subst en
 have hn:(Ybn ns).length=ns.length:=(Yan ns).length_eq
 exact⟨.ref p,_,Inv.laid (t':=tk) I keep hp (show ObjOk X.prog X.w _ _ _ (.lst ((Ybn ns).map V.int)) from⟨by rw[qf,hn,sizeLine_eq];lia,out.toList,e,Yez hI,by rw[Array.toArray_toList];exact he⟩),rfl,q _ (I.hok.fresh hp)⟩
noncomputable def Yjs:List D→Option (List D)
 | [.dct false ks _]=>(intsD ks).bind fun ns=>if ns.length < 64 then some ((Ybn ns).map D.int)else none
 | _=>none
theorem Ytx{K:W.Frag}:SemF K Yv9 Yjs:=by
 intro vs ds l H G Q h s r q
 unfold Yjs at h
 split at h
 ·rename_i ks ws
  obtain⟨v,rfl,rv⟩:=Ybw r
  obtain⟨ns,h1,h⟩:=qa h
  split at h
  ·rename_i h64
   cases h
   rw[Ct]at rv
   obtain⟨a,kxs,vxs,rfl,dc,rk,rv⟩:=rv
   obtain⟨e1,e2,e3,e4⟩:=Yqu h1 dc rk
   exact⟨a,_,ns,rfl,.inl e1,Ye3 ns vxs e3,h64,fun p hp=>q p _ _ G (.hid s hp _) hp (s.free hp) Yv (.ints _)⟩
  ·cases h
 ·cases h
theorem nr1{α:Sort _}{a b:α}(h:a=b):a=b:=h
@[simp] theorem ap_b3{α:Type}{ρ:Ro}(fa fb fc:Ro→Option D)(g:D→D→D→Option α):b3 fa fb fc g ρ=(fa ρ).bind fun x=>(fb ρ).bind fun y=>(fc ρ).bind fun z=>g x y z:=nr1 rfl
@[simp] theorem ap_sNewD{ρ:Ro}(i:Nat):Yts i ρ=some (.nx (ρ.set i (some (.od false [] [])))):=nr1 rfl
@[simp] theorem ap_sPutI{ρ:Ro}(i:Nat)(fi f:Ro→Option D):Ytv i fi f ρ=(f ρ).bind fun d=>(Yov i ρ).bind fun l=>(fi ρ).bind fun k=>(Ytu l.1 l.2 k d).map fun l'=>.nx (ρ.set i (some (.od false l'.1 l'.2))):=nr1 rfl
@[simp] theorem Yg2(ks vs:List D)(i:Int):getI (.dct false ks vs) (.int i)=(intsD ks).bind fun ns=>Ya0 ns vs i:=nr1 rfl
@[simp] theorem Yjt(ks vs:List D)(i:Int)(z:D):Ymq (.dct false ks vs) (.int i) z=(intsD ks).map fun ns=>(Ya0 ns vs i).getD z:=nr1 rfl
@[simp] theorem Yg3(ks vs:List D)(i:Int)(d:D):Ytu ks vs (.int i) d=(intsD ks).bind fun ns=>if vs.length < cap6 then some (if i∈ns then (ks,setK ns vs i d)else (ks++[.int i],vs++[d]))else none:=nr1 rfl
@[simp] theorem Yqx(ks vs:List D):Yjs [.dct false ks vs]=(intsD ks).bind fun ns=>if ns.length < 64 then some ((Ybn ns).map D.int)else none:=nr1 rfl
@[simp] theorem gOI0(ks vs:List D)(r:Ro):Yov 0 (some (.od false ks vs)::r)=some (ks,vs):=nr1 rfl
@[simp] theorem gOIs(n:Nat)(b:Option B)(r:Ro):Yov (n+1) (b::r)=Yov n r:=by simp[Yov]
@[simp] theorem gC0d(t:Bool)(ks vs:List D)(r:Ro):getC 0 (some (.od t ks vs)::r)=some (.dct t ks vs):=nr1 rfl
end
end
section
section
variable {X:Cx} {a b e:Expr} {fa fb f:Ro→Option D} {pos:Pos} {K:W.Frag}
noncomputable def shrI:D→D→Option D:=i2 (fun _ j=>decide (0≤j)) fun i j=>i / 2 ^ j.toNat
theorem y53(ha:MC X a fa)(hb:MC X b fb):ME X (.BinOp a .RShift b pos) (b2 fa fb shrI):=Yls y38 (Ysi (fun _ _ h=>of_decide_eq_true h)) ha hb
theorem Yqy{M:Model}{A:Around}{E:Value→Shared→Prop}{s:Shared}{Q:Value→Shared→Prop}{v:Value}{k:Bool}(hb:∀id,v≠.builtin id)(h:Q (.bool (v==.bool k)) s):wpAny M A (compareOp .Is v (.bool k)) Q E s:=by
 cases v<;>first | exact wpAny_pure h | exact absurd rfl (hb _)
noncomputable def isBl(k:Bool):D→Bool
 | .bl j=>j==k
 | _=>false
noncomputable def isB(neg:Bool):D→D→Option Bool
 | d,.bl k=>some (isBl k d != neg)
 | _,_=>none
theorem vbl{x:V}{v:Value}(r:RelV x v)(k:Bool):(v==.bool k)=decide (x=.bl k):=by
 cases x with
 | bl j=>
   cases (show v=Value.bool j from r)
   by_cases h:j=k
   ·subst h;simp
   ·simp[h]
 | non=>cases (show v=Value.none from r);rfl
 | int i=>obtain⟨t,rfl⟩:=r;rfl
 | str i=>obtain⟨t,rfl⟩:=r;rfl
 | ref i=>cases (show v=Value.ref i from r);rfl
 | _=>first | (obtain⟨t,rfl⟩:=r;rfl) | (cases r;rfl)
theorem nobl{x:V}{v:Value}(r:RelV x v):∀id,v≠.builtin id:=fun id z=>by
 subst z
 cases x<;>first | (obtain⟨t,h⟩:=r;cases h;done) | (cases r;done)
theorem y54:OpR X (compareOp .Is) (fun x y H Q=>∃k,y=.bl k∧Q (.bl (decide (x=.bl k) != false)) H):=by
 intro pins s σ H x y v u Q I rx ry h
 obtain⟨k,rfl,q⟩:=h
 cases ry
 refine Yqy (nobl rx) ⟨_,H,I,?_,q⟩
 rw[vbl rx]
 simp
 rfl
theorem y2e{G H:Hp}{d:D}{v:V}(r:Ct K G H d v)(k:Bool):decide (v=.bl k)=isBl k d:=by
 cases d with
 | bl j=>
   rw[Ct]at r
   subst r
   by_cases h:j=k
   ·subst h;simp[isBl]
   ·simp[isBl,h]
 | non=>rw[Ct]at r;subst r;simp[isBl]
 | int i=>rw[Ct]at r;subst r;simp[isBl]
 | str i=>rw[Ct]at r;obtain⟨rfl,_⟩:=r;simp[isBl]
 | tup l=>rw[Ct]at r;obtain⟨a,xs,rfl,_⟩:=r;simp[isBl]
 | lst l=>rw[Ct]at r;obtain⟨a,xs,rfl,_⟩:=r;simp[isBl]
 | scr l=>rw[Ct]at r;obtain⟨a,rfl,_⟩:=r;simp[isBl]
 | dct t l m=>rw[Ct]at r;obtain⟨a,xs,ys,rfl,_⟩:=r;simp[isBl]
theorem y2f{neg:Bool}:Yfy K (fun x y H Q=>∃k,y=.bl k∧Q (.bl (decide (x=.bl k) != neg)) H) (isB neg):=by
 intro x y dx dy c H G Q h s rx ry q
 unfold isB at h
 split at h
 ·rename_i k
  cases h
  have e:=y2e rx k
  rw[Ct]at ry
  subst ry
  exact⟨k,rfl,by rw[e];exact q⟩
 ·cases h
theorem y55(ha:MC X a fa)(hb:MC X b fb):ME X (.Compare a [.Is] [b] pos) (mB (b2 fa fb (isB false))):=Yji y54 y2f ha hb (Yew _)
noncomputable def minC:List D→Option D
 | [.int i,.int j]=>some (.int (if j < i then j else i))
 | _=>none
theorem Ywa{G H:Hp}{i j:Int}{vs:List V}(r:CtL K G H [.int i,.int j] vs):vs=[.int i,.int j]:=by
 obtain⟨x,r,rfl,h1,h2⟩:=r
 obtain⟨y,r,rfl,h3,h4⟩:=h2
 cases (show r=[] from h4)
 rw[Ct]at h1
 rw[Ct]at h3
 rw[h1,h3]
theorem Ywb:SemC K (fun xs H Q=>∃i j,xs=[.int i,.int j]∧Q (.int (if j < i then j else i)) H) minC:=by
 intro vs ds d H G Q h s r q
 unfold minC at h
 split at h
 ·rename_i i j
  cases h
  exact⟨i,j,Ywa r,q _ H G (.refl s) (by rw[Rp])⟩
 ·cases h
theorem nr2{α:Sort _}{a b:α}(h:a=b):a=b:=h
@[simp] theorem isB_bl(neg:Bool)(d:D)(k:Bool):isB neg d (.bl k)=some (isBl k d != neg):=nr2 rfl
@[simp] theorem minC_ints(i j:Int):minC [.int i,.int j]=some (.int (if j < i then j else i)):=nr2 rfl
theorem Yqz(i:Int)(j:Nat):shrI (.int i) (.int (j:Int))=some (.int (i / 2 ^ j)):=by
 simp[shrI,i2]
end
end
section
set_option maxRecDepth 100000
section
variable {prog:Program} {w:World} {A:Around} {E:Value→Shared→Prop} {s:Shared}
theorem Ywc:typeLookup (.type "list") "keys"=pure none:=by rw[typeLookup_type,builtinLookup_eq_fast];kernel_rfl
theorem y2g{a:Addr}{o:Obj}{its:Array Value}{n:Nat}(ho:s.heap.get? a=some o)(h1:o.cls=.type "list")(h2:o.dict=none)(h3:o.data=.seq its n)(hh:A.handled=none){Q:Option Value→Shared→Prop}
 (hQ:∀h' tk,(∀b ob,s.heap.get? b=some ob→h'.get? b=some ob)→Q none { s with heap:=h',toks:=tk }) :
 wpAny (model prog w) A (getAttr? (.ref a) "keys") Q E s:=by
 obtain⟨c,dc,dat,sl⟩:=o
 simp only at h1 h2 h3
 subst h1 h2 h3
 obtain⟨hp,g,d,tk,os⟩:=s
 have hT:∀tk',(⟨hp,g,d,tk',os⟩:Shared).TypeIs (.ref a) "list":=fun _=>⟨_,ho,rfl⟩
 have q1:=sub_AttributeError
 have q2:=F.slot_list_getattribute.lookup
 have q3:=F.slot_list_getattribute.bind (.ref a)
 have q4:=am_list_getattr_none
 have q5:∀t,Meets (Builtin.«object.__getattribute__» ⟨[.ref a,.str "keys" t],[]⟩) _:=fun t=>meets_getattribute_miss_list a its n sl "keys" t Ywc (by decide)
 unfold getAttr? getAttrBy? getAttrBy
 repeat (any_goals (first
  | assumption
  | exact hT _
  | ((with_reducible show wpAny _ _ (call (.builtin "list.__getattribute__") _ _) _ _ _)
     refine call_meets F.slot_list_getattribute (hT _) am_entry_list_getattribute (F.args_list_getattribute_2 _ _) (q5 _) ⟨ho,hh,fun h' tk' e new=>?_⟩)
  | wp_step))
 obtain⟨t',u',he⟩:=new.there
 show wpAny _ _ (getattributeRaised _ _ _ _ _ _ _) _ _ _
 unfold getattributeRaised
 repeat (any_goals (first
  | assumption
  | wp_step))
 exact hQ _ _ new.keeps
def PrAt(h:Heap)(u:Value)(p:Int × Value):Prop:=∃t tk o n,u=.ref t∧h.get? t=some o∧o.cls=.type "tuple"∧o.data=.seq #[.int p.1 tk,p.2] n
noncomputable def Yyz(h:Heap):List Value→List (Int × Value)→Prop
 | [],[]=>True
 | u::us,p::ps=>PrAt h u p∧Yyz h us ps
 | _,_=>False
noncomputable def Yg4(kvs:List (Key × Value)):List (Int × Value)→List (Key × Value)
 | []=>kvs
 | p::ps=>Yg4 (stored kvs (Sum.inl p.1) p.2) ps
theorem Yty(kvs:List (Key × Value))(k:Key)(v:Value):(stored kvs k v).length≤kvs.length+1:=by
 unfold stored
 split
 ·rw[qf];lia
 ·simp
theorem Yox:entryFor table "dict.update.loop"=some Builtin.«dict.update.loop»:=entryFor_of_tree (by kernel_rfl)
theorem Yg5:plainId "dict.update.loop"=true:=by decide +kernel
def OldH(h0 h:Heap):Prop:=∀b o,h0.get? b=some o→h.get? b=some o
theorem OldH.but{h0 h h':Heap}{d:Addr}(hd:h0.get? d=none)(o:OldH h0 h)(e:Heap.SameBut d h h'):OldH h0 h':=fun b ob q=>by
 rw[e.2 b fun z=>by rw[z,hd]at q;cases q]
 exact o b ob q
theorem IsListIter.but{h h':Heap}{it L d:Addr}{i:Nat}(x:h.IsListIter it L i)(e:Heap.SameBut d h h')(hd:it≠d):h'.IsListIter it L i:=by
 obtain⟨o,ho,r⟩:=x
 exact⟨o,by rw[e.2 it hd];exact ho,r⟩
theorem dul{h0:Heap}{d it L:Addr}{items:List Value}{R:Result→Shared→Prop}(hh:A.handled=none)(hd0:h0.get? d=none)(hi0:h0.get? it=none)(hdi:d≠it)(hL:h0.IsList L items.toArray) :
 ∀(ps:List (Int × Value)) (i:Nat) (c:Int) (kvs:List (Key × Value)) (s:Shared),Yyz h0 (items.drop i) ps→kvs.length+ps.length≤sizeLine→s.heap.IsListIter it L i→OldH h0 s.heap→s.heap.DictOf (Yaf prog w) d kvs→
 (∀h' tk,OldH h0 h'→h'.DictOf (Yaf prog w) d (Yg4 kvs ps)→R (.ok (.ret .none)) { s with heap:=h',toks:=tk })→
 codeAny (model prog w) A (.builtin "dict.update.loop" ⟨[.ref d,.ref it,.int c 0,.none],[]⟩) R s:=by
 intro ps
 induction ps with
 | nil=>
   intro i c kvs s hp hz hit ho hd hR
   have hL':s.heap.IsList L items.toArray:=let ⟨o,e,r⟩:=hL;⟨o,ho _ _ e,r⟩
   have hx:items.toArray[i]?=none:=by
    cases hdr:items.drop i with
    | nil=>simpa using hdr
    | cons u us=>rw[hdr]at hp;exact hp.elim
   refine codeAny_builtin Yox ?_
   rw[Around.under_plainId Yg5 _]
   show wpAny _ A.in1 (pyNext (.ref it) >>= _) _ _ s
   refine wpAny_bind (wpAny_pyNext_list_end (A:=A.in1) hh hit hL' hx fun h' hs=>?_)
   show wpAny _ A.in1 (Builtin.Dict.addKeywords d [] >>= _) _ _ _
   refine wpAny_bind (wpAny_pure (wpAny_pure (hR h' s.toks (fun b ob q=>hs b ob (fun z=>by rw[z,hi0]at q;cases q) (ho b ob q)) (hd.extBut hs hdi))))
 | cons p ps ih=>
   intro i c kvs s hp hz hit ho hd hR
   have hL':s.heap.IsList L items.toArray:=let ⟨o,e,r⟩:=hL;⟨o,ho _ _ e,r⟩
   cases hdr:items.drop i with
   | nil=>rw[hdr]at hp;exact hp.elim
   | cons u us=>
     rw[hdr]at hp
     obtain⟨⟨t,tk,ob,n,rfl,ht,hc,hdat⟩,hp⟩:=hp
     have hx:items.toArray[i]?=some (.ref t):=by
      have:=congrArg List.head? hdr
      simpa [List.head?_drop]using this
     have hus:us=items.drop (i+1):=by
      have:=congrArg List.tail hdr
      simpa using this.symm
     refine codeAny_builtin Yox ?_
     rw[Around.under_plainId Yg5 _]
     show wpAny _ A.in1 (pyNext (.ref it) >>= _) _ _ s
     refine wpAny_bind (wpAny_pyNext_list_item hit hL' hx fun h1 hi1 hs1=>?_)
     have ho1:=OldH.but hi0 ho hs1
     have hd1:=hd.sameBut hs1 hdi
     have ht1:=ho1 _ _ ht
     have hT:(Shared.TypeIs { s with heap:=h1 } (.ref t) "tuple"):=⟨ob,ht1,hc⟩
     show wpAny _ A.in1 (holding [Value.ref t] _ >>= _) _ _ _
     refine wpAny_bind (wpAny_holding (wpAny_bind (wpAny_tryCatch ?_)))
     unfold Builtin.Dict.pairItems
     refine wpAny_bind (wpAny_typeOf hT ?_)
     rw[if_pos (by decide)]
     refine wpAny_bind (wpAny_seqItems ht1 hdat (wpAny_pure ?_))
     show wpAny _ A.in1 (holding [Value.int p.1 tk,p.2] (dictSet d (.int p.1 tk) p.2)) _ _ _
     refine wpAny_holding (wpAny_dictSet_pairs (s:={ s with heap:=h1 }) (knd:=Yaf prog w) (k:=Sum.inl p.1) (Ytf (k:=.inl p.1) (u:=.int p.1 tk) ⟨tk,rfl⟩) hd1 (fun h2 hd2 hs2=>?_) (by have:=qr (a:=p) (as:=ps);lia))
     refine wpAny_pure ⟨plainId_quiet Yg5 _,?_⟩
     refine ih (i+1) (c+1) _ _ (by rw[←hus];exact hp) ?_ (IsListIter.but hi1 hs2 (Ne.symm hdi)) (OldH.but hd0 ho1 hs2) hd2 fun h' tk' o' d'=>hR h' tk' o' d'
     have:=Yty kvs (Sum.inl p.1) p.2
     have:=qr (a:=p) (as:=ps)
     lia
theorem Yju{L:Addr}{its:List Value}{ps:List (Int × Value)}{Q:Value→Shared→Prop}(hh:A.handled=none)(hL:PlainL s.heap L its.toArray)(hp:Yyz s.heap its ps)(hz:ps.length≤sizeLine)
 (hQ:∀h' tk,OldH s.heap h'→h'.DictOf (Yaf prog w) s.heap.objs.size (Yg4 [] ps)→Q (.ref s.heap.objs.size) { s with heap:=h',toks:=tk }) :
 wpAny (model prog w) A (call (.type "dict") [.ref L]) Q E s:=by
 generalize hO:({ cls:=.type "dict",data:=.dict #[] }:Obj)=dO
 refine callType_codes (Q₁:=fun obj s₁=>obj=.ref s.heap.objs.size∧s₁={ s with heap:=s.heap.push dO }) F.kt_called_dict (F.kt_typeCall_dict_1 _) F.entry_dict_init (kt_code_dict_new _ ⟨rfl,by rw[hO]⟩) ?_
 rintro obj s₁ ⟨rfl,rfl⟩
 have hnew:(s.heap.push dO).DictOf (Yaf prog w) s.heap.objs.size []:=by rw[←hO];exact Heap.DictOf.new s.heap
 refine⟨hnew.typeIs,F.args_dict_init_2 _ _,?_⟩
 unfold Builtin.«dict.__init__»
 refine wpAny_bind ?_
 unfold Builtin.Dict.selfAndRest
 refine wpAny_bind (wpAny_notOrdered_dict hnew.typeIs ?_)
 show wpAny _ _ (pure (s.heap.objs.size,[Value.ref L])) _ _ _
 refine wpAny_pure ?_
 show wpAny _ _ (Builtin.Dict.updateFrom "dict.__init__" s.heap.objs.size (.ref L) [] .none) _ _ _
 unfold Builtin.Dict.updateFrom
 obtain⟨o,n,e,h1,h2,h3⟩:=hL
 have e':(s.heap.push dO).get? L=some o:=qe _ e
 have hT:Shared.TypeIs { s with heap:=s.heap.push dO } (.ref L) "list":=⟨o,e',h1⟩
 refine wpAny_bind (wpAny_typeOf hT ?_)
 rw[if_pos (by decide)]
 refine wpAny_bind (y2g (A:=A.in1.in1) (s:={ s with heap:=s.heap.push dO }) e' h1 h2 h3 (by simp[hh]) fun h' tk keep=>?_)
 rw[if_pos (by rfl)]
 refine wpAny_bind (wpAny_rule (wpAny_bind ?_))
 have hL':h'.IsList L its.toArray:=⟨o,keep _ _ e',h1,n,h3⟩
 refine wpAny_pyIter_list (s:={ s with heap:=h',toks:=tk }) hL' ?_
 have old1:OldH s.heap h':=fun b ob q=>keep _ _ (qe _ q)
 obtain⟨od,es,ep,hod,hrest⟩:=id hnew
 have hd':=keep _ _ hod
 have hlt:s.heap.objs.size < h'.objs.size:=ql hd'
 generalize hI:({ cls:=.type "list_iterator",data:=.fields #[.ref L,.int 0 0] }:Obj)=iO
 refine wpAny_pure ⟨plainId_quiet Yg5 _,?_⟩
 refine dul (h0:=s.heap) (by simp[hh]) (Heap.get?_none_of_le (qu _)) (Heap.get?_none_of_le (Nat.le_of_lt hlt)) (qm hlt) ⟨o,e,h1,n,h3⟩ ps 0 0 [] _ (by simpa using hp) (by simpa using hz) ?_ (fun b ob q=>qe _ (old1 b ob q)) ⟨od,es,ep,qe _ hd',hrest⟩ fun h2 tk2 o2 d2=>?_
 ·exact⟨iO,qp _ (by rw[←hI];rfl),by rw[←hI],by rw[←hI];rfl⟩
 ·exact⟨rfl,hQ h2 tk2 o2 d2⟩
end
noncomputable def Ysp(H:Hp):List V→List (Int × V)→Prop
 | [],[]=>True
 | x::xs,q::qs=>(∃b,x=.ref b∧H b=some (.tup [.int q.1,q.2]))∧Ysp H xs qs
 | _,_=>False
noncomputable def Yf2(kvs:List (Key × V)):List (Int × V)→List (Key × V)
 | []=>kvs
 | q::qs=>Yf2 (putK kvs (Sum.inl q.1) q.2) qs
noncomputable def QP:List (Int × V)→List (Int × Value)→Prop
 | [],[]=>True
 | q::qs,p::ps=>(q.1=p.1∧RelV q.2 p.2)∧QP qs ps
 | _,_=>False
theorem QP.length:∀{qs:List (Int × V)} {ps:List (Int × Value)},QP qs ps→ps.length=qs.length
 | [],[],_=>rfl
 | q::qs,p::ps,h=>by rw[qr,qr,QP.length h.2]
 | [],_::_,h=>h.elim
 | _::_,[],h=>h.elim
theorem Ysq:∀{qs:List (Int × V)} {ps:List (Int × Value)} {kvs:List (Key × V)} {vs:List (Key × Value)},QP qs ps→KV kvs vs→KV (Yf2 kvs qs) (Yg4 vs ps)
 | [],[],_,_,_,r=>r
 | q::qs,p::ps,kvs,vs,h,r=>by
   obtain⟨⟨h1,h2⟩,h⟩:=h
   rw[Yf2,Yg4,←h1]
   exact Ysq h (r.put (Sum.inl q.1) h2)
 | [],_::_,_,_,h,_=>h.elim
 | _::_,[],_,_,h,_=>h.elim
theorem Ylt:∀(qs:List (Int × V)) (kvs:List (Key × V)),(Yf2 kvs qs).length≤kvs.length+qs.length
 | [],kvs=>by rw[Yf2];simp
 | q::qs,kvs=>by
   rw[Yf2,qr]
   have h1:=Ylt qs (putK kvs (Sum.inl q.1) q.2)
   have h2:=Yf8 kvs (Sum.inl q.1) q.2
   lia
section
variable {X:Cx}
theorem Yoy{pins:List (Addr × Obj)}{s:Shared}{σ:L2.St}{H:Hp}(I:Inv X pins σ H s):∀{ys:List V} {its:List Value} {qs:List (Int × V)},Ysp H ys qs→Vals ys its→∃ps,Yyz s.heap its ps∧QP qs ps
 | [],its,[],_,r=>by
   cases r
   exact⟨[],trivial,trivial⟩
 | y::ys,its,q::qs,h,r=>by
   obtain⟨⟨b,rfl,hb⟩,h⟩:=h
   cases r with
   | cons r1 r2=>
     cases r1
     obtain⟨ps,h1,h2⟩:=Yoy I h r2
     obtain⟨its2,rv,⟨o,e,hc,n,hd⟩,_⟩:=I.tuple (xs:=[.int q.1,q.2]) (.of hb)
     cases rv with
     | cons ra rb=>
       cases rb with
       | cons rc rd=>
         cases rd
         obtain⟨t,rfl⟩:=ra
         exact⟨(q.1,_)::ps,⟨⟨b,t,o,n,rfl,e,hc,hd⟩,h1⟩,⟨⟨rfl,rc⟩,h2⟩⟩
 | [],_,_::_,h,_=>h.elim
 | _::_,_,[],h,_=>h.elim
noncomputable def y56(K:W.Frag):List V→Hp→VK→Prop:=fun xs H Q=>∃a ys qs,xs=[.ref a]∧SqL K H a ys∧Ysp H ys qs∧qs.length < cap6∧∀p,H p=none→Q (.ref p) (upd H p (.dK (Yf2 [] qs)))
theorem Ylu(hc:X.calm=true):Yc2 X (.type "dict") (y56 X.K):=by
 intro pins s σ H xs us Q I r h
 obtain⟨a,ys,qs,rfl,hq,hv,hl,q⟩:=h
 obtain⟨u,rfl,rx⟩:=Yf7 r
 cases rx
 have hh:X.A.handled=none:=I.ok.hd hc
 obtain⟨its,rv,pl,hz⟩:=I.list hq
 obtain⟨ps,h1,h2⟩:=Yoy I hv rv
 have hcap:cap6=1000000:=rfl
 have hps:ps.length≤sizeLine:=by rw[h2.length,sizeLine_eq];lia
 refine Yju hh pl h1 hps fun h' tk old dd=>?_
 refine⟨.ref s.heap.objs.size,_,I.laid (t':=tk) (fun b o e=>old b o e) (qu _) (Yz3 ?_ (beq_eq_false_iff_ne.mpr (Ne.symm (qm I.big))) (Ysq h2 .nil) dd),rfl,q _ (I.hok.fresh (qu _))⟩
 have:=Ylt qs []
 rw[sizeLine_eq]
 simp at this
 lia
end
noncomputable def Ye4:List D→Option (List (Int × D))
 | []=>some []
 | .tup [.int i,v]::l=>(Ye4 l).map ((i,v)::·)
 | _=>none
noncomputable def pairsOf:D→Option (List (Int × D))
 | .lst l=>Ye4 l
 | _=>none
noncomputable def putG{α:Type}(ns:List Int)(vs:List α)(i:Int)(y:α):List Int × List α:=if i∈ns then (ns,setK ns vs i y)else (ns++[i],vs++[y])
noncomputable def dctG{α:Type}(ns:List Int)(vs:List α):List (Int × α)→List Int × List α
 | []=>(ns,vs)
 | p::ps=>dctG (putG ns vs p.1 p.2).1 (putG ns vs p.1 p.2).2 ps
theorem Ytz{α:Type}{ns:List Int}{vs:List α}{i:Int}{y:α}(h:ns.Nodup):(putG ns vs i y).1.Nodup:=by
 unfold putG
 split
 ·exact h
 ·rename_i hm
  rw[List.nodup_append]
  refine⟨h,by simp,fun x hx z hz e=>?_⟩
  simp at hz
  subst hz e
  exact hm hx
theorem Yy0{α:Type}{ns:List Int}{vs:List α}{i:Int}{y:α}(h:ns.length=vs.length):(putG ns vs i y).1.length=(putG ns vs i y).2.length:=by
 unfold putG
 split
 ·rw[Ygf];exact h
 ·simp[h]
variable {K:W.Frag}
noncomputable def DQ(K:W.Frag)(G:Hp):List (Int × D)→List (Int × V)→Prop
 | [],[]=>True
 | d::ds,q::qs=>(d.1=q.1∧Rp K G d.2 q.2)∧DQ K G ds qs
 | _,_=>False
theorem DQ.length{G:Hp}:∀{ds:List (Int × D)} {qs:List (Int × V)},DQ K G ds qs→qs.length=ds.length
 | [],[],_=>rfl
 | q::qs,p::ps,h=>by rw[qr,qr,DQ.length h.2]
 | [],_::_,h=>h.elim
 | _::_,[],h=>h.elim
theorem Yjv{G H:Hp}(s:Same G H):∀{l:List D} {ps:List (Int × D)} {xs:List V},Ye4 l=some ps→RpL K G l xs→∃qs,Ysp H xs qs∧DQ K G ps qs
 | [],ps,xs,e,r=>by
   rw[Ye4]at e
   cases e
   rw[RpL]at r
   subst r
   exact⟨[],trivial,trivial⟩
 | d::l,ps,xs,e,r=>by
   unfold Ye4 at e
   split at e
   case h_1 he=>cases he
   case h_2 i v l' he=>
    injection he with he1 he2
    subst he1 he2
    obtain⟨ps',h1,rfl⟩:=qc e
    rw[RpL]at r
    obtain⟨x,xr,rfl,rx,rr⟩:=r
    obtain⟨qs,h2,h3⟩:=Yjv s h1 rr
    rw[Rp]at rx
    obtain⟨b,ys,rfl,hb,ry⟩:=rx
    rw[RpL]at ry
    obtain⟨y1,yr,rfl,r1,ry⟩:=ry
    rw[RpL]at ry
    obtain⟨y2,yr,rfl,r2,ry⟩:=ry
    rw[RpL]at ry
    subst ry
    rw[Rp]at r1
    subst r1
    exact⟨(i,y2)::qs,⟨⟨b,rfl,s _ _ hb⟩,h2⟩,⟨⟨rfl,r2⟩,h3⟩⟩
   case h_3=>cases e
theorem Yjw{G:Hp}:∀{ps:List (Int × D)} {qs:List (Int × V)} {ns:List Int} {ds:List D} {vxs:List V},DQ K G ps qs→ns.Nodup→ns.length=vxs.length→RpL K G ds vxs→
 ∃vx',Yf2 (zK ns vxs) qs=zK (dctG ns ds ps).1 vx'∧(dctG ns ds ps).1.Nodup∧(dctG ns ds ps).1.length=vx'.length∧RpL K G (dctG ns ds ps).2 vx'
 | [],[],ns,ds,vxs,_,h1,h2,h3=>⟨vxs,rfl,h1,h2,h3⟩
 | d::ps,q::qs,ns,ds,vxs,h,h1,h2,h3=>by
   obtain⟨⟨e,r⟩,h⟩:=h
   rw[Yf2,y0h h2 h1,dctG]
   have e1:(putI ns vxs q.1 q.2).1=(putG ns ds d.1 d.2).1:=by
    unfold putI putG
    rw[e]
    split<;>rfl
   rw[e1]
   refine Yjw h (Ytz h1) ?_ ?_
   ·rw[←e1]
    exact Yy0 (vs:=vxs) h2
   ·unfold putI putG
    rw[e]
    split
    ·exact Yqs q.1 r h3
    ·exact RpL.snoc r h3
 | [],_::_,_,_,_,h,_,_,_=>h.elim
 | _::_,[],_,_,_,h,_,_,_=>h.elim
section
variable {X:Cx} {e:Expr} {f:Ro→Option D} {pos:Pos}
noncomputable def sDct(i:Nat)(f:Ro→Option D):Ro→Option Out:=fun ρ=>((f ρ).bind pairsOf).bind fun ps=>if ps.length < cap6 then some (.nx (ρ.set i (some (.od false ((dctG [] [] ps).1.map D.int) (dctG [] [] ps).2))))else none
theorem y57(hc:X.calm=true)(i:Nat){x:Str}{pos' p2 cpos:Pos}(hN:X.N.Nodup)(hg:Gl X "dict")(hm:X.mg "dict"=none)(ha:MC X e f)(hi:X.N[i]?=some x:=by rfl)(hx:Loc X.env.scope x:=by first | exact Or.inl rfl | exact Or.inr rfl)
 (hst:starEach [e] X.env=[(false,eval e X.env)]:=by rfl) (hpl:(backTo cpos (starEach [] X.env)).any (·.1)=false:=by rfl)
 (hs:swapsWith (.Call (.Name "dict" p2) [e] [] cpos) (some (.Name x pos')) pos.line X.env=pure false:=by rfl)
 (hf:X.fn x=true∨X.env.scope.names.lookup x=some .local:=by first | exact .inl rfl | exact .inr rfl):MS X (.Assign [.Name x pos'] (.Call (.Name "dict" p2) [e] [] cpos) pos) (sDct i f):=
 PS.imp (Yr9 hN hi hx (Yc3 (Ylu hc) hg hm (by decide +kernel) (Yeb ha Ygc hst) (by decide) (by decide) hst hpl) hs hf) fun F σ H hx_=>by
  obtain⟨ρ,out,H0,G0,G,e,s,h⟩:=hx_
  unfold sDct at e
  obtain⟨ps,h1,e⟩:=qa e
  obtain⟨d,h2,h3⟩:=qa h1
  split at e
  case isFalse=>cases e
  rename_i hcap
  cases e
  refine tCAof.at (show Yh f aNil ρ=some [d] by simp[Yh,aNil,h2]) s fun vs H1 G1 g1 r1 s1=>?_
  obtain⟨v,rfl,rv⟩:=Ybw r1
  cases d with
  | lst l=>
    rw[Ct]at rv
    obtain⟨a,xs,rfl,hq,rl⟩:=rv
    obtain⟨qs,h4,h5⟩:=Yjv s1.seen (show Ye4 l=some ps from h3) rl
    refine⟨a,xs,qs,rfl,.inl hq,h4,by rw[h5.length];exact hcap,fun p hp=>?_⟩
    obtain⟨vx',k1,k2,k3,k4⟩:=Yjw (ns:=[]) (ds:=[]) (vxs:=[]) h5 List.nodup_nil rfl .nil
    exact h _ _ G1 (s1.set_od i (.hid s1.seen hp _) hp (s1.seen.free hp) (kxs:=(dctG [] [] ps).1.map V.int) (vxs:=vx') (Yyv (by rw[←k1];exact Yv) k2 k3) (.ints _) k4)
  | _=>cases h3
@[simp] theorem y2h{ρ:Ro}(i:Nat):sDct i f ρ=((f ρ).bind pairsOf).bind fun ps=>if ps.length < cap6 then some (.nx (ρ.set i (some (.od false ((dctG [] [] ps).1.map D.int) (dctG [] [] ps).2))))else none:=nr1 rfl
end
section
variable {prog:Program} {w:World} {A:Around} {E:Value→Shared→Prop} {s:Shared}
noncomputable def Yoz:Int:=4238894112
theorem Ywd{Q:Int→Shared→Prop}(h:Q Yoz { s with toks:=s.toks+1 }):wpAny (model prog w) A (pyHash .none) Q E s:=by
 have hT:s.TypeIs .none "NoneType":=rfl
 unfold pyHash pyHashByItsType
 have hv:[Value.none].any Value.onHeap=false:=rfl
 refine wpAny_bind ?_
 rw[cRoomFor,if_neg (by rw[hv];exact qi)]
 refine wpAny_pure (wpAny_bind (wpAny_specialOf hT F.slot_NoneType_hash.lookup ?_))
 show wpAny _ _ (if (some (Value.builtin "NoneType.__hash__")==some Value.none)=true then _ else _) Q E s
 rw[if_neg (by decide)]
 refine wpAny_bind (wpAny_specialOf hT F.slot_NoneType_hash.lookup ?_)
 show wpAny _ _ (callSpecialIfBoundUnlessNone? .none "__hash__" _ >>= _) Q E s
 refine wpAny_bind (wpAny_callSpecialIfBoundUnlessNone?_slot hT F.slot_NoneType_hash
  (wpAny_call_entry F.slot_NoneType_hash hT F.entry_NoneType_hash
   (show wpAny _ _ (do ret (←mkInt Yoz)) _ _ s from wpAny_ret_mkInt ?_) (F.args_NoneType_hash_1 _)))
 show wpAny _ _ (if (decide (-(2:Int) ^ 63≤Yoz)&&decide (Yoz < 2 ^ 63))=true then _ else _) Q E _
 rw[if_pos (by decide)]
 exact wpAny_pure h
theorem Yy1{d:Addr}{o:Obj}{es:Array DictEntry}{ep:Nat}{Q:Option Value→Shared→Prop}(ho:s.heap.get? d=some o)(hd:o.data=.dict es ep)(hn:∀e∈es,e.hash≠Yoz)(h:Q none { s with toks:=s.toks+1 }) :
 wpAny (model prog w) A (dictGet d .none) Q E s:=by
 have hpl:placesWithHash es.size (fun i=>es[i]?.map (·.hash)) Yoz=[]:=by
  unfold placesWithHash
  rw[List.filter_eq_nil_iff]
  intro i hi
  have hl:i < es.size:=Qb hi
  intro z
  simp only[Qr hl,Option.map_some]at z
  exact hn _ (Array.getElem_mem hl) (by simpa using z)
 unfold dictGet
 refine wpAny_holding (wpAny_bind (Ywd (wpAny_bind ?_)))
 unfold dictFind
 refine wpAny_holding (wpAny_bind (wpAny_dictEntries (s:={ s with toks:=s.toks+1 }) ho hd ?_))
 dsimp only
 rw[hpl]
 show wpAny _ _ (if ([Value.none].all carriedByValue)=true then _ else _) _ _ _
 rw[if_pos (by rfl)]
 exact wpAny_pure (wpAny_pure h)
noncomputable def Ysr(ns:List Int):Bool:=ns.all fun n=>decide (-1000000000 < n∧n < 1000000000)
theorem Ywe{kvs:List (Key × Value)}:∀{es:List DictEntry},Pairs (Yaf prog w) es kvs→∀e∈es,∃kv∈kvs,(Yaf prog w).is kv.1 e.key=true:=by
 intro es h
 induction h with
 | nil=>intro e he;cases he
 | cons h1 _ _ ih=>
   intro e he
   rcases qt he with rfl | he
   ·exact⟨_,qh,h1⟩
   ·obtain⟨kv,k1,k2⟩:=ih e he
    exact⟨kv,qg _ k1,k2⟩
theorem y2i{d:Addr}{kvs:List (Key × Value)}{ns:List Int}{Q:Option Value→Shared→Prop}(hm:s.heap.DictOf (Yaf prog w) d kvs)(hk:kvs.map (·.1)=ns.map Sum.inl)(hs:Ysr ns=true)(h:Q none { s with toks:=s.toks+1 }) :
 wpAny (model prog w) A (dictGet d .none) Q E s:=by
 obtain⟨o,es,ep,ho,_,hd,hk1,hp,_⟩:=hm
 refine Yy1 ho hd (fun e he=>?_) h
 obtain⟨k,k1,k2⟩:=hk1 e he
 obtain⟨kv,k3,k4⟩:=Ywe hp e (by simpa using he)
 have ek:k=kv.1:=(Yaf prog w).inj _ _ _ k1 k4
 have hmem:kv.1∈kvs.map (·.1):=Qm k3
 rw[hk]at hmem
 obtain⟨n,hn,en⟩:=qx hmem
 have hsm:=List.all_eq_true.mp hs n hn
 simp only[decide_eq_true_eq]at hsm
 rw[k2,ek,←en]
 show hashInt n≠Yoz
 intro z
 have:hashInt n=n∨hashInt n=-2:=by
  have e0:((2 ^ 61 - 1:Nat):Int)=2305843009213693951:=by decide
  have e:(n.natAbs:Int) % ((2 ^ 61 - 1:Nat):Int)=(n.natAbs:Int):=Int.emod_eq_of_lt (by lia) (by rw[e0];lia)
  have e2:(if n < 0 then -(n.natAbs:Int)else (n.natAbs:Int))=n:=by split<;>lia
  have e3:rawHash n=if (n==-1)=true then -2 else n:=by
   unfold rawHash
   simp only[e,e2]
  unfold hashInt
  rw[e3]
  by_cases h1:n=-1
  ·subst h1;right;decide
  ·left
   have h2:(n==-1)=false:=by simpa using h1
   simp[h2]
 unfold Yoz at z
 lia
end
section
variable {prog:Program} {w:World} {A:Around} {E:Value→Shared→Prop} {s:Shared}
theorem Yy2{d:Addr}{kvs:List (Key × Value)}{ns:List Int}{Q:Bool→Shared→Prop}(hd:(d==sysModules)=false)(hm:s.heap.DictOf (Yaf prog w) d kvs)(hk:kvs.map (·.1)=ns.map Sum.inl)(hs:Ysr ns=true)
 (h:Q false { s with toks:=s.toks+1 }):wpAny (model prog w) A (contains (.ref d) .none) Q E s:=by
 have hT:=hm.typeIs
 unfold contains
 refine wpAny_holding (wpAny_bind (wpAny_specialOf hT slot_dict_contains.lookup ?_))
 show wpAny _ _ (if (some (Value.builtin "dict.__contains__")==some Value.none)=true then _ else _) _ _ _
 rw[if_neg (by decide)]
 refine wpAny_bind (wpAny_callSpecialUnlessNone?_slot (name:=Str.ofString "__contains__") hT slot_dict_contains (wpAny_call_entry slot_dict_contains hT entry_dict_contains ?_ (args_dict_contains _ _)))
 show wpAny _ _ (dictGet d .none >>= _) _ _ s
 refine wpAny_bind (y2i hm hk hs ?_)
 show wpAny _ _ (Builtin.Dict.pendingKey? d .none >>= _) _ _ _
 exact wpAny_bind (wpAny_pendingKey_other hd (wpAny_pure ⟨_,rfl,wpAny_truthy_bool h⟩))
end
noncomputable def hasN(neg:Bool):D→D→Option Bool
 | .int i,.dct false ks vs=>hasI neg (.int i) (.dct false ks vs)
 | .non,.dct false ks _=>(intsD ks).bind fun ns=>if Ysr ns=true then some (false != neg)else none
 | _,_=>none
noncomputable def rInN(neg:Bool):R2:=fun x y H Q=>rInI neg x y H Q∨(x=.non∧∃a kvs ns,y=.ref a∧H a=some (.dK kvs)∧kvs.map (·.1)=ns.map Sum.inl∧Ysr ns=true∧Q (.bl (false != neg)) H)
theorem Yy3{neg:Bool}:Yfy K (rInN neg) (hasN neg):=by
 intro x y dx dy b H G Q h s rx ry q
 unfold hasN at h
 split at h
 ·exact .inl (Yyx x y _ _ b H G Q h s rx ry q)
 ·rename_i ks vs
  obtain⟨ns,h1,h⟩:=qa h
  split at h
  case isFalse=>cases h
  rename_i hsm
  injection h with h
  subst h
  rw[Ct]at rx
  rw[Ct]at ry
  subst rx
  obtain⟨a,kxs,vxs,rfl,dc,r1,r2⟩:=ry
  obtain⟨e1,e2,e3,e4⟩:=Yqu h1 dc r1
  exact .inr ⟨rfl,a,_,ns,rfl,e1,Ye3 ns vxs e3,hsm,q⟩
 ·cases h
section
variable {X:Cx}
theorem y2j{kvs:List (Key × V)}{vs:List (Key × Value)}(rel:KV kvs vs):vs.map (·.1)=kvs.map (·.1):=by
 induction rel with
 | nil=>rfl
 | cons r _ ih=>rw[Qd,Qd,r.1,ih]
theorem y58(hu:X.A.units+64 < cLine):OpR X (compareOp .In) (rInN false):=by
 intro pins s σ H x y v u Q I rx ry h
 rcases h with h | ⟨rfl,a,kvs,ns,rfl,ha,hk,hs,q⟩
 ·exact y50 hu pins s σ H x y v u Q I rx ry h
 ·cases rx
  cases ry
  obtain⟨z,hd,vs,rel,dd⟩:=y4h I.hok ha
  show wpAny _ _ (do return Value.bool (←contains (.ref a) .none)) _ _ s
  refine wpAny_bind (Yy2 hd dd ((y2j rel).trans hk) hs (wpAny_pure ?_))
  exact⟨.bl (false != false),H,I.tok _,rfl,q⟩
variable {a b e f':Expr} {fa fb f fz:Ro→Option D} {pos:Pos}
theorem y59(hu:X.A.units+64 < cLine)(ha:MC X a fa)(hb:MC X b fb)(hm:behindInMarks .In b=false:=by with_unfolding_all rfl):MT X (.Compare a [.In] [b] pos) (b2 fa fb (hasN false)):=Yil (y58 hu) Yy3 ha hb hm
@[simp] theorem Yms(neg:Bool)(ks vs:List D)(i:Int):hasN neg (.int i) (.dct false ks vs)=(intsD ks).map fun ns=>decide (i∈ns) != neg:=nr1 rfl
end
end
section
end
section
section
variable {prog:Program} {w:World} {A:Around} {E:Value→Shared→Prop} {s:Shared}
theorem Yq0{t sl:Addr}{items:Array Value}{vl vu:Value}{lo hi:Option Int}{Q:Value→Shared→Prop}(ht:IsTup s.heap t items)(hs:s.heap.IsSliceOf sl vl vu .none)(pl:IsPart vl lo)(pu:IsPart vu hi)
 (h0:HT.sIx items.size 0 lo=0) (h1:HT.sIx items.size items.size hi=items.size) (h:Q (.ref t) s):wpAny (model prog w) A (getItem (.ref t) (.ref sl)) Q E s:=by
 obtain⟨os,hos,hcs,hds⟩:=id hs
 have hTs:s.TypeIs (.ref sl) "slice":=⟨os,hos,hcs⟩
 unfold getItem
 try with_reducible refine wpAny_holding ?_
 first | refine wpAny_bind (wpAny_pure ?_) | skip
 refine wpAny_bind (wpAny_sequenceKey ht.typeIs (by decide) ?_)
 refine wpAny_bind (wpAny_callSpecial?_slot (name:=Str.ofString "__getitem__") ht.typeIs PyProof.Rows.slot_tuple_getitem (wpAny_call_entry PyProof.Rows.slot_tuple_getitem ht.typeIs entry_tuple_getitem ?_ (args_tuple_getitem _ _)))
 show wpAny _ _ (Builtin.Tuple.tupleItemsOf (.ref t) >>= _) _ _ s
 refine wpAny_bind (tupleItemsOf_ ht ?_)
 refine wpAny_bind (wpAny_typeOf hTs ?_)
 rw[if_pos (by decide)]
 refine wpAny_bind (HT.sliceApplied_gen hs pl pu ?_)
 show wpAny _ _ (if (((HT.sIx items.size 0 lo:Nat):Int)==0&&(1:Int)==1&&(HT.sIx items.size items.size hi - HT.sIx items.size 0 lo)==items.size)=true then _ else _) _ _ s
 rw[if_pos (by rw[h0,h1];simp)]
 refine wpAny_bind ?_
 unfold Builtin.Tuple.tupleIsExact
 refine wpAny_bind (wpAny_typeOf ht.typeIs (wpAny_pure ?_))
 rw[if_pos (by decide)]
 exact wpAny_bind (wpAny_rule (wpAny_pure ⟨_,rfl,wpAny_pure h⟩))
end
section
variable {X:Cx}
noncomputable def rSlW(K:W.Frag):V→Option Int→Option Int→Hp→VK→Prop:=fun x lo hi H Q=>∃a xs,x=.ref a∧SqT K H a xs∧HT.sIx xs.length 0 lo=0∧HT.sIx xs.length xs.length hi=xs.length∧Q (.ref a) H
theorem Yy4:SlR X (rSlW X.K):=by
 intro pins s σ H x v vl vu lo hi sl Q I rx hs pl pu h
 obtain⟨a,xs,rfl,hx,h0,h1,q⟩:=h
 cases rx
 obtain⟨its,r,ht,hz⟩:=I.tuple hx
 have hlen:its.toArray.size=xs.length:=by rw[qk];exact r.length.symm
 refine⟨"tuple",_,PyProof.Rows.slot_tuple_getitem.lookup,ht.typeIs,Yq0 ht hs pl pu (by rw[hlen];exact h0) (by rw[hlen];exact h1) ?_⟩
 exact⟨.ref a,H,I,rfl,q⟩
noncomputable def cutC(i j:Option Int):D→Option D
 | .lst l=>some (.lst (cutD l i j))
 | .tup l=>some (.tup (cutD l i j))
 | _=>none
noncomputable def slD(fa:Ro→Option D)(lo hi:Option (Ro→Option D)):Ro→Option D:=fun ρ=>(fa ρ).bind fun d=>(optI lo ρ).bind fun i=>(optI hi ρ).bind fun j=>cutC i j d
variable {a e:Expr} {fa f:Ro→Option D} {pos:Pos}
theorem Yy5{lo hi:Option Expr}{fl fh:Option (Ro→Option D)}{p2:Pos}(ha:MC X a fa)(hl:PO X lo (tO X.K fl))(hh:PO X hi (tO X.K fh)):ME X (.Subscript a (.Slice lo hi none p2) pos) (slD fa fl fh):=
 PE.imp (Ysd (SlR.or Yu6 (SlR.or y4o Yy4)) ha hl hh) fun σ H Q hx_=>by
  obtain⟨ρ,d,H0,G0,G,e,s,h⟩:=hx_
  unfold slD at e
  obtain⟨d0,h1,e⟩:=qa e
  obtain⟨i,h2,e⟩:=qa e
  obtain⟨j,h3,e⟩:=qa e
  refine tCof.at h1 s fun v H1 G1 g1 r1 s1=>Yyi h2 s1 fun H2 G2 g2 s2=>Yyi h3 s2 fun H3 G3 g3 s3=>?_
  have r3:=(r1.grow g2).grow g3
  have gg:=(g1.trans g2).trans g3
  unfold cutC at e
  split at e
  ·rename_i l
   cases e
   rw[Ct]at r3
   obtain⟨p,xs,rfl,g,rl⟩:=r3
   refine .inl ⟨p,xs,rfl,.inl g,fun q hq=>?_⟩
   refine h _ _ _ (gg.trans (Gr.new (p:=q) s3.seen hq (.lst (cutV xs i j)))) ?_
   rw[Rp]
   refine⟨q,_,rfl,.inl Yv,?_⟩
   unfold cutD cutV
   rw[rl.length]
   exact((rl.drop _).take _).mono (Gr.new (p:=q) s3.seen hq _).g
  ·cases e
   rw[Ct]at r3
   obtain⟨p,xs,rfl,⟨g,gG⟩,rl⟩:=r3
   by_cases hw:HT.sIx xs.length 0 i=0∧HT.sIx xs.length xs.length j=xs.length
   ·refine .inr (.inr ⟨p,xs,rfl,.of g,hw.1,hw.2,h _ H3 G3 gg ?_⟩)
    rw[Rp]
    refine⟨p,xs,rfl,gG,?_⟩
    unfold cutD
    rw[←rl.length,hw.1,hw.2,List.drop_zero,Nat.sub_zero,rl.length,List.take_length]
    exact rl
   ·refine .inr (.inl ⟨p,xs,rfl,.of g,hw,fun q hq=>?_⟩)
    refine h _ _ _ (gg.trans (Gr.new (p:=q) s3.seen hq (.tup (cutV xs i j)))) ?_
    rw[Rp]
    refine⟨q,_,rfl,Yv,?_⟩
    unfold cutD cutV
    rw[rl.length]
    exact((rl.drop _).take _).mono (Gr.new (p:=q) s3.seen hq _).g
  ·cases e
@[simp] theorem ap_slD{ρ:Ro}(lo hi:Option (Ro→Option D)):slD fa lo hi ρ=(fa ρ).bind fun d=>(optI lo ρ).bind fun i=>(optI hi ρ).bind fun j=>cutC i j d:=nr1 rfl
@[simp] theorem cutC_tup(i j:Option Int)(l:List D):cutC i j (.tup l)=some (.tup (cutD l i j)):=nr1 rfl
end
end
section
set_option maxRecDepth 100000
section
variable {prog:Program} {w:World} {A:Around} {E:Value→Shared→Prop} {s:Shared}
theorem Ygh:isSubtype (.type "set") (.type "set")=pure true:=by rw[isSubtype_type];kernel_rfl
theorem y2k{vals:List Int}:∀{acc:List Value},acc.length=vals.length→(∀(j:Nat) v,acc[j]?=some v→PInt vals j v)→IntsAre acc vals:=by
 induction vals with
 | nil=>
   intro acc h _
   rw[List.length_eq_zero_iff.mp h]
   exact .nil
 | cons k r ih=>
   intro acc h hp
   match acc,h with
   | v::acc,h=>
     obtain⟨k',t,e1,e2⟩:=hp 0 v rfl
     simp at e1
     subst e1
     subst e2
     refine .cons _ t (ih (by simpa using h) fun j v hj=>?_)
     obtain⟨k',t,e1,e2⟩:=hp (j+1) v (by simpa using hj)
     exact⟨k',t,by simpa using e1,e2⟩
theorem Yq1{a:Addr}{ns:List Int}(hh:A.handled=none)(hS:SetI prog w s.heap a ns){Q:List Value→Shared→Prop}
 (hQ:∀(h':Heap) (d':Drawn) (tk:Nat) (acc:List Value) (vals:List Int),s.heap.objs.size≤h'.objs.size→(∀b o,s.heap.get? b=some o→h'.get? b=some o)→IntsAre acc vals→vals.Perm ns→Q acc { s with heap:=h',drawn:=d',toks:=tk }) :
 wpAny (model prog w) A (collect (.ref a)) Q E s:=by
 obtain⟨o,es,ep,t,ho,hex,hd,_⟩:=id hS
 have hlt:a < s.heap.objs.size:=ql ho
 have hlen:=hS.len
 unfold collect
 refine wpAny_bind (wpAny_runValue (codeAny_builtin F.entry_proto_collect ?_))
 rw[Around.under_plainId F.plain_proto_collect _]
 show wpAny _ A.in1 (newList [] >>= fun l=>again (.builtin "list.__iadd__" ⟨[l,.ref a],[]⟩)) _ _ s
 refine wpAny_bind (wpAny_newObj_type ?_)
 refine wpAny_pure ⟨plainId_quiet F.plain_list_iadd _,codeAny_builtin F.entry_list_iadd ?_⟩
 rw[Around.under_plainId F.plain_list_iadd _]
 generalize hH:s.heap.push { cls:=.type "list",data:=.seq ([]:List Value).toArray }=H
 have hHs:H.objs.size=s.heap.objs.size+1:=by rw[←hH,Heap.size_push]
 have keepH:∀b o,s.heap.get? b=some o→H.get? b=some o:=fun b o e=>by rw[←hH];exact qe _ e
 have hL:H.get? s.heap.objs.size=some { cls:=.type "list",data:=.seq ([]:List Value).toArray }:=by rw[←hH];exact qp _ rfl
 have hoH:=keepH a o ho
 have hT:Shared.TypeIs { s with heap:=H } (.ref a) "set":=⟨o,hoH,hex.1⟩
 have hSI:s.heap.objs.size≠a:=fun z=>by rw[←z]at hlt;exact absurd hlt (Qg _)
 have h1:Builtin.List.listSameRef (.ref s.heap.objs.size) (.ref a)=false:=by simp[Builtin.List.listSameRef,hSI]
 show wpAny _ A.in1 (Builtin.List.listExtendWith (.ref s.heap.objs.size) (.ref a) (.ref s.heap.objs.size)) _ _ _
 unfold Builtin.List.listExtendWith
 refine wpAny_bind (wpAny_typeOf hT ?_)
 have h2:(Value.type "set"==Value.type "list")=false:=by decide
 have h3:(Value.type "set"==Value.type "tuple")=false:=by decide
 simp only[h1,h2,h3,Bool.or_false,Qo,if_false]
 refine wpAny_bind (Yyg (s:={ s with heap:=H }) (hS.at fun o e=>keepH a o e) fun h' d' I fp vals St keep hI hIf hfp hp hW hst hty=>?_)
 have ho':=keep a o hoH
 have hT':Shared.TypeIs { s with heap:=h',drawn:=d' } (.ref a) "set":=⟨o,ho',hex.1⟩
 refine wpAny_bind (wpAny_holding ?_)
 unfold Builtin.List.listLengthHint
 refine wpAny_bind (wpAny_specialOf hT' F.slot_set_len.lookup ?_)
 (generalize hid:("set.__len__":String)=id0;(fail_if_success (clear hid id0));wp_delta;rw[show splitId id0=some ("set","__len__") from by subst hid;decide +kernel];subst hid)
 refine wpAny_bind (wpAny_isInstance (b:=true) hT' Ygh ?_)
 show wpAny _ A.in1 (typeOf (Value.ref a) >>= _) _ _ _
 refine wpAny_bind (wpAny_typeOf hT' ?_)
 refine wpAny_pure ?_
 rw[if_pos (by decide)]
 refine wpAny_bind (wpAny_rule ?_)
 have hSf:s.heap.objs.size∉fp:=fun hm=>by
  rcases(hfp _ hm).2 with z | z
  ·exact hSI z
  ·rw[show({ s with heap:=H }:Shared).heap.objs.size=H.objs.size from rfl,hHs]at z
   exact absurd z (Nat.not_le.mpr (Qa _))
 have hS₁:h'.get? s.heap.objs.size=some { cls:=.type "list",data:=.seq ([]:List Value).toArray }:=keep _ _ hL
 refine wpAny_bind ?_
 show wpAny _ A.in1 (updateSeq s.heap.objs.size (·.push .none) >>= fun _=>updateSeq s.heap.objs.size (·.pop)) _ _ _
 refine wpAny_bind (wpAny_updateSeq hS₁ rfl ?_)
 have hS₂:=Heap.get?_update_self (Obj.mapSeq (·.push Value.none)) hS₁ rfl
 refine wpAny_updateSeq hS₂ rfl ?_
 have hS₃:=Heap.get?_update_self (Obj.mapSeq (·.pop)) hS₂ rfl
 have oth:∀b o,b≠s.heap.objs.size→h'.get? b=some o→
  ((h'.update s.heap.objs.size (Obj.mapSeq (·.push Value.none))).update s.heap.objs.size (Obj.mapSeq (·.pop))).get? b=some o:=
  fun b o hb e=>(Heap.get?_update_other _ _ (Ne.symm hb)).trans ((Heap.get?_update_other _ _ (Ne.symm hb)).trans e)
 have W:=(hW A.in1 hh).toS
 refine wpAny_pure ⟨plainId_quiet F.plain_extend_loop _,codeAny_extend_loopS W (fits_of_scanBound hlen) _ hSf _ ns.length 0 _ _ _ rfl (Nat.zero_le _)
  (W.frame 0 ({ s with heap:=h',drawn:=d' }:Shared) _ s.toks hst (qu _) fun b hb o e=>oth b o (fun h=>hSf (h ▸ hb)) e) hS₃ (ItemsOf.nil _) fun s' acc' c' hm hS' hacc=>?_⟩
 show wpAny _ A (load s.heap.objs.size >>= _) _ _ s'
 refine wpAny_bind (wpAny_load hS' ?_)
 have eg:s'.gens=s.gens:=hm.gens
 have ed:s'.drawn=d':=hm.drawn
 have eo:s'.os=s.os:=hm.os
 have es':s'={ s with heap:=s'.heap,drawn:=d',toks:=s'.toks }:=by
  obtain⟨a1,a2,a3,a4,a5⟩:=s'
  simp only at eg ed eo
  subst eg;subst ed;subst eo
  rfl
 rw[es']
 refine wpAny_pure (hQ s'.heap d' s'.toks acc'.toList vals (Nat.le_of_lt (ql hS')) (fun b ob e=>?_) (y2k (by rw[qj,hacc.1,hp.length_eq]) fun j v hj=>hacc.2 j v (by rw[←Array.getElem?_toList];exact hj)) hp)
 have hb:b < s.heap.objs.size:=ql e
 refine hm.heap b ob (fun hm'=>?_) (oth b ob (qm hb) (keep b ob (keepH b ob e)))
 rcases qt hm' with z | z
 ·rw[z]at hb;exact absurd hb (Qg _)
 ·rw[List.mem_singleton.mp z]at hb
  have:H.objs.size≤I:=hI
  rw[hHs]at this
  exact absurd (Qh hb (Nat.le_trans (Nat.le_succ _) this)) (Qg _)
theorem Yt0{a:Addr}{ns:List Int}(hh:A.handled=none)(hS:SetI prog w s.heap a ns)(h64:ns.length < 64){Q:Value→Shared→Prop}
 (hQ:∀(h':Heap) (d':Drawn) (tk e:Nat) (p:Addr) (out:Array Value) (ns':List Int),(∀b o,s.heap.get? b=some o→h'.get? b=some o)→s.heap.objs.size≤p→h'.get? p=some (seqObj "list" out e)→IntsAre out.toList ns'→ns'.Perm ns→ns'.Pairwise (·≤·)→
  Q (.ref p) { s with heap:=h',drawn:=d',toks:=tk }):wpAny (model prog w) A (call (.builtin "sorted") [.ref a]) Q E s:=by
 refine Calls.call_function_entry kind_sorted plain_sorted entry_sorted (args_sorted1 _) ?_
 unfold Builtin.«sorted»
 refine wpAny_bind (m:=checkCount "sorted" 1 1 _) (wpAny_pure ?_)
 refine wpAny_bind (Yq1 (A:=A.in1) hh hS fun h' d' tk acc vals hle keep hI hp=>?_)
 have hl:acc.length=vals.length:=IntsAre.length hI
 have h64':acc.length < 64:=by rw[hl,hp.length_eq];exact h64
 refine wpAny_bind (wpAny_newList ?_ (by rw[sizeLine_eq];lia))
 have hoL:(h'.push (seqObj "list" acc.toArray 0)).get? h'.objs.size=some (seqObj "list" acc.toArray 0):=qp _ rfl
 show wpAny _ _ _ _ _ { s with heap:=h'.push (seqObj "list" acc.toArray 0),drawn:=d',toks:=tk }
 refine wpAny_bind (wpAny_holding (wpAny_call_entry slot_list_sort ⟨_,hoL,rfl⟩ entry_list_sort (list_sort_tree (s:={ s with heap:=h'.push (seqObj "list" acc.toArray 0),drawn:=d',toks:=tk }) hoL hI h64' fun out ns' a1 a2 a3=>⟨_,rfl,?_⟩) (args_list_sort _)))
 obtain⟨e,he⟩:=sortedHeap_at (n:=0) (out:=out) hoL
 refine wpAny_pure ⟨_,rfl,hQ _ d' tk e h'.objs.size out ns' (fun b o eb=>?_) hle he a1 (a2.trans hp) a3⟩
 have hb:=ql (keep b o eb)
 rw[sortedHeap_old (qm hb) (by rw[size_push'];exact qw hb)]
 exact qe _ (keep b o eb)
end
noncomputable def setO(P:Program)(w:World)(p:Addr)(ms:List Int):HO:=.ext fun h=>SetI P w h p ms
theorem Yq2{P:Program}{w:World}{H:Hp}{h:Heap}{p:Addr}{ms:List Int}(x:SetI P w h p ms):ObjOk P w H h p (setO P w p ms):=by
 refine⟨x,?_,fun h1 h2 e k=>e.at k⟩
 obtain⟨o,_,_,_,ho,_⟩:=x
 exact⟨o,ho⟩
section
variable {X:Cx} {pins:List (Addr × Obj)} {σ:L2.St} {H:Hp} {s:Shared}
theorem _root_.L2.Inv.dr(I:Inv X pins σ H s)(d':Drawn):Inv X pins σ H { s with drawn:=d' }:=⟨I.ok,I.os,I.bare,I.base,I.loc,I.cell,I.free,I.freeC,I.pin,I.hok,I.len⟩
theorem Yo0{ns:List Int}{us:List Value}(r:Vals (ns.map V.int) us):IntsAre us ns:=Yfo r
noncomputable def y8g(K:W.Frag)(P:Program)(w:World):List V→Hp→VK→Prop:=fun xs H Q=>∃a ns,xs=[.ref a]∧(SqL K H a (ns.map V.int)∨SqT K H a (ns.map V.int))∧ns.length < 4000∧∀p ms,H p=none→ms.Perm (ddup [] ns)→Q (.ref p) (upd H p (setO P w p ms))
theorem Yjx(hc:X.calm=true):Yc2 X (.type "set") (y8g X.K X.prog X.w):=by
 intro pins s σ H xs us Q I r h
 obtain⟨a,ns,rfl,hq,hl,q⟩:=h
 obtain⟨u,rfl,rx⟩:=Yf7 r
 cases rx
 have hh:X.A.handled=none:=I.ok.hd hc
 have hsb:scanBound=4096:=rfl
 rcases hq with hq | hq
 ·obtain⟨its,rv,pl,hz⟩:=I.list hq
  have hlen:=rv.length
  rw[qf]at hlen
  refine Yme hh pl.isList (by simpa using Yo0 rv) (by rw[qk,hsb];lia) fun h' tk ms hS hp hk=>?_
  exact⟨.ref s.heap.objs.size,_,I.laid (t':=tk) (fun b o e=>hk b o (ql e) e) (qu _) (Yq2 hS),rfl,q _ ms (I.hok.fresh (qu _)) hp⟩
 ·obtain⟨its,rv,pl,hz⟩:=I.tuple hq
  have hlen:=rv.length
  rw[qf]at hlen
  refine Yk3 hh pl (by simpa using Yo0 rv) (by rw[qk,hsb];lia) fun h' tk ms hS hp hk=>?_
  exact⟨.ref s.heap.objs.size,_,I.laid (t':=tk) (fun b o e=>hk b o (ql e) e) (qu _) (Yq2 hS),rfl,q _ ms (I.hok.fresh (qu _)) hp⟩
noncomputable def y6a(P:Program)(w:World):List V→Hp→VK→Prop:=fun xs H Q=>∃a ms,xs=[.ref a]∧H a=some (setO P w a ms)∧ms.length < 64∧∀p,H p=none→Q (.ref p) (upd H p (.lst ((Ybn ms).map V.int)))
theorem Ylv(hc:X.calm=true):Yc2 X (.builtin "sorted") (y6a X.prog X.w):=by
 intro pins s σ H xs us Q I r h
 obtain⟨a,ms,rfl,hq,hl,q⟩:=h
 obtain⟨u,rfl,rx⟩:=Yf7 r
 cases rx
 have hh:X.A.handled=none:=I.ok.hd hc
 have hS:SetI X.prog X.w s.heap a ms:=(show ObjOk X.prog X.w H s.heap a (setO X.prog X.w a ms) from I.hok a _ hq).1
 refine Yt0 hh hS hl fun h' d' tk e p out ns' keep hp he hI hpm hs=>?_
 have en:ns'=Ybn ms:=W.ksm_same (hpm.trans (Yan ms).symm) hs (Yar ms)
 subst en
 have hn:(Ybn ms).length=ms.length:=(Yan ms).length_eq
 refine⟨.ref p,_,Inv.laid (t':=tk) (I.dr d') keep hp (show ObjOk X.prog X.w _ _ _ (.lst ((Ybn ms).map V.int)) from⟨by rw[qf,hn,sizeLine_eq];lia,out.toList,e,Yez hI,by rw[Array.toArray_toList];exact he⟩),rfl,q _ (I.hok.fresh hp)⟩
noncomputable def Yt1(l:List D):Option (List D):=match intsD l with
 | some ns=>if ns.length < 4000∧(ddup [] ns).length < 64 then some ((Ybn (ddup [] ns)).map D.int)else none
 | none=>none
theorem Yg6{a b:List Int}(h:a.Perm b):Ybn a=Ybn b:=W.ksm_same (((Yan a).trans h).trans (Yan b).symm) (Yar a) (Yar b)
end
section
variable {X:Cx} {e:Expr} {f:Ro→Option D} {p p2 pos pos2:Pos}
noncomputable def Yfr(f:Ro→Option D):Ro→Option (List D):=fun ρ=>(b1 f Yn ρ).bind Yt1
theorem nr0{α:Sort _}{a b:α}(h:a=b):a=b:=h
@[simp] theorem ap_sortsetF{ρ:Ro}:Yfr f ρ=((f ρ).bind Yn).bind Yt1:=nr0 rfl
theorem Yt2(hc:X.calm=true)(hg:Gl X "sorted")(hm:X.mg "sorted"=none)(hg2:Gl X "set")(hm2:X.mg "set"=none)(ha:MC X e f)(hs:starEach [e] X.env=[(false,eval e X.env)]:=by rfl)
 (he:starEach [.Call (.Name "set" p2) [e] [] pos2] X.env=[(false,eval (.Call (.Name "set" p2) [e] [] pos2) X.env)]:=by rfl)
 (hpl:(backTo pos2 (starEach [] X.env)).any (·.1)=false:=by rfl) (hpl2:(backTo pos (starEach [] X.env)).any (·.1)=false:=by rfl) :
 MF X (.Call (.Name "sorted" p) [.Call (.Name "set" p2) [e] [] pos2] [] pos) (Yfr f):=
 PE.imp (Ygv (Ylv hc) hg hm boot_sorted (Yex (Yc3 (Yjx hc) hg2 hm2 boot_set (Yeb ha Ygc hs) (by decide) (by decide) hs hpl) Yjb he) (by decide) (by decide) he hpl2) fun σ H Q hx_=>by
  obtain⟨ρ,l,H0,G0,G,e,s,h⟩:=hx_
  unfold Yfr at e
  obtain⟨l0,h1,e⟩:=qa e
  obtain⟨d,h2,h3⟩:=Ybv h1
  refine tCAof.at (show Yh f aNil ρ=some [d] by simp[Yh,aNil,h2]) s fun vs H1 G1 g1 r1 s1=>?_
  obtain⟨v,rfl,rv⟩:=Ybw r1
  obtain⟨q,xs,rfl,hq,rl⟩:=Yoo (K:=X.K) h3 rv
  unfold Yt1 at e
  split at e
  ·rename_i ns hns
   split at e
   ·rename_i hl
    cases e
    cases Yb7 hns
    cases Yec rl
    refine⟨q,ns,rfl,hq,hl.1,fun m ms hm' hp=>?_⟩
    have g2:=Gr.hid s1.seen hm' (setO X.prog X.w m ms)
    have s2:=s1.grow g2
    refine⟨m,ms,rfl,Yv,by rw[hp.length_eq];exact hl.2,fun r hr=>?_⟩
    rw[Yg6 hp]
    refine h r _ _ G1 ((g1.trans g2).trans (.hid s2.seen hr _)) ((g1.trans g2).h.free hr) (s2.seen.free hr) Yv (.ints _)
   ·cases e
  ·cases e
end
end
section
noncomputable def lcgN(m:Nat):Nat→Nat→Nat
 | 0,i=>i
 | k+1,i=>lcgN m k ((i * 5+1) % m)
theorem Yi5(m:Nat):∀(a b i:Nat),lcgN m (a+b) i=lcgN m b (lcgN m a i)
 | 0,b,i=>by rw[Nat.zero_add];rfl
 | a+1,b,i=>by rw[Nat.succ_add];exact Yi5 m a b _
noncomputable def y2l(m:Nat):Nat→Nat→List Nat
 | 0,_=>[]
 | k+1,i=>i::y2l m k ((i * 5+1) % m)
theorem Yo1{m j:Nat}:∀{k i:Nat},j∈y2l m k i→∃a,a < k∧lcgN m a i=j
 | 0,_,h=>(nomatch h)
 | k+1,i,h=>by
   rcases qt h with rfl | h
   ·exact⟨0,by lia,rfl⟩
   ·obtain⟨a,ha,e⟩:=Yo1 h
    exact⟨a+1,by lia,e⟩
noncomputable def cycB(m:Nat):Bool:=(List.range m).all (fun j=>(y2l m m 0).contains j)&&lcgN m m 0==0
noncomputable def sizes:List Nat:=[8,16,32,64,128]
theorem y2m:sizes.all cycB=true:=by decide +kernel
theorem y6b{m:Nat}(hm:m∈sizes){i j:Nat}(hi:i < m)(hj:j < m):∃k,k < m∧lcgN m k i=j:=by
 have h:=List.all_eq_true.mp y2m m hm
 unfold cycB at h
 rw[Qe]at h
 obtain⟨h1,h2⟩:=h
 have h2':lcgN m m 0=0:=by simpa using h2
 have at0:∀x,x < m→∃a,a < m∧lcgN m a 0=x:=fun x hx=>by
  have:=List.all_eq_true.mp h1 x (List.mem_range.mpr hx)
  exact Yo1 (by simpa using this)
 obtain⟨a,ha,rfl⟩:=at0 i hi
 obtain⟨b,hb,rfl⟩:=at0 j hj
 by_cases hab:a≤b
 ·refine⟨b - a,by lia,?_⟩
  rw[←Yi5,Nat.add_sub_cancel' hab]
 ·refine⟨m - a+b,by lia,?_⟩
  rw[←Yi5,show a+(m - a+b)=m+b by lia,Yi5,h2']
section
variable {mask:Nat} {owner:Array (Option Nat)}
theorem Yjy(fuel i p:Nat):(∃j,SetTable.layClean.free mask owner (fuel+1) i p=some j∧owner.getD j (some 0)=none)∨
 (owner.getD i (some 0)≠none∧SetTable.layClean.free mask owner (fuel+1) i p=SetTable.layClean.free mask owner fuel ((i * 5+1+p / 32) % (mask+1)) (p / 32)):=by
 rw[SetTable.layClean.free]
 cases e:(List.range (SetTable.runEnd mask i+1 - i)).find? (fun k=>(owner.getD (i+k) (some 0)).isNone)with
 | some k=>
   left
   have:=List.find?_some e
   exact⟨i+k,rfl,by simpa using this⟩
 | none=>
   right
   refine⟨fun z=>?_,rfl⟩
   have:=List.find?_eq_none.mp e 0 (List.mem_range.mpr (by unfold SetTable.runEnd;split<;>lia))
   simp[z]at this
theorem Yo2:∀(k fuel i:Nat),k < fuel→owner.getD (lcgN (mask+1) k i) (some 0)=none→∃j,SetTable.layClean.free mask owner fuel i 0=some j∧owner.getD j (some 0)=none
 | k,0,_,h,_=>absurd h (Nat.not_lt_zero _)
 | k,fuel+1,i,h,hf=>by
   rcases Yjy (mask:=mask) (owner:=owner) fuel i 0 with h1 | ⟨h1,h2⟩
   ·exact h1
   ·cases k with
    | zero=>exact absurd hf h1
    | succ k=>
      rw[h2]
      exact Yo2 k fuel _ (by lia) hf
theorem Ywf(hm:mask+1∈sizes){i p:Nat}(hi:i < mask+1)(hp:p < 1024)(hf:∃j,j < mask+1∧owner.getD j (some 0)=none):∃j,SetTable.layClean.free mask owner (SetTable.turns mask) i p=some j∧owner.getD j (some 0)=none:=by
 obtain⟨j,hj,ho⟩:=hf
 have e:SetTable.turns mask=mask+13+1+1:=rfl
 rw[e]
 rcases Yjy (mask:=mask) (owner:=owner) (mask+13+1) i p with h1 | ⟨_,h2⟩
 ·exact h1
 ·rw[h2]
  generalize (i * 5+1+p / 32) % (mask+1)=i1
  rcases Yjy (mask:=mask) (owner:=owner) (mask+13) i1 (p / 32)with h1 | ⟨_,h3⟩
  ·exact h1
  ·rw[h3,show p / 32 / 32=0 by lia]
   obtain⟨k,hk,e2⟩:=y6b hm (i:=(i1 * 5+1+0) % (mask+1)) (Nat.mod_lt _ (by lia)) hj
   exact Yo2 k _ _ (by lia) (by rw[e2];exact ho)
end
theorem Yi6{α β:Type}{f g:α→Option β}:∀{l:List α},(∀x∈l,f x=g x)→l.filterMap f=l.filterMap g
 | [],_=>rfl
 | x::l,h=>by
   have ih:=Yi6 (l:=l) fun y hy=>h y (qg _ hy)
   have hx:=h x qh
   cases e:g x with
   | none=>rw[List.filterMap_cons_none (hx.trans e),List.filterMap_cons_none e,ih]
   | some v=>rw[List.filterMap_cons_some (hx.trans e),List.filterMap_cons_some e,ih]
theorem y0i{k j:Nat}{f g:Nat→Option Nat}(hf:f j=none)(hg:g j=some k):∀{l:List Nat},l.Nodup→j∈l→(∀x∈l,x≠j→g x=f x)→(l.filterMap g).Perm (k::l.filterMap f)
 | [],_,hj,_=>(nomatch hj)
 | x::l,hn,hj,he=>by
   obtain⟨hx,hn⟩:=List.nodup_cons.mp hn
   by_cases e:x=j
   ·subst e
    have:l.filterMap g=l.filterMap f:=Yi6 fun y hy=>he y (qg _ hy) fun z=>hx (z ▸ hy)
    rw[List.filterMap_cons_some hg,List.filterMap_cons_none hf,this]
   ·have hj':j∈l:=by
     rcases qt hj with z | z
     ·exact absurd z.symm e
     ·exact z
    have ih:=y0i hf hg hn hj' fun y hy=>he y (qg _ hy)
    have hxe:=he x qh e
    cases h:f x with
    | none=>rw[List.filterMap_cons_none (hxe.trans h),List.filterMap_cons_none h];exact ih
    | some v=>
      rw[List.filterMap_cons_some (hxe.trans h),List.filterMap_cons_some h]
      exact(ih.cons v).trans (.swap _ _ _)
theorem Yss{mask:Nat}(hm:mask+1∈sizes):∀(hs:List Int) (owner:Array (Option Nat)) (k:Nat),owner.size=mask+1→((List.range (mask+1)).filterMap fun j=>owner.getD j none).Perm (List.range k)→k+hs.length≤mask→(∀h∈hs,0≤h∧h < 1024)→
 ∃owner',(hs.foldl (init:=some (owner,k)) fun acc h=>do
  let (owner,k) ←acc
  let j ←SetTable.layClean.free mask owner (SetTable.turns mask) (SetTable.bits h % (mask+1)) (SetTable.bits h)
  pure (owner.setIfInBounds j (some k),k+1))=some (owner',k+hs.length)∧owner'.size=mask+1∧((List.range (mask+1)).filterMap fun j=>owner'.getD j none).Perm (List.range (k+hs.length))
 | [],owner,k,h1,h2,_,_=>⟨owner,rfl,h1,h2⟩
 | h::hs,owner,k,h1,h2,h3,h4=>by
   have hb:SetTable.bits h < 1024:=by
    obtain⟨a,b⟩:=h4 h qh
    unfold SetTable.bits
    lia
   have hfree:∃j,j < mask+1∧owner.getD j (some 0)=none:=Classical.byContradiction fun hno=>by
    have hl:=h2.length_eq
    rw[List.length_range]at hl
    have all:∀j∈List.range (mask+1),(owner.getD j none).isSome=true:=fun j hj=>by
     have hj':=Qb hj
     have:owner.getD j (some 0)≠none:=fun z=>hno ⟨j,hj',z⟩
     have hj2:j < owner.size:=by lia
     simp only[Array.getD,hj2,dif_pos]at this ⊢
     exact Option.isSome_iff_ne_none.mpr this
    have:((List.range (mask+1)).filterMap fun j=>owner.getD j none).length=(List.range (mask+1)).length:=by
     generalize List.range (mask+1)=l at all
     induction l with
     | nil=>rfl
     | cons x l ih=>
       obtain⟨v,hv⟩:=Option.isSome_iff_exists.mp (all x qh)
       rw[List.filterMap_cons_some (f:=fun j=>owner.getD j none) hv,qr,qr,ih fun j hj=>all j (qg _ hj)]
    rw[List.length_range]at this
    simp at h3
    lia
   obtain⟨j,hj,ho⟩:=Ywf hm (owner:=owner) (i:=SetTable.bits h % (mask+1)) (p:=SetTable.bits h) (Nat.mod_lt _ (by lia)) hb hfree
   have hjs:j < owner.size:=Classical.byContradiction fun z=>by
    simp only[Array.getD,z,dif_neg,not_false_eq_true]at ho
    cases ho
   have honone:owner.getD j none=none:=by
    simp only[Array.getD,hjs,dif_pos]at ho ⊢
    exact ho
   have hp:=y0i (f:=fun x=>owner.getD x none) (g:=fun x=>(owner.setIfInBounds j (some k)).getD x none) (j:=j) (k:=k) honone (by simp[Array.getD,hjs]) (l:=List.range (mask+1)) List.nodup_range (List.mem_range.mpr (by lia)) fun x hx hne=>by
    have hx':=Qb hx
    have hx2:x < owner.size:=by lia
    simp[Array.getD,hx2,Array.getElem_setIfInBounds,Ne.symm hne]
   have hp2:((List.range (mask+1)).filterMap fun x=>(owner.setIfInBounds j (some k)).getD x none).Perm (List.range (k+1)):=by
    rw[show List.range (k+1)=List.range k++[k] from List.range_succ]
    exact(hp.trans (h2.cons k)).trans (List.perm_append_comm (l₁:=[k]))
   obtain⟨owner',e1,e2,e3⟩:=Yss hm hs (owner.setIfInBounds j (some k)) (k+1) (by simpa using h1) hp2 (by simp at h3;lia) fun x hx=>h4 x (qg _ hx)
   refine⟨owner',?_,e2,?_⟩
   ·rw[List.foldl_cons]
    have:(do
     let (owner,k) ←some (owner,k)
     let j ←SetTable.layClean.free mask owner (SetTable.turns mask) (SetTable.bits h % (mask+1)) (SetTable.bits h)
     pure (owner.setIfInBounds j (some k),k+1))=some (owner.setIfInBounds j (some k),k+1):=by
     simp[hj]
    rw[this,e1,qr]
    congr 2
    lia
   ·rw[qr,show k+(hs.length+1)=k+1+hs.length by lia]
    exact e3
theorem Yo3{mask finger moves:Nat}{led plain:Bool}(hm:mask+1∈sizes)(hs:Array Int)(hn:hs.size≤mask)(h64:∀h∈hs.toList,0≤h∧h < 1024):∃t o,SetTable.laid mask finger moves led plain hs=some (t,o)∧o.toList.Perm (List.range hs.size)∧t.place.size=hs.size∧t.dummies=#[]∧t.mask=mask∧t.plain=plain:=by
 have hinit:((List.range (mask+1)).filterMap fun j=>(Array.replicate (mask+1) (none:Option Nat)).getD j none)=[]:=by
  rw[List.filterMap_eq_nil_iff]
  intro j hj
  have:=Qb hj
  simp[Array.getD,this]
 obtain⟨owner,e1,e2,e3⟩:=Yss hm hs.toList (Array.replicate (mask+1) none) 0 (by simp) (by rw[hinit];exact .refl _) (by simpa using hn) h64
 have hlc:SetTable.layClean mask hs=some owner:=by
  unfold SetTable.layClean
  rw[←Array.foldl_toList]
  rw[e1]
  rfl
 have h2:((List.range (mask+1)).filterMap fun j=>(owner.getD j none).map (j,·)).map (·.2)=(List.range (mask+1)).filterMap fun j=>owner.getD j none:=by
  rw[List.map_filterMap]
  refine Yi6 fun j _=>?_
  cases owner.getD j none<;>rfl
 refine⟨_,_,by unfold SetTable.laid;rw[hlc];rfl,?_,?_,rfl,rfl,rfl⟩
 ·simp only[List.toList_toArray]
  rw[h2]
  simpa using e3
 ·have:=e3.length_eq
  rw[←h2,qf]at this
  simpa using this
theorem Ydh{α:Type}(xs:Array α)(p:Nat):(SetTable.eraseAt xs p).toList=xs.toList.eraseIdx p:=by
 unfold SetTable.eraseAt
 rw[Array.toList_append,List.eraseIdx_eq_take_drop_succ]
 simp[Array.toList_extract,List.extract_eq_take_drop]
 exact List.take_of_length_le (by simp)
theorem Yt3{xs:Array Nat}(h:Rise xs)(p:Nat):Rise (SetTable.eraseAt xs p):=by
 unfold Rise at h ⊢
 rw[Ydh]
 exact h.sublist (List.eraseIdx_sublist _ _)
theorem Ye5{α:Type}{xs:Array α}{p:Nat}(h:p < xs.size):(SetTable.eraseAt xs p).size=xs.size - 1:=by
 rw[←qj,Ydh,List.length_eraseIdx_of_lt (by simpa using h)]
 simp
theorem Ymt{α:Type}(xs:Array α)(p:Nat)(x:α):(SetTable.insertAt xs p x).size=xs.size+1:=by
 rw[←qj,Ygy,qz,qr,List.length_take,List.length_drop]
 simp
 lia
section
variable {prog:Program} {w:World} {A:Around} {E:Value→Shared→Prop} {s:Shared}
theorem Yq3{a:Addr}{ns:List Int}{k:Int}{u:Tok}{Q:Bool→Shared→Prop}(hS:SetI prog w s.heap a ns)
 (h:∀h' ns',Heap.SameBut a s.heap h'→SetI prog w h' a ns'→ns'.Perm (ns.erase k)→Q (decide (k∈ns)) { s with heap:=h' }) :
 wpAny (model prog w) A (setDiscardHashed a (.int k u) (hashInt k)) Q E s:=by
 have hS0:=hS
 obtain⟨o,es,ep,t,ho,hex,hd,hel,hns,hnd,hb,hf,ht⟩:=hS
 have hkey:(intKind prog w).is k (.int k u)=true:=intKind_is _ _ _ _
 have hsc:(Value.int k u).scannable=true:=rfl
 unfold setDiscardHashed setFind setFindIn
 refine wpAny_bind ?_
 refine wpAny_bind (wpAny_setState_of ho hd hf ?_)
 dsimp only
 rw[byScan_of hsc hb hel]
 simp only[↓reduceIte]
 refine wpAny_bind (wpAny_rule ?_)
 refine wpAny_bind (wpAny_setScan_of (knd:=intKind prog w) (k:=k) hkey ho hd hf hel ?_)
 cases hr:List.findIdx? (fun e=>(intKind prog w).is k e.2) es.toList with
 | none=>
   dsimp only
   have hk:k∉ns:=fun hk=>by
    rw[←hns]at hk
    obtain⟨e,he,hke⟩:=qx hk
    have h1:=List.findIdx?_eq_none_iff.mp hr e he
    obtain⟨t',ht'⟩:=Yfq hel he
    rw[ht',hke]at h1
    have h2:(intKind prog w).is k (.int k t')=true:=intKind_is _ _ _ _
    rw[h2]at h1
    exact Bool.noConfusion h1
   refine wpAny_pure (wpAny_pure ?_)
   have e:s={ s with heap:=s.heap }:=by cases s;rfl
   have:=h s.heap ns (Heap.SameBut.refl a s.heap) hS0 (by rw[List.erase_of_not_mem hk])
   rw[decide_eq_false hk]at this
   rw[e];exact this
 | some j=>
   dsimp only
   obtain⟨hj,hpj,_⟩:=List.findIdx?_eq_some_iff_getElem.mp hr
   have hjs:j < es.size:=by simpa using hj
   have hkj:kOf es.toList[j]=k:=Yva hpj
   have hk:k∈ns:=by
    rw[←hns,←hkj]
    exact Qm (qy hj)
   refine wpAny_pure ?_
   dsimp only
   refine wpAny_bind (wpAny_setState_of ho hd hf ?_)
   dsimp only
   rw[Nat.zero_add]
   have hb':(SetTable.eraseAt es j).size < scanBound:=by rw[Ye5 hjs];lia
   refine wpAny_bind (wpAny_storeSet_of ho hd ?_ (fits_of_scanBound hb'))
   have ho1:=Yga ho hd (SetTable.eraseAt es j) (t.drop j)
   have hsb1:=Heap.SameBut.update s.heap a (Obj.putSet (SetTable.eraseAt es j) (t.drop j))
   refine wpAny_bind (wpAny_point (wpAny_pure ?_))
   have hf':=hf
   unfold SetTable.fits at hf'
   simp only[Qe,beq_iff_eq,decide_eq_true_eq]at hf'
   have hpl:j < t.place.size:=by lia
   have hdrop:t.drop j={ t with place:=SetTable.eraseAt t.place j,dummies:=SetTable.insertAt t.dummies (SetTable.below t.dummies t.place[j]) t.place[j] }:=by
    unfold SetTable.drop
    rw[Qr hpl]
   have hlen:j < ns.length:=by rw[←hns,qf];exact hj
   have hnj:ns[j]=k:=by
    have:ns[j]?=some k:=by rw[←hns,Qk,qq hj,Option.map_some,hkj]
    rw[qq hlen]at this
    exact Option.some.inj this
   have hperm:(ns.eraseIdx j).Perm (ns.erase k):=by
    have p1:=Yhl hlen
    rw[hnj]at p1
    have p2:=List.perm_cons_erase hk
    exact(p1.trans p2).cons_inv
   have hnew:SetI prog w (s.heap.update a (Obj.putSet (SetTable.eraseAt es j) (t.drop j))) a (ns.eraseIdx j):=by
    refine⟨_,SetTable.eraseAt es j,_,t.drop j,ho1,hex,rfl,fun e he=>?_,?_,hnd.sublist (List.eraseIdx_sublist _ _),hb',?_,?_⟩
    ·rw[Ydh]at he
     exact hel e (List.mem_of_mem_eraseIdx he)
    ·rw[Ydh,←hns,List.eraseIdx_eq_take_drop_succ,List.eraseIdx_eq_take_drop_succ,List.map_append,List.map_take,List.map_drop]
    ·rw[hdrop]
     unfold SetTable.fits
     unfold SetTable.fill at hf' ⊢
     simp only[Qe,beq_iff_eq,decide_eq_true_eq,Ye5 hpl,Ye5 hjs,Ymt]at hf' ⊢
     lia
    ·rw[hdrop]
     exact⟨ht.1,fun z=>Yt3 (ht.2 z) j⟩
   have:=h _ _ hsb1 hnew hperm
   rw[decide_eq_true hk]at this
   exact this
theorem Yy6{a:Addr}{o:Obj}{es:Array (Int × Value)}{ep:Nat}{t:SetTable}(ho:s.heap.get? a=some o)(hd:o.data=.set es ep t)(hf:t.fits es.size=true)(ht:Tab (byT w) t){Q:Array (Int × Value)→Shared→Prop}
 (h:∀(r:Array (Int × Value)) (d':Drawn),r.toList.Perm es.toList→Q r { s with drawn:=d' }):wpAny (model prog w) A (setWalk a) Q E s:=by
 unfold setWalk
 refine wpAny_bind (wpAny_setState_of ho hd hf ?_)
 dsimp only
 refine wpAny_bind (Yc4 ?_)
 by_cases hb:byT w=true
 ·rw[if_pos hb]
  refine wpAny_bind (wpAny_askSetting (wpAny_pure ?_))
  exact h _ s.drawn (Yoi _ _)
 ·rw[if_neg hb]
  have hb':byT w=false:=by simpa using hb
  show wpAny _ _ (if (!t.plain&&decide (es.size > 1))=true then _ else _) _ _ _
  by_cases hdr:(!t.plain&&decide (es.size > 1))=true
  ·rw[if_pos hdr]
   refine wpAny_bind (Yhm _ _ _ _ (by simp) fun ys d' hp=>wpAny_pure ?_)
   exact h _ d' (by simpa using hp)
  ·rw[if_neg hdr]
   show wpAny _ _ ((if (!t.led&&decide (es.size > 1))=true then unsupported "set:maker-not-led" else pure ()) >>= _) _ _ _
   rw[if_neg (by rw[ht.1 hb'];simp)]
   exact wpAny_bind (wpAny_pure (wpAny_pure (h es s.drawn (.refl _))))
theorem Yt4{as:List Addr}(h:∀a∈as,∃ns,SetI prog w s.heap a ns){Q:Bool→Shared→Prop}(hq:Q true s):wpAny (model prog w) A (setsQuiet as) Q E s:=by
 unfold setsQuiet
 refine wpAny_bind (wpAny_forIn_list _ (fun rest b s'=>b.1=none∧s'=s∧∀a∈rest,∃ns,SetI prog w s.heap a ns) _ ?_ ?_ as _ ⟨rfl,rfl,h⟩)
 ·rintro a rest b s' ⟨hb,rfl,hr⟩
  obtain⟨ns,o,es,ep,t,ho,hex,hd,hel,_,_,_,hf,_⟩:=hr a qh
  refine wpAny_bind (m:=setEntries a) ?_
  unfold setEntries
  refine wpAny_bind (wpAny_setState_of ho hd hf (wpAny_pure ?_))
  refine wpAny_bind (MeetsSeq2.wpAny_forIn_array _ (fun rest b s''=>b.1=none∧s''=s'∧∀e∈rest,e∈es.toList) _ ?_ ?_ es _ ⟨rfl,rfl,fun e he=>he⟩)
  ·rintro⟨hh,x⟩ rest2 b2 s2 ⟨hb2,rfl,hr2⟩
   obtain⟨t',ht'⟩:=Yfq hel (hr2 _ qh)
   have hx:=congrArg Prod.snd ht'
   dsimp only at hx
   rw[hx]
   exact wpAny_pure ⟨rfl,rfl,fun e he=>hr2 e (qg _ he)⟩
  ·rintro b2 s2 ⟨hb2,rfl,_⟩
   obtain⟨b2a,b2b⟩:=b2
   subst hb2
   exact wpAny_pure ⟨rfl,rfl,fun a ha=>hr a (qg _ ha)⟩
 ·rintro b s' ⟨hb,rfl,_⟩
  obtain⟨ba,bb⟩:=b
  subst hb
  exact wpAny_pure hq
theorem Yq4{o f:Addr}{ns ms:List Int}(hO:SetI prog w s.heap o ns)(hF:SetI prog w s.heap f ms){Q:Array (Int × Value)→Shared→Prop}
 (h:∀(r:Array (Int × Value)) (h':Heap) (d':Drawn),Heap.SameBut f s.heap h'→SetI prog w h' f ms→ElemsOf (intKind prog w) r.toList→(r.toList.map kOf).Perm ns→Q r { s with heap:=h',drawn:=d' }) :
 wpAny (model prog w) A (setWalkUnseen o [f] (some f)) Q E s:=by
 have hO0:=hO
 obtain⟨oo,es,ep,t,ho,hex,hd,hel,hns,hnd,hb,hf,ht⟩:=hO
 have hwalk:wpAny (model prog w) A (setWalk o) Q E s:=Yy6 ho hd hf ht fun r d' hp=>by
  have e:s={ s with heap:=s.heap }:=by cases s;rfl
  exact h r s.heap d' (Heap.SameBut.refl f s.heap) hF (hel.perm hp) (by rw[←hns];exact hp.map kOf)
 unfold setWalkUnseen
 refine wpAny_bind (wpAny_setState_of ho hd hf ?_)
 dsimp only
 refine wpAny_bind (Yc4 ?_)
 split
 ·exact hwalk
 ·refine wpAny_bind (Yt4 (fun a ha=>?_) ?_)
  ·rcases qt ha with rfl | ha
   ·exact⟨ns,hO0⟩
   ·rw[List.mem_singleton.mp ha];exact⟨ms,hF⟩
  ·rw[if_neg (by simp)]
   refine wpAny_bind (wpAny_rule ?_)
   have hF0:=hF
   obtain⟨of,ef,epf,tf,hof,hexf,hdf,helf,hnsf,hndf,hbf,hff,htf⟩:=hF
   refine wpAny_bind (wpAny_setState_of hof hdf hff ?_)
   dsimp only
   split
   ·have hff':({ tf with led:=tf.led&&t.led,plain:=tf.plain&&t.plain }:SetTable).fits ef.size=true:=by
     unfold SetTable.fits SetTable.fill at hff ⊢
     exact hff
    refine wpAny_bind (wpAny_storeSet_of hof hdf ?_ (fits_of_scanBound hbf))
    have ho1:=Yga hof hdf ef { tf with led:=tf.led&&t.led,plain:=tf.plain&&t.plain }
    refine wpAny_pure (h es _ s.drawn (Heap.SameBut.update s.heap f _) ⟨_,ef,_,_,ho1,hexf,rfl,helf,hnsf,hndf,hbf,hff',⟨fun z=>?_,fun z=>?_⟩⟩ hel (by rw[hns]))
    ·show(tf.led&&t.led)=true
     rw[htf.1 z,ht.1 z]
     rfl
    ·have z':(tf.plain&&t.plain)=true:=z
     rw[Qe]at z'
     exact htf.2 z'.1
   ·refine wpAny_pure ?_
    exact h es s.heap s.drawn (Heap.SameBut.refl f s.heap) hF0 hel (by rw[hns])
theorem SetI.nodup{h:Heap}{a:Addr}{ns:List Int}(x:SetI prog w h a ns):ns.Nodup:=by
 obtain⟨_,_,_,_,_,_,_,_,_,hnd,_⟩:=x
 exact hnd
theorem SetI.type{s:Shared}{a:Addr}{ns:List Int}(x:SetI prog w s.heap a ns):s.TypeIs (.ref a) "set":=by
 obtain⟨o,_,_,_,ho,hex,_⟩:=x
 exact⟨o,ho,hex.1⟩
theorem SetI.but{h h':Heap}{a f:Addr}{ns:List Int}(x:SetI prog w h a ns)(hne:a≠f)(sb:Heap.SameBut f h h'):SetI prog w h' a ns:=x.at fun o e=>(sb.2 a hne).trans e
theorem Yy7{f:Addr}{ms:List Int}{k:Int}{u:Tok}{Q:Unit→Shared→Prop}(hF:SetI prog w s.heap f ms)(hroom:ms.length+1 < scanBound)
 (h:∀h' ms',Heap.SameBut f s.heap h'→SetI prog w h' f ms'→(∀x,x∈ms'↔¬(x∈ms↔x=k))→ms'.length≤ms.length+1→Q () { s with heap:=h' }) :
 wpAny (model prog w) A (holding [.int k u] (do
  if !(←setDiscardHashed f (.int k u) (hashInt k))then
   let _ ←setAddHashed f (.int k u) (hashInt k))) Q E s:=by
 have hnd:=hF.nodup
 refine wpAny_holding (wpAny_bind (Yq3 hF fun h1 ms1 sb1 hF1 hp1=>?_))
 by_cases hk:k∈ms
 ·rw[decide_eq_true hk]
  refine wpAny_pure (h h1 ms1 sb1 hF1 (fun x=>?_) ?_)
  ·rw[hp1.mem_iff,hnd.mem_erase_iff]
   constructor
   ·rintro⟨a1,a2⟩ z
    exact a1 (z.mp a2)
   ·intro z
    by_cases hx:x=k
    ·subst hx;exact absurd ⟨fun _=>rfl,fun _=>hk⟩ z
    ·exact⟨hx,Classical.byContradiction fun n=>z ⟨fun a=>absurd a n,fun a=>absurd a hx⟩⟩
  ·rw[hp1.length_eq]
   exact Nat.le_trans (List.length_erase_le ..) (Nat.le_succ _)
 ·rw[decide_eq_false hk]
  rw[List.erase_of_not_mem hk]at hp1
  have hk1:k∉ms1:=fun z=>hk (hp1.mem_iff.mp z)
  refine wpAny_bind (Yvb (s:={ s with heap:=h1 }) hF1 (by rw[hp1.length_eq];exact hroom) fun h2 ms2 sb2 hF2 hp2=>?_)
  rw[if_neg hk1]at hp2
  refine wpAny_pure (h h2 ms2 (sb1.trans sb2) hF2 (fun x=>?_) ?_)
  ·rw[hp2.mem_iff,List.mem_append,hp1.mem_iff,Qi]
   constructor
   ·rintro(a | a) z
    ·exact hk (z.mp a ▸ a)
    ·exact hk (a ▸ z.mpr a)
   ·intro z
    by_cases hx:x=k
    ·exact .inr hx
    ·exact .inl (Classical.byContradiction fun n=>z ⟨fun a=>absurd a n,fun a=>absurd a hx⟩)
  ·rw[hp2.length_eq,qz,hp1.length_eq]
   exact qu _
theorem Ymu{o:Addr}{ns:List Int}(hO:SetI prog w s.heap o ns){Q:Bool→Shared→Prop}(h:Q true s):wpAny (model prog w) A (Builtin.Frozenset.isAnySet (.ref o)) Q E s:=by
 unfold Builtin.Frozenset.isAnySet
 exact wpAny_bind (wpAny_isInstance (b:=true) hO.type Ygh (wpAny_pure h))
theorem y2n{id:String}{f o:Addr}{ns ms:List Int}(hne:o≠f)(hO:SetI prog w s.heap o ns)(hF:SetI prog w s.heap f ms)(hroom:ms.length+ns.length+1 < scanBound){Q:Unit→Shared→Prop}
 (h:∀h' d' ms',Heap.SameBut f s.heap h'→SetI prog w h' f ms'→(∀x,x∈ms'↔¬(x∈ms↔x∈ns))→Q () { s with heap:=h',drawn:=d' }) :
 wpAny (model prog w) A (Builtin.Frozenset.symmetricDifferenceUpdate id f (.ref o)) Q E s:=by
 unfold Builtin.Frozenset.symmetricDifferenceUpdate
 have h1:(Value.ref o==Value.ref f)=false:=by simp[hne]
 rw[if_neg (by rw[h1];exact qi)]
 refine wpAny_bind (wpAny_typeOf hO.type ?_)
 have h2:(Value.type "set"==Value.type "dict")=false:=by decide
 rw[if_neg (by rw[h2];exact qi)]
 refine wpAny_bind (Ymu hO ?_)
 rw[if_pos rfl]
 refine wpAny_bind (wpAny_pure ?_)
 refine wpAny_bind (m:=Builtin.Frozenset.addrOf (.ref o)) (wpAny_pure ?_)
 have hO0:=hO
 obtain⟨oo,es,ep,t,ho,hex,hd,hel,hns,hnd,hb,hf,ht⟩:=hO0
 refine wpAny_bind (m:=setEpoch o) ?_
 unfold setEpoch
 refine wpAny_bind (wpAny_setState_of ho hd hf (wpAny_pure ?_))
 dsimp only
 refine wpAny_holding ?_
 refine wpAny_bind (Yq4 hO hF fun r h' d' sb hF' helr hpr=>?_)
 have hndr:(r.toList.map kOf).Nodup:=hpr.nodup_iff.mpr hO.nodup
 refine wpAny_bind (wpAny_mono (MeetsSeq2.wpAny_forIn_array _ (fun rest _ s'=>∃done h2 ms2,s'={ s with heap:=h2,drawn:=d' }∧Heap.SameBut f s.heap h2∧SetI prog w h2 f ms2∧(∀x,x∈ms2↔¬(x∈ms↔x∈done))∧r.toList.map kOf=done++rest.map kOf∧ms2.length≤ms.length+done.length∧∀e∈rest,e∈r.toList)
  (fun _ s'=>∃h2 ms2,s'={ s with heap:=h2,drawn:=d' }∧Heap.SameBut f s.heap h2∧SetI prog w h2 f ms2∧(∀x,x∈ms2↔¬(x∈ms↔x∈ns))) ?_ ?_ r _ ⟨[],h',ms,rfl,sb,hF',by simp,by simp,by simp,fun e he=>he⟩) (fun _ s' hs=>?_) fun _ _ e=>e)
 ·rintro x rest _ s' ⟨done,h2,ms2,rfl,sb2,hF2,hm2,hd2,hl2,hr2⟩
  have hx:=hr2 x qh
  obtain⟨tk,hxe⟩:=Yfq helr hx
  have hlen:ms2.length+1 < scanBound:=by
   have e1:=congrArg List.length hd2
   have e2:=hpr.length_eq
   simp only[qz,qr,Qd]at e1
   lia
  have hkd:kOf x∉done:=fun z=>by
   rw[hd2,Qd]at hndr
   exact(List.nodup_append.mp hndr).2.2 _ z _ qh rfl
  rw[hxe]
  dsimp only
  have hkx:kOf (hashInt (kOf x),Value.int (kOf x) tk)=kOf x:=rfl
  refine wpAny_bind (Yy7 (s:={ s with heap:=h2,drawn:=d' }) hF2 hlen fun h3 ms3 sb3 hF3 hm3 hl3=>?_)
  have hO3:=(hO.but hne sb2).but hne sb3
  have hoo:h3.get? o=some oo:=((sb2.trans sb3).2 o hne).trans ho
  refine wpAny_bind (m:=Builtin.Frozenset.unchanged id o ep) ?_
  unfold Builtin.Frozenset.unchanged setEpoch
  refine wpAny_bind (wpAny_bind (wpAny_setState_of (s:={ s with heap:=h3,drawn:=d' }) hoo hd hf (wpAny_pure ?_)))
  rw[if_neg (by simp)]
  refine wpAny_pure (wpAny_pure ⟨done++[kOf x],h3,ms3,rfl,sb2.trans sb3,hF3,fun y=>?_,?_,?_,fun e he=>hr2 e (qg _ he)⟩)
  ·rw[hm3,hm2,List.mem_append,Qi]
   by_cases hy:y=kOf x
   ·subst hy
    by_cases a1:kOf x∈ms<;>simp[a1,hkd]
   ·by_cases a1:y∈ms<;>by_cases a2:y∈done<;>simp[a1,a2,hy]
  ·rw[hd2,Qd,List.append_assoc]
   rfl
  ·rw[qz]
   simp only[qr,List.length_nil]
   lia
 ·rintro _ s' ⟨done,h2,ms2,rfl,sb2,hF2,hm2,hd2,_,_⟩
  simp only[List.map_nil,List.append_nil]at hd2
  refine⟨h2,ms2,rfl,sb2,hF2,fun x=>?_⟩
  rw[hm2,←hd2,hpr.mem_iff]
 ·obtain⟨h2,ms2,rfl,sb2,hF2,hm2⟩:=hs
  exact wpAny_pure (h h2 d' ms2 sb2 hF2 hm2)
theorem Yt5{k:Int}(h:0≤k∧k < 1024):0≤hashInt k∧hashInt k < 1024:=by
 have e:rawHash k=k:=by
  unfold rawHash
  have h1:(k.natAbs % (2 ^ 61 - 1:Nat))=k.natAbs:=Nat.mod_eq_of_lt (by lia)
  dsimp only
  have h2:((k.natAbs:Int))=k:=by lia
  have h3:¬k < 0:=by lia
  have h4:((k.natAbs % (2 ^ 61 - 1:Nat):Nat):Int)=k:=by rw[h1];exact h2
  have h6:¬k=-1:=by lia
  have h7:(k.natAbs:Int) % (2305843009213693951:Int)=k:=by lia
  rw[if_neg h3]
  show(if ((k.natAbs:Int) % (2305843009213693951:Int)==-1)=true then (-2:Int)else (k.natAbs:Int) % (2305843009213693951:Int))=k
  rw[h7,if_neg (by simpa using h6)]
 unfold hashInt
 rw[e,if_neg (by simp;lia)]
 exact h
theorem y2o:(List.range 64).all (fun n=>decide (SetTable.sizeAbove (n * 2)∈sizes)&&decide (n < SetTable.sizeAbove (n * 2))&&decide (SetTable.sizeAbove (n * 2)≤128))=true:=by decide +kernel
theorem Yy8{es:Array (Int × Value)}{o:Array Nat}(hp:o.toList.Perm (List.range es.size)):(o.filterMap (es[·]?)).toList.Perm es.toList:=by
 have h1:(o.filterMap (es[·]?)).toList=o.toList.filterMap (es.toList[·]?):=by simp
 rw[h1]
 have h2:(List.range es.size).filterMap (es.toList[·]?)=es.toList:=by
  have:∀l:List (Int × Value),(List.range l.length).filterMap (l[·]?)=l:=fun l=>by
   rw[Yi6 (g:=fun i=>some (l.getD i (0,.none))) fun i hi=>?_]
   ·show List.filterMap (some ∘ fun i=>l.getD i (0,.none)) _=_
    rw[List.filterMap_eq_map]
    refine List.ext_getElem (by simp) fun i h1 h2=>?_
    simp[h2]
   ·have:=Qb hi
    simp[this]
  have:=this es.toList
  rwa [qj]at this
 have:=hp.filterMap (es.toList[·]?)
 rwa [h2]at this
noncomputable abbrev obS(ep:Nat)(t:SetTable):Obj:={ cls:=.type "set",dict:=none,data:=.set #[] ep t }
theorem Yy9{f:Addr}{ep n:Nat}{led:Bool}(hf:s.heap.get? f=some (obS ep (.fresh 0 0 led)))(hn:n < 64){Q:Unit→Shared→Prop}
 (h:∀h' ep' t',Heap.SameBut f s.heap h'→h'.get? f=some (obS ep' t')→t'.mask+1∈sizes→n≤t'.mask→t'.place=#[]→t'.dummies=#[]→t'.led=led→t'.plain=true→Q () { s with heap:=h' }):wpAny (model prog w) A (setRoomFor f n) Q E s:=by
 have hfit:(SetTable.fresh 0 0 led).fits (#[]:Array (Int × Value)).size=true:=rfl
 unfold setRoomFor
 refine wpAny_bind (wpAny_setState_of hf rfl hfit ?_)
 dsimp only
 by_cases hr:21≤n * 5
 ·have e:(SetTable.fresh 0 0 led).roomFor n=some (n * 2):=by
   unfold SetTable.roomFor SetTable.fresh SetTable.fill
   simp only[Array.size_empty,Nat.zero_add]
   rw[if_pos (by lia)]
  rw[e]
  dsimp only
  have hok:=List.all_eq_true.mp y2o n (List.mem_range.mpr hn)
  simp only[Qe,decide_eq_true_eq]at hok
  obtain⟨⟨k1,k2⟩,k3⟩:=hok
  unfold setRelay
  refine wpAny_bind (wpAny_setState_of hf rfl hfit ?_)
  dsimp only
  rw[if_neg (by rw[sizeLine_eq];lia)]
  have hm:SetTable.sizeAbove (n * 2) - 1+1=SetTable.sizeAbove (n * 2):=by lia
  obtain⟨t',o',e1,e2,e3,e4,e5,e6⟩:=Yo3 (mask:=SetTable.sizeAbove (n * 2) - 1) (finger:=0) (moves:=(SetTable.fresh 0 0 led).movedTo (SetTable.sizeAbove (n * 2) - 1)) (led:=led) (plain:=true) (by rw[hm];exact k1) #[] (Nat.zero_le _) (fun h hh=>by simp at hh)
  have hre:(SetTable.fresh 0 0 led).relaid ((#[]:Array (Int × Value)).map (·.1)) (n * 2)=some (t',o'):=by
   unfold SetTable.relaid
   rw[show(#[]:Array (Int × Value)).map (·.1)=#[] by simp]
   exact e1
  rw[hre]
  have ho':o'=#[]:=by
   have:=e2.length_eq
   simpa using this
  subst ho'
  have hl:=Yjf e1
  refine wpAny_bind (wpAny_pure ?_)
  refine wpAny_storeSet_of hf rfl ?_ (by simp)
  have h1:=Yga hf rfl (#[]:Array (Int × Value)) t'
  exact h _ _ t' (Heap.SameBut.update s.heap f _) h1 (by rw[e5,hm];exact k1) (by rw[e5];lia) (by simpa using e3) e4 hl.2.1 e6
 ·have e:(SetTable.fresh 0 0 led).roomFor n=none:=by
   unfold SetTable.roomFor SetTable.fresh SetTable.fill
   simp only[Array.size_empty,Nat.zero_add]
   rw[if_neg (by lia)]
  rw[e]
  refine wpAny_pure ?_
  have e:s={ s with heap:=s.heap }:=by cases s;rfl
  rw[e]
  exact h s.heap ep _ (Heap.SameBut.refl f s.heap) hf (show 8∈sizes by decide) (show n≤7 by lia) rfl rfl rfl rfl
theorem y6c{id:String}{o:Addr}{ns:List Int}(hO:SetI prog w s.heap o ns)(hk:∀k∈ns,0≤k∧k < 1024)(hl:ns.length < 64){Q:Value→Shared→Prop}
 (h:∀h' ms,(∀b x,s.heap.get? b=some x→h'.get? b=some x)→SetI prog w h' s.heap.objs.size ms→ms.Perm ns→Q (.ref s.heap.objs.size) { s with heap:=h' }) :
 wpAny (model prog w) A (Builtin.Frozenset.newFrom id (.type "set") (.ref o)) Q E s:=by
 unfold Builtin.Frozenset.newFrom newSet
 refine wpAny_bind (wpAny_bind (Yc4 ?_))
 dsimp only
 simp only[newObj]
 refine wpAny_bind (wpAny_alloc (wpAny_pure ?_))
 have hlt:o < s.heap.objs.size:=by
  obtain⟨oo,_,_,_,ho,_⟩:=hO
  exact ql ho
 generalize hH:s.heap.push _=H
 have keep:∀b x,s.heap.get? b=some x→H.get? b=some x:=fun b x e=>by rw[←hH];exact qe _ e
 have hf0:H.get? s.heap.objs.size=some { cls:=.type "set",dict:=none,data:=.set #[] 0 (.fresh 0 0 (!byT w)) }:=by rw[←hH];exact qp _ rfl
 generalize hf:s.heap.objs.size=f at *
 have hne:o≠f:=qm hlt
 have hO1:SetI prog w H o ns:=hO.at fun x e=>keep o x e
 refine wpAny_bind (m:=Builtin.Frozenset.addrOf (.ref f)) (wpAny_pure ?_)
 refine wpAny_bind (wpAny_holding ?_)
 unfold Builtin.Frozenset.updateFrom
 refine wpAny_bind (Ymu (s:={ s with heap:=H }) hO1 ?_)
 rw[if_pos rfl]
 refine wpAny_bind (m:=Builtin.Frozenset.addrOf (.ref o)) (wpAny_pure ?_)
 unfold Builtin.Frozenset.merge
 have hO2:=hO1
 obtain⟨oo,es,ep,t,ho,hex,hd,hel,hns,hnd,hb,hft,ht⟩:=hO2
 have hsz:es.size=ns.length:=by rw[←hns,qf,qj]
 refine wpAny_bind (m:=setEpoch o) ?_
 unfold setEpoch
 refine wpAny_bind (wpAny_setState_of (s:={ s with heap:=H }) ho hd hft (wpAny_pure ?_))
 dsimp only
 unfold setMerge
 have h1:(f==o)=false:=by simpa using Ne.symm hne
 rw[if_neg (by rw[h1];exact qi)]
 refine wpAny_bind (wpAny_setState_of (s:={ s with heap:=H }) ho hd hft ?_)
 dsimp only
 by_cases hemp:es.isEmpty=true
 ·rw[if_pos hemp]
  refine wpAny_pure (wpAny_pure (h H [] keep ⟨_,#[],_,_,hf0,⟨rfl,rfl,rfl⟩,rfl,fun e he=>by simp at he,rfl,.nil,by decide,rfl,.fresh⟩ ?_))
  have:ns.length=0:=by rw[←hsz];simpa using hemp
  rw[List.length_eq_zero_iff.mp this]
 ·rw[if_neg hemp]
  refine wpAny_bind (Yy9 (s:={ s with heap:=H }) hf0 (by lia) fun h' ep' t' sb hf' m1 m2 p1 p2 l1 l2=>?_)
  have hfit':t'.fits (#[]:Array (Int × Value)).size=true:=by
   unfold SetTable.fits SetTable.fill
   rw[p1,p2]
   rfl
  refine wpAny_bind (wpAny_setState_of (s:={ s with heap:=h' }) hf' rfl hfit' ?_)
  dsimp only
  have keep':∀b x,s.heap.get? b=some x→h'.get? b=some x:=fun b x e=>by
   have hb:b≠f:=fun z=>by
    have:=ql e
    rw[hf,z]at this
    exact absurd this (Qg _)
   exact(sb.2 b hb).trans (keep b x e)
  have keep2:∀(es':Array (Int × Value)) (t2:SetTable) b x,s.heap.get? b=some x→(h'.update f (Obj.putSet es' t2)).get? b=some x:=fun es' t2 b x e=>by
   have hb:b≠f:=fun z=>by
    have:=ql e
    rw[hf,z]at this
    exact absurd this (Qg _)
   exact((Heap.SameBut.update h' f _).2 b hb).trans (keep' b x e)
  have hfill:t'.fill=0:=by
   unfold SetTable.fill
   rw[p1,p2]
   rfl
  unfold SetTable.road
  rw[hfill,if_neg (by simp)]
  have hled:byT w=false→(t'.led&&t.led)=true:=fun z=>by
   rw[l1,ht.1 z,z]
   rfl
  by_cases hm:(t'.mask==t.mask&&t.dummies.isEmpty)=true
  ·rw[if_pos hm]
   dsimp only
   refine wpAny_storeSet_of (s:={ s with heap:=h' }) hf' rfl ?_ (fits_of_scanBound hb)
   have hg:=Yga hf' rfl es { t with finger:=t'.finger,led:=t'.led&&t.led,moves:=t'.moves,plain:=t'.plain&&t.plain }
   refine wpAny_pure (h _ ns (keep2 _ _) ⟨_,es,_,_,hg,⟨rfl,rfl,rfl⟩,rfl,hel,hns,hnd,hb,hft,hled,fun z=>?_⟩ (.refl _))
   have z':(t'.plain&&t.plain)=true:=z
   rw[Qe]at z'
   exact ht.2 z'.2
  ·rw[if_neg hm]
   dsimp only
   obtain⟨t2,o2,e1,e2,e3,e4,e5,e6⟩:=Yo3 (mask:=t'.mask) (finger:=t'.finger) (moves:=t'.moves) (led:=t'.led&&t.led) (plain:=t'.plain&&t.plain) m1 (es.map (·.1)) (by simpa using m2) (fun x hx=>by
    rw[Array.toList_map]at hx
    obtain⟨e,he,rfl⟩:=qx hx
    obtain⟨tk,het⟩:=Yfq hel he
    have hke:kOf e∈ns:=by rw[←hns];exact Qm he
    have:=Yt5 (hk _ hke)
    rw[het]
    exact this)
   rw[e1]
   have hlr:=Yjf e1
   have e2':o2.toList.Perm (List.range es.size):=by simpa using e2
   have hp:=Yy8 e2'
   have hsz2:(o2.filterMap (es[·]?)).size=es.size:=by rw[←qj,hp.length_eq,qj]
   have hbe:((o2.filterMap (es[·]?)).size != es.size)=false:=by rw[hsz2];simp
   refine wpAny_bind ?_
   show wpAny _ _ (if ((o2.filterMap (es[·]?)).size != es.size)=true then _ else _) _ _ _
   rw[if_neg (by rw[hbe];exact qi)]
   refine wpAny_pure ?_
   dsimp only
   have hb2:(o2.filterMap (es[·]?)).size < scanBound:=by rw[hsz2];exact hb
   refine wpAny_storeSet_of (s:={ s with heap:=h' }) hf' rfl ?_ (fits_of_scanBound hb2)
   have hg:=Yga hf' rfl (o2.filterMap (es[·]?)) t2
   have hpk:((o2.filterMap (es[·]?)).toList.map kOf).Perm ns:=by rw[←hns];exact hp.map kOf
   refine wpAny_pure (h _ _ (keep2 _ _) ⟨_,_,_,t2,hg,⟨rfl,rfl,rfl⟩,rfl,hel.perm hp,rfl,hpk.nodup_iff.mpr hnd,hb2,?_,⟨fun z=>by rw[hlr.2.1];exact hled z,fun _=>hlr.1⟩⟩ hpk)
   unfold SetTable.fits SetTable.fill
   rw[e3,e4,e5,hsz2]
   simp
   simpa using m2
theorem Yt6:entryFor table "set.__xor__"=some Builtin.«frozenset.__xor__»:=
 entryFor_alias (id':="frozenset.__xor__") (by kernel_rfl) (by first | rfl | decide +kernel | (unfold String.splitOn;simp +decide [String.splitOnAux])) (by decide +kernel) (by kernel_rfl)
theorem Yza{a b:Addr}{ns ms:List Int}(hA:SetI prog w s.heap a ns)(hB:SetI prog w s.heap b ms)(hk:∀k∈ms,0≤k∧k < 1024)(hl:ms.length < 64)(hl2:ns.length < 64){Q:Value→Shared→Prop}
 (h:∀h' d' rs,(∀c x,s.heap.get? c=some x→h'.get? c=some x)→SetI prog w h' s.heap.objs.size rs→(∀x,x∈rs↔¬(x∈ms↔x∈ns))→Q (.ref s.heap.objs.size) { s with heap:=h',drawn:=d' }) :
 wpAny (model prog w) A (binaryOp .BitXor (.ref a) (.ref b)) Q E s:=by
 refine wpAny_binaryOp_same (op:=.BitXor) (T:="set") hA.type hB.type F.fills_set_xor F.slot_set_xor (wpAny_call_entry F.slot_set_xor hA.type Yt6 ?_ (F.args_set_xor_2 _ _))
 refine wpAny_bind (m:=Builtin.Frozenset.slot1 "__xor__" ⟨[.ref a,.ref b],[]⟩) (wpAny_of_eq (a:=(Value.ref a,Value.ref b)) rfl ?_)
 dsimp only
 refine wpAny_bind (wpAny_bind (Ymu hA ?_))
 refine Ymu hB ?_
 rw[if_neg (by decide)]
 rw[if_neg qi]
 refine wpAny_bind (m:=Builtin.Frozenset.addrOf (.ref a)) (wpAny_pure ?_)
 generalize (toString "frozenset."++toString "__xor__":String)=id
 refine wpAny_bind ?_
 refine wpAny_bind (m:=Builtin.Frozenset.baseOf a) ?_
 unfold Builtin.Frozenset.baseOf
 refine wpAny_bind (wpAny_isInstance (b:=true) hA.type Ygh (wpAny_pure ?_))
 refine wpAny_bind (m:=Builtin.Frozenset.newFrom id (.type "set") (.ref b)) ?_
 refine y6c hB hk hl fun h1 rs k1 hR hp=>?_
 have hlt:a < s.heap.objs.size:=by
  obtain⟨oo,_,_,_,ho,_⟩:=hA
  exact ql ho
 have hsb:scanBound=4096:=rfl
 refine wpAny_bind (m:=Builtin.Frozenset.addrOf (.ref s.heap.objs.size)) (wpAny_pure ?_)
 refine wpAny_bind (wpAny_holding (y2n (s:={ s with heap:=h1 }) (qm hlt) (hA.at fun x e=>k1 a x e) hR (by rw[hp.length_eq,hsb];lia) fun h2 d' rs2 sb hR2 hm=>?_))
 refine wpAny_pure (wpAny_pure ⟨_,rfl,(fun z=>nomatch z),h h2 d' rs2 (fun c x e=>?_) hR2 fun x=>?_⟩)
 ·have hc:c≠s.heap.objs.size:=qm (ql e)
  exact(sb.2 c hc).trans (k1 c x e)
 ·rw[hm,hp.mem_iff]
end
end
section
section
variable {X:Cx} {pins:List (Addr × Obj)} {σ:L2.St} {H:Hp} {s:Shared}
noncomputable def rXor(P:Program)(w:World):V→V→Hp→VK→Prop:=fun x y H Q=>∃a b ns ms,x=.ref a∧y=.ref b∧H a=some (setO P w a ns)∧H b=some (setO P w b ms)∧(∀k∈ms,0≤k∧k < 1024)∧ms.length < 64∧ns.length < 64∧
 ∀p rs,H p=none→rs.Nodup→(∀x,x∈rs↔¬(x∈ms↔x∈ns))→Q (.ref p) (upd H p (setO P w p rs))
theorem op_xor:OpR X (binaryOp .BitXor) (rXor X.prog X.w):=by
 intro pins s σ H x y v u Q I rx ry h
 obtain⟨a,b,ns,ms,rfl,rfl,hA,hB,hk,hl,hl2,q⟩:=h
 cases rx
 cases ry
 have hSA:SetI X.prog X.w s.heap a ns:=(show ObjOk X.prog X.w H s.heap a (setO X.prog X.w a ns) from I.hok a _ hA).1
 have hSB:SetI X.prog X.w s.heap b ms:=(show ObjOk X.prog X.w H s.heap b (setO X.prog X.w b ms) from I.hok b _ hB).1
 refine Yza hSA hSB hk hl hl2 fun h' d' rs keep hR hm=>?_
 exact⟨.ref s.heap.objs.size,_,Inv.laid (t':=s.toks) (I.dr d') keep (qu _) (Yq2 hR),rfl,q _ rs (I.hok.fresh (qu _)) hR.nodup hm⟩
end
theorem memD:∀(l acc:List Int) (x:Int),x∈ddup acc l↔x∈acc∨x∈l
 | [],acc,x=>by simp[ddup]
 | k::l,acc,x=>by
   rw[ddup,memD]
   by_cases h:k∈acc
   ·rw[if_pos h,List.mem_cons]
    exact⟨fun z=>z.elim .inl fun y=>.inr (.inr y),fun z=>z.elim .inl fun y=>y.elim (fun e=>.inl (e ▸ h)) .inr⟩
   ·rw[if_neg h,List.mem_append,Qi,List.mem_cons,or_assoc]
theorem nodD:∀(l acc:List Int),acc.Nodup→(ddup acc l).Nodup
 | [],_,h=>h
 | k::l,acc,h=>by
   rw[ddup]
   refine nodD l _ ?_
   by_cases hk:k∈acc
   ·rw[if_pos hk];exact h
   ·rw[if_neg hk,List.nodup_append]
    refine⟨h,by simp,fun x hx y hy z=>?_⟩
    rw[Qi]at hy
    subst hy
    exact hk (z ▸ hx)
noncomputable def xorI(a b:List Int):List Int:=(ddup [] b).filter (fun x=>!(a.contains x))++(ddup [] a).filter (fun x=>!(b.contains x))
theorem Yst{a b:List Int}{x:Int}:x∈xorI a b↔¬(x∈b↔x∈a):=by
 unfold xorI
 rw[List.mem_append,Ql,Ql,memD,memD]
 by_cases h1:x∈a<;>by_cases h2:x∈b<;>simp[h1,h2]
theorem Ymv(a b:List Int):(xorI a b).Nodup:=by
 unfold xorI
 rw[List.nodup_append]
 refine⟨(nodD b [] .nil).filter _,(nodD a [] .nil).filter _,fun x hx y hy z=>?_⟩
 subst z
 have h1:=(Qc hx)
 have h2:=(Qc hy)
 rw[memD]at h2
 have h3:x∈a:=by simpa using h2.1
 have h4:=h1.2
 simp[h3]at h4
noncomputable def Ywg(l m:List D):Option (List D):=(intsD l).bind fun a=>(intsD m).bind fun b=>
 if a.length < 4000∧b.length < 4000∧(ddup [] a).length < 64∧(ddup [] b).length < 64∧(b.all fun k=>decide (0≤k∧k < 1024))=true∧(xorI a b).length < 64 then some ((Ybn (xorI a b)).map D.int)else none
section
variable {X:Cx} {e e2:Expr} {f f2:Ro→Option D} {p p2 p3 pos pos2 pos3 pos4:Pos}
noncomputable def Yht(f f2:Ro→Option D):Ro→Option (List D):=fun ρ=>(b1 f Yn ρ).bind fun l=>(b1 f2 Yn ρ).bind fun m=>Ywg l m
@[simp] theorem ap_xorsetF{ρ:Ro}:Yht f f2 ρ=((f ρ).bind Yn).bind fun l=>((f2 ρ).bind Yn).bind fun m=>Ywg l m:=nr0 rfl
theorem Ywh(hc:X.calm=true)(hg:Gl X "sorted")(hm:X.mg "sorted"=none)(hg2:Gl X "set")(hm2:X.mg "set"=none)(ha:MC X e f)(ha2:MC X e2 f2)(hs:starEach [e] X.env=[(false,eval e X.env)]:=by rfl)(hs2:starEach [e2] X.env=[(false,eval e2 X.env)]:=by rfl)
 (he:starEach [.BinOp (.Call (.Name "set" p2) [e] [] pos2) .BitXor (.Call (.Name "set" p3) [e2] [] pos3) pos4] X.env=[(false,eval (.BinOp (.Call (.Name "set" p2) [e] [] pos2) .BitXor (.Call (.Name "set" p3) [e2] [] pos3) pos4) X.env)]:=by rfl)
 (hpl:(backTo pos2 (starEach [] X.env)).any (·.1)=false:=by rfl) (hpl3:(backTo pos3 (starEach [] X.env)).any (·.1)=false:=by rfl) (hpl2:(backTo pos (starEach [] X.env)).any (·.1)=false:=by rfl) :
 MF X (.Call (.Name "sorted" p) [.BinOp (.Call (.Name "set" p2) [e] [] pos2) .BitXor (.Call (.Name "set" p3) [e2] [] pos3) pos4] [] pos) (Yht f f2):=
 PE.imp (Ygv (Ylv hc) hg hm boot_sorted (Yex (Yx5 op_xor (Yc3 (Yjx hc) hg2 hm2 boot_set (Yeb ha Ygc hs) (by decide) (by decide) hs hpl) (Yc3 (Yjx hc) hg2 hm2 boot_set (Yeb ha2 Ygc hs2) (by decide) (by decide) hs2 hpl3)) Yjb he) (by decide) (by decide) he hpl2) fun σ H Q hq=>by
  obtain⟨ρ,l,H0,G0,G,e,s,h⟩:=hq
  unfold Yht at e
  obtain⟨l1,h1,e⟩:=qa e
  obtain⟨l2,h2,e⟩:=qa e
  obtain⟨d1,i1,j1⟩:=Ybv h1
  obtain⟨d2,i2,j2⟩:=Ybv h2
  unfold Ywg at e
  obtain⟨a,ea,e⟩:=qa e
  obtain⟨b,eb,e⟩:=qa e
  split at e
  case isFalse=>cases e
  rename_i hl
  obtain⟨b1',b2',b3,b4,b5,b6⟩:=hl
  cases e
  cases Yb7 ea
  cases Yb7 eb
  refine tCAof.at (show Yh f aNil ρ=some [d1] by simp[Yh,aNil,i1]) s fun vs H1 G1 g1 r1 s1=>?_
  obtain⟨v,rfl,rv⟩:=Ybw r1
  obtain⟨q,xs,rfl,hq,rl⟩:=Yoo (K:=X.K) j1 rv
  cases Yec rl
  refine⟨q,a,rfl,hq,b1',fun m ns hm' hp=>?_⟩
  have g2:=Gr.hid s1.seen hm' (setO X.prog X.w m ns)
  have s2:=s1.grow g2
  refine tCAof.at (show Yh f2 aNil ρ=some [d2] by simp[Yh,aNil,i2]) s2 fun vs2 H3 G3 g3 r3 s3=>?_
  obtain⟨v2,rfl,rv2⟩:=Ybw r3
  obtain⟨q2,xs2,rfl,hq2,rl2⟩:=Yoo (K:=X.K) j2 rv2
  cases Yec rl2
  refine⟨q2,b,rfl,hq2,b2',fun m2 ms hm2' hp2=>?_⟩
  have g4:=Gr.hid s3.seen hm2' (setO X.prog X.w m2 ms)
  have s4:=s3.grow g4
  have hmA:upd H3 m2 (setO X.prog X.w m2 ms) m=some (setO X.prog X.w m ns):=g4.h _ _ (g3.h _ _ Yv)
  refine⟨m,m2,ns,ms,rfl,rfl,hmA,Yv,fun k hk=>?_,by rw[hp2.length_eq];exact b4,by rw[hp.length_eq];exact b3,fun r rs hr hnd hmem=>?_⟩
  ·have hk':k∈b:=by
    have:=hp2.mem_iff.mp hk
    rw[memD]at this
    simpa using this
   simpa using List.all_eq_true.mp b5 k hk'
  have g5:=Gr.hid s4.seen hr (setO X.prog X.w r rs)
  have s5:=s4.grow g5
  have hperm:rs.Perm (xorI a b):=(List.perm_ext_iff_of_nodup hnd (Ymv a b)).mpr fun x=>by
   rw[hmem,Yst,hp.mem_iff,hp2.mem_iff,memD,memD]
   simp
  refine⟨r,rs,rfl,Yv,by rw[hperm.length_eq];exact b6,fun z hz=>?_⟩
  rw[Yg6 hperm]
  exact h z _ _ G3 (((((g1.trans g2).trans g3).trans g4).trans g5).trans (.hid s5.seen hz _)) (((((g1.trans g2).trans g3).trans g4).trans g5).h.free hz) (s5.seen.free hz) Yv (.ints _)
end
end
section
set_option maxRecDepth 100000
end
section
set_option maxRecDepth 100000
section
variable {prog:Program} {w:World} {A:Around} {E:Value→Shared→Prop} {s:Shared}
structure SetQ(w:World)(h:Heap)(a:Addr)(us:List (Int × Addr)):Prop where
 ex:∃o es ep t,h.get? a=some o∧o.ExactSet∧o.data=.set es ep t∧es.toList=us.map (fun u=>(u.1,Value.ref u.2))∧t.fits es.size=true∧t.mask=7∧t.dummies=#[]∧t.place.toList=us.map (fun u=>SetTable.bits u.1 % 8)∧Tab (byT w) t
end
end
section
set_option maxRecDepth 100000
end
section
end
section
set_option maxRecDepth 100000
noncomputable def advM(mask:Nat)(p:SetTable.Probe):SetTable.Probe:=SetTable.advance { mask:=mask,place:=#[],dummies:=#[],finger:=0,led:=false,moves:=0,plain:=false } p
noncomputable def itP(mask:Nat):Nat→SetTable.Probe→SetTable.Probe
 | 0,p=>p
 | k+1,p=>itP mask k (advM mask p)
noncomputable def stP(mask i perturb:Nat):SetTable.Probe:={ j:=i,more:=SetTable.runEnd mask i - i,i,perturb,dummy:=none }
def Way(mask:Nat)(occ:Nat→Prop)(p:SetTable.Probe)(j:Nat):Prop:=∃k,(itP mask k p).j=j∧∀m,m < k→occ (itP mask m p).j
noncomputable abbrev hSt(mask:Nat)(h:Int):SetTable.Probe:=stP mask (SetTable.bits h % (mask+1)) (SetTable.bits h)
section
variable {t:SetTable} {hA:Nat→Int} {h:Int}
structure Clean(t:SetTable)(n:Nat):Prop where
 hs:t.mask+1∈sizes
 dm:t.dummies=#[]
 rise:Rise t.place
 le:∀j∈t.place.toList,j≤t.mask
 sz:t.place.size=n
 room:n≤t.mask
end
end
section
set_option maxRecDepth 100000
noncomputable def bI(b:Bool):Int:=if b then 1 else 0
noncomputable def bH(bs:List Bool):Int:=y4u (bs.map bI)
def TupB(h:Heap)(u:Addr)(bs:List Bool):Prop:=bs.length≤4∧∃o n,h.get? u=some o∧o.cls=.type "tuple"∧o.data=.seq (bs.map Value.bool).toArray n
structure SetB(w:World)(h:Heap)(S:Addr)(us:List (Addr × List Bool)):Prop where
 ex:∃o es ep t,h.get? S=some o∧o.ExactSet∧o.data=.set es ep t∧es.toList.Perm (us.map fun u=>(bH u.2,Value.ref u.1))∧t.fits es.size=true∧Clean t es.size∧Tab (byT w) t∧es.size * 5 < t.mask * 3∧∀q∈es.toList.zip t.place.toList,Way t.mask (·∈t.place.toList) (hSt t.mask q.1.1) q.2
 keys:(us.map (·.2)).Nodup
 tups:∀u∈us,TupB h u.1 u.2
 few:us.length≤24
end
section
set_option maxRecDepth 100000
section
variable {n:Nat} {key:Nat→Nat} {cmp:Nat→Nat→(Bool→Shared→Prop)→Shared→Prop} {s:Shared}
variable (hinj:∀i j,i < n→j < n→key i=key j→i=j) (hc:∀i j (C:Bool→Shared→Prop),i < n→j < n→C (decide (key i < key j)) s→cmp i j C s)
include hinj hc
omit hinj hc in
omit hinj hc in
omit hinj hc in
end
end
section
section
variable {X:Cx} {e:Expr} {f:Ro→Option D} {p p2 pos pos2:Pos}
noncomputable def Ywi:D→D→Option D
 | .tup a,.tup b=>if a.length+b.length≤cap6 then some (.tup (a++b))else none
 | _,_=>none
noncomputable def y8h(K:W.Frag):R2:=fun x y H Q=>∃a b xs ys,x=.ref a∧y=.ref b∧SqT K H a xs∧SqT K H b ys∧xs.length+ys.length≤sizeLine∧
 (xs=[]→Q (.ref b) H)∧(xs≠[]→ys=[]→Q (.ref a) H)∧(xs≠[]→ys≠[]→∀p,H p=none→Q (.ref p) (upd H p (.tup (xs++ys))))
theorem y2p:OpR X (binaryOp .Add) (y8h X.K):=by
 intro pins s σ H x y v u Q I rx ry h
 obtain⟨a,b,xs,ys,rfl,rfl,ha,hb,hz,q0,q1,q2⟩:=h
 by_cases hx:xs=[]
 ·cases rx
  cases ry
  obtain⟨its,r1,p1,_⟩:=I.tuple ha
  obtain⟨its2,r2,p2,_⟩:=I.tuple hb
  have he:its=[]:=r1.nil_iff.mpr hx
  obtain⟨⟨cls,dd,data,sl⟩,ho,hc,n,hd⟩:=p1
  obtain⟨⟨cls2,dd2,data2,sl2⟩,ho2,hc2,n2,hd2⟩:=p2
  simp only at hc hd hc2 hd2
  subst hc hd hc2 hd2
  exact concat_meets ⟨_,ho,rfl⟩ ⟨_,ho2,rfl⟩ noFill_tuple_add seq_tuple_add PySem.F.slot_tuple_add PySem.F.entry_tuple_add (PySem.F.args_tuple_add_2 _ _)
   (tuple_addW0 a b its.toArray its2.toArray n n2 dd dd2 sl sl2 (by simp[he])) ⟨ho,ho2,⟨.ref b,H,I,rfl,q0 hx⟩⟩
 ·exact y1d pins s σ H _ _ _ _ Q I rx ry ⟨a,b,xs,ys,rfl,rfl,ha,hb,hx,hz,q1 hx,q2 hx⟩
theorem y2q{a b:Expr}{fa fb:Ro→Option D}(ha:MC X a fa)(hb:MC X b fb):ME X (.BinOp a .Add b pos) (b2 fa fb Ywi):=PE.imp (Yx5 y2p ha hb) fun σ H Q hx_=>by
 obtain⟨ρ,l,H0,G0,G,e,s,h⟩:=hx_
 obtain⟨dx,dy,h1,h2,h3⟩:=Yjh e
 refine tCof.at h1 s fun v H1 G1 g1 r1 s1=>tCof.at h2 s1 fun u H2 G2 g2 r2 s2=>?_
 unfold Ywi at h3
 split at h3
 ·rename_i l1 l2
  split at h3
  ·rename_i hz
   cases h3
   have r1':=r1.grow g2
   rw[Ct]at r1'
   rw[Ct]at r2
   obtain⟨p,xs,rfl,gp,rl⟩:=r1'
   obtain⟨q,zs,rfl,gq,rm⟩:=r2
   refine⟨p,q,xs,zs,rfl,rfl,.of gp.1,.of gq.1,by rw[rl.length,rm.length];exact Yho hz,fun hx=>?_,fun _ hy=>?_,fun _ _ m hm=>h _ _ _ ((g1.trans g2).trans (.new s2.seen hm (.tup (xs++zs)))) ?_⟩
   ·subst hx
    have:l1=[]:=List.eq_nil_of_length_eq_zero (by rw[←rl.length];rfl)
    subst this
    refine h _ _ G2 (g1.trans g2) ?_
    rw[Qn,Rp]
    exact⟨q,zs,rfl,gq.2,rm⟩
   ·subst hy
    have:l2=[]:=List.eq_nil_of_length_eq_zero (by rw[←rm.length];rfl)
    subst this
    refine h _ _ G2 (g1.trans g2) ?_
    rw[List.append_nil,Rp]
    exact⟨p,xs,rfl,gp.2,rl⟩
   ·rw[Rp]
    exact⟨m,_,rfl,Yv,(rl.append rm).mono (Gr.new s2.seen hm _).g⟩
  ·cases h3
 ·cases h3
end
end
section
set_option maxRecDepth 100000
end
section
structure ZE(X:Cx)(e:Expr)(f:Ro→Option D):Prop where
 un:ME X e f
structure ZC(X:Cx)(e:Expr)(f:Ro→Option D):Prop where
 un:MC X e f
structure ZCA(X:Cx)(es:List Expr)(f:Ro→Option (List D)):Prop where
 un:MCA X es f
structure ZF(X:Cx)(e:Expr)(f:Ro→Option (List D)):Prop where
 un:MF X e f
structure ZT(X:Cx)(e:Expr)(f:Ro→Option Bool):Prop where
 un:MT X e f
structure ZW(X:Cx)(e:Expr)(f:Ro→Option Bool):Prop where
 un:MW X e f
structure ZA(X:Cx)(es:List Expr)(f:Ro→Option (List D)):Prop where
 un:MA X es f
structure ZI(X:Cx)(tg iter:Expr)(f:Ro→Option (List D)):Prop where
 un:MI X tg iter f
structure ZS(X:Cx)(st:Stmt)(f:Ro→Option Out):Prop where
 un:MS X st f
structure ZB(X:Cx)(sts:List Stmt)(f:Ro→Option Out):Prop where
 un:MB X sts f
structure ZG(X:Cx)(tg:Expr)(gt:D→Ro→Option Ro):Prop where
 un:MG X tg gt
structure ZIfs(X:Cx)(K:W.Frag)(ifs:List Expr)(f:Ro→Option Bool):Prop where
 un:PIfs X ifs (tTof K f)
structure ZO(X:Cx)(e:Option Expr)(f:Option (Ro→Option D)):Prop where
 un:PO X e (tO X.K f)
structure ZP(X:Cx)(pos:Pos)(keys:List (Option Expr))(values:List Expr)(ks:List Str)(fs:List (Ro→Option D)):Prop where
 un:MP X pos keys values ks fs
section
variable {K:W.Frag}
variable {X:Cx}
variable {H0 G0 H G:Hp} {σ:L2.St} {ρ:Ro}
theorem Yb{e:Expr}{f:Ro→Option D}(h:ZE X e f):ZC X e f:=⟨ME.mc h.un⟩
end
section
variable {K:W.Frag}
variable {X:Cx} {a b c e:Expr} {es:List Expr} {fa fb fc f:Ro→Option D} {ga:Ro→Option (List D)} {pos:Pos}
theorem Yj(i:Nat){x:Str}(hN:X.N[i]?=some x:=by rfl)(hv:Vis X.env.scope x:=by first | exact Or.inl rfl | exact Or.inr (Or.inl rfl) | exact Or.inr (Or.inr rfl))(hd:(x==("__debug__":Str))=false:=by decide)(hcd:(x==("__classdict__":Str))=false:=by decide):ZE X (.Name x pos) (getV i):=⟨y4v i hN hv hd hcd⟩
end
section
variable {K:W.Frag}
variable {X:Cx} {a b c e:Expr} {es:List Expr} {fa fb fc f:Ro→Option D} {ga:Ro→Option (List D)} {pos:Pos}
theorem Yd(i:Nat){x:Str}(hN:X.N[i]?=some x:=by rfl)(hv:Vis X.env.scope x:=by first | exact Or.inl rfl | exact Or.inr (Or.inl rfl) | exact Or.inr (Or.inr rfl))(hd:(x==("__debug__":Str))=false:=by decide)(hcd:(x==("__classdict__":Str))=false:=by decide):ZC X (.Name x pos) (getC i):=⟨y4w i hN hv hd hcd⟩
end
section
variable {K:W.Frag}
variable {X:Cx} {a b c e:Expr} {es:List Expr} {fa fb fc f:Ro→Option D} {ga:Ro→Option (List D)} {pos:Pos}
theorem Yg{i:Int}{j}:ZE X (.Constant (.int i) j pos) (kD (.int i)):=⟨Yz5 ⟩
end
section
variable {K:W.Frag}
variable {X:Cx} {a b c e:Expr} {es:List Expr} {fa fb fc f:Ro→Option D} {ga:Ro→Option (List D)} {pos:Pos}
theorem Ycq{k:Bool}{j}:ZE X (.Constant (.bool k) j pos) (kD (.bl k)):=⟨y7y ⟩
end
section
variable {K:W.Frag}
variable {X:Cx} {a b c e:Expr} {es:List Expr} {fa fb fc f:Ro→Option D} {ga:Ro→Option (List D)} {pos:Pos}
theorem Yee{j}:ZE X (.Constant .none j pos) (kD .non):=⟨y4x ⟩
end
section
variable {K:W.Frag}
variable {X:Cx} {a b c e:Expr} {es:List Expr} {fa fb fc f:Ro→Option D} {ga:Ro→Option (List D)} {pos:Pos}
theorem Yx{x:Str}{j}(hx:PyData.strOk x=true:=by decide +kernel):ZE X (.Constant (.str x) j pos) (kD (.str x)):=⟨y4y hx⟩
end
section
variable {K:W.Frag}
variable {X:Cx} {a b c e:Expr} {es:List Expr} {fa fb fc f:Ro→Option D} {ga:Ro→Option (List D)} {pos:Pos}
theorem Ymw(ha:ZC X a fa)(hb:ZC X b fb):ZE X (.BinOp a .Sub b pos) (b2 fa fb subI):=⟨y40 ha.un hb.un⟩
end
section
variable {K:W.Frag}
variable {X:Cx} {a b c e:Expr} {es:List Expr} {fa fb fc f:Ro→Option D} {ga:Ro→Option (List D)} {pos:Pos}
theorem y2r(ha:ZC X a fa)(hb:ZC X b fb):ZE X (.BinOp a .Mult b pos) (b2 fa fb mulI):=⟨y41 ha.un hb.un⟩
end
section
variable {K:W.Frag}
variable {X:Cx} {a b c e:Expr} {es:List Expr} {fa fb fc f:Ro→Option D} {ga:Ro→Option (List D)} {pos:Pos}
theorem Yhu(ha:ZC X a fa)(hb:ZC X b fb):ZE X (.BinOp a .FloorDiv b pos) (b2 fa fb divI):=⟨y42 ha.un hb.un⟩
end
section
variable {K:W.Frag}
variable {X:Cx} {a b c e:Expr} {es:List Expr} {fa fb fc f:Ro→Option D} {ga:Ro→Option (List D)} {pos:Pos}
theorem Ya4(ha:ZC X a fa)(hb:ZC X b fb):ZE X (.BinOp a .Mod b pos) (b2 fa fb modI):=⟨y43 ha.un hb.un⟩
end
section
variable {K:W.Frag}
variable {X:Cx} {a b c e:Expr} {es:List Expr} {fa fb fc f:Ro→Option D} {ga:Ro→Option (List D)} {pos:Pos}
theorem y6d(ha:ZC X a fa)(hb:ZC X b fb):ZE X (.Compare a [.Lt] [b] pos) (mB (b2 fa fb ltI)):=⟨y7z ha.un hb.un⟩
end
section
variable {K:W.Frag}
variable {X:Cx} {a b c e:Expr} {es:List Expr} {fa fb fc f:Ro→Option D} {ga:Ro→Option (List D)} {pos:Pos}
theorem y6e(ha:ZC X a fa)(hb:ZC X b fb):ZT X (.Compare a [.Lt] [b] pos) (b2 fa fb ltI):=⟨y70 ha.un hb.un⟩
end
section
variable {K:W.Frag}
variable {X:Cx} {a b c e:Expr} {es:List Expr} {fa fb fc f:Ro→Option D} {ga:Ro→Option (List D)} {pos:Pos}
theorem Yd0(hu:X.A.units+64 < cLine)(ha:ZC X a fa)(hb:ZC X b fb):ZE X (.Compare a [.Eq] [b] pos) (mB (b2 fa fb (eqM false))):=⟨y71 hu ha.un hb.un⟩
end
section
variable {K:W.Frag}
variable {X:Cx} {a b c e:Expr} {es:List Expr} {fa fb fc f:Ro→Option D} {ga:Ro→Option (List D)} {pos:Pos}
theorem Ysu(hu:X.A.units+64 < cLine)(ha:ZC X a fa)(hb:ZC X b fb):ZE X (.Compare a [.NotEq] [b] pos) (mB (b2 fa fb (eqM true))):=⟨y72 hu ha.un hb.un⟩
end
section
variable {K:W.Frag}
variable {X:Cx} {a b c e:Expr} {es:List Expr} {fa fb fc f:Ro→Option D} {ga:Ro→Option (List D)} {pos:Pos}
theorem Yav(hu:X.A.units+64 < cLine)(ha:ZC X a fa)(hb:ZC X b fb):ZT X (.Compare a [.Eq] [b] pos) (b2 fa fb (eqM false)):=⟨y73 hu ha.un hb.un⟩
end
section
variable {K:W.Frag}
variable {X:Cx} {a b c e:Expr} {es:List Expr} {fa fb fc f:Ro→Option D} {ga:Ro→Option (List D)} {pos:Pos}
theorem Ysv(hu:X.A.units+64 < cLine)(ha:ZC X a fa)(hb:ZC X b fb):ZT X (.Compare a [.NotEq] [b] pos) (b2 fa fb (eqM true)):=⟨y74 hu ha.un hb.un⟩
end
section
variable {K:W.Frag}
variable {X:Cx} {a b c e:Expr} {es:List Expr} {fa fb fc f:Ro→Option D} {ga:Ro→Option (List D)} {pos:Pos}
theorem y0j(hu:X.A.units+64 < cLine)(ha:ZC X a fa)(hb:ZC X b fb)(hm:behindInMarks .In b=false:=by with_unfolding_all rfl):ZE X (.Compare a [.In] [b] pos) (mB (b2 fa fb (inM false))):=⟨y75 hu ha.un hb.un hm⟩
end
section
variable {K:W.Frag}
variable {X:Cx} {a b c e:Expr} {es:List Expr} {fa fb fc f:Ro→Option D} {ga:Ro→Option (List D)} {pos:Pos}
theorem y0k(hu:X.A.units+64 < cLine)(ha:ZC X a fa)(hb:ZC X b fb)(hm:behindInMarks .In b=false:=by with_unfolding_all rfl):ZT X (.Compare a [.In] [b] pos) (b2 fa fb (inM false)):=⟨y76 hu ha.un hb.un hm⟩
end
section
variable {K:W.Frag}
variable {X:Cx} {a b c e:Expr} {es:List Expr} {fa fb fc f:Ro→Option D} {ga:Ro→Option (List D)} {pos:Pos}
theorem y2s(hu:X.A.units+64 < cLine)(ha:ZC X a fa)(hb:ZC X b fb)(hm:behindInMarks .NotIn b=false:=by with_unfolding_all rfl):ZT X (.Compare a [.NotIn] [b] pos) (b2 fa fb (inM true)):=⟨y44 hu ha.un hb.un hm⟩
end
section
variable {K:W.Frag}
variable {X:Cx} {a b c e:Expr} {es:List Expr} {fa fb f:Ro→Option D} {fc fd:Ro→Option Bool} {ga:Ro→Option (List D)} {pos:Pos} {rest:List Expr}
theorem Ybj(ha:ZC X a fa)(he:∀whole,isTrue a X.env whole=(do let v ←whole;standAt a.pos;holding [v] (truthy v)):=by intro _;rfl):ZT X a (b1 fa truD):=⟨y45 ha.un he⟩
end
section
variable {K:W.Frag}
variable {X:Cx} {a b c e:Expr} {es:List Expr} {fa fb f:Ro→Option D} {fc fd:Ro→Option Bool} {ga:Ro→Option (List D)} {pos:Pos} {rest:List Expr}
theorem Ydi(ha:ZT X a fc):ZW X (.BoolOp .And [a] pos) fc:=⟨y1p ha.un⟩
end
section
variable {K:W.Frag}
variable {X:Cx} {a b c e:Expr} {es:List Expr} {fa fb f:Ro→Option D} {fc fd:Ro→Option Bool} {ga:Ro→Option (List D)} {pos:Pos} {rest:List Expr}
theorem Yhv(ha:ZT X a fc):ZW X (.BoolOp .Or [a] pos) fc:=⟨y46 ha.un⟩
end
section
variable {K:W.Frag}
variable {X:Cx} {a b c e:Expr} {es:List Expr} {fa fb f:Ro→Option D} {fc fd:Ro→Option Bool} {ga:Ro→Option (List D)} {pos:Pos} {rest:List Expr}
theorem Ye6(ha:ZT X a fc)(hb:ZW X (.BoolOp .And (b::rest) pos) fd):ZW X (.BoolOp .And (a::b::rest) pos) (andT fc fd):=⟨y48 ha.un hb.un⟩
end
section
variable {K:W.Frag}
variable {X:Cx} {a b c e:Expr} {es:List Expr} {fa fb f:Ro→Option D} {fc fd:Ro→Option Bool} {ga:Ro→Option (List D)} {pos:Pos} {rest:List Expr}
theorem Yio(ha:ZT X a fc)(hb:ZW X (.BoolOp .Or (b::rest) pos) fd):ZW X (.BoolOp .Or (a::b::rest) pos) (orT fc fd):=⟨y77 ha.un hb.un⟩
end
section
variable {K:W.Frag}
variable {X:Cx} {a b c e:Expr} {es:List Expr} {fa fb f:Ro→Option D} {fc fd:Ro→Option Bool} {ga:Ro→Option (List D)} {pos:Pos} {rest:List Expr}
theorem Ye7(ha:ZT X a fc):ZT X (.UnaryOp .Not a pos) (notT fc):=⟨y49 ha.un⟩
end
section
variable {K:W.Frag}
variable {X:Cx} {a b c e:Expr} {es:List Expr} {fa fb f:Ro→Option D} {fc fd:Ro→Option Bool} {ga:Ro→Option (List D)} {pos:Pos} {rest:List Expr}
theorem Yg7(ha:ZE X a fa):ZE X (.BoolOp .And [a] pos) fa:=⟨y1r ha.un⟩
end
section
variable {K:W.Frag}
variable {X:Cx} {a b c e:Expr} {es:List Expr} {fa fb f:Ro→Option D} {fc fd:Ro→Option Bool} {ga:Ro→Option (List D)} {pos:Pos} {rest:List Expr}
theorem Ywj(ha:ZE X a fa):ZE X (.BoolOp .Or [a] pos) fa:=⟨y5a ha.un⟩
end
section
variable {K:W.Frag}
variable {X:Cx} {a b c e:Expr} {es:List Expr} {fa fb f:Ro→Option D} {fc fd:Ro→Option Bool} {ga:Ro→Option (List D)} {pos:Pos} {rest:List Expr}
theorem Yjz(ha:ZE X a fa)(hb:ZE X (.BoolOp .And (b::rest) pos) fb):ZE X (.BoolOp .And (a::b::rest) pos) (andV fa fb):=⟨y5b ha.un hb.un⟩
end
section
variable {K:W.Frag}
variable {X:Cx} {a b c e:Expr} {es:List Expr} {fa fb f:Ro→Option D} {fc fd:Ro→Option Bool} {ga:Ro→Option (List D)} {pos:Pos} {rest:List Expr}
theorem Ywk(ha:ZE X a fa)(hb:ZE X (.BoolOp .Or (b::rest) pos) fb):ZE X (.BoolOp .Or (a::b::rest) pos) (orV fa fb):=⟨y78 ha.un hb.un⟩
end
section
variable {K:W.Frag}
variable {X:Cx} {a b c e:Expr} {es:List Expr} {fa fb f:Ro→Option D} {fc fd:Ro→Option Bool} {ga:Ro→Option (List D)} {pos:Pos} {rest:List Expr}
theorem y2t(ha:ZE X a fa):ZE X (.UnaryOp .Not a pos) (notV fa):=⟨y5c ha.un⟩
end
section
variable {K:W.Frag}
variable {X:Cx} {a b c e:Expr} {es:List Expr} {fa fb f:Ro→Option D} {fc fd:Ro→Option Bool} {ga:Ro→Option (List D)} {pos:Pos} {rest:List Expr}
theorem y6f(hc:ZT X c fc)(ha:ZE X a fa)(hb:ZE X b fb):ZE X (.IfExp c a b pos) (ifV fc fa fb):=⟨y79 hc.un ha.un hb.un⟩
end
section
variable {K:W.Frag}
variable {X:Cx} {a b c e:Expr} {es:List Expr} {fa fb f:Ro→Option D} {fc fd:Ro→Option Bool} {ga:Ro→Option (List D)} {pos:Pos} {rest:List Expr}
theorem y2u(ha:ZC X a fa)(hb:ZC X b fb):ZE X (.Compare a [.Is] [b] pos) (mB (b2 fa fb (isN false))):=⟨y5d ha.un hb.un⟩
end
section
variable {K:W.Frag}
variable {X:Cx} {a b c e:Expr} {es:List Expr} {fa fb f:Ro→Option D} {fc fd:Ro→Option Bool} {ga:Ro→Option (List D)} {pos:Pos} {rest:List Expr}
theorem Yzb(ha:ZC X a fa)(hb:ZC X b fb):ZE X (.Compare a [.IsNot] [b] pos) (mB (b2 fa fb (isN true))):=⟨y1s ha.un hb.un⟩
end
section
variable {K:W.Frag}
variable {X:Cx} {a b c e:Expr} {es:List Expr} {fa fb f:Ro→Option D} {fc fd:Ro→Option Bool} {ga:Ro→Option (List D)} {pos:Pos} {rest:List Expr}
theorem Ywl(ha:ZC X a fa)(hb:ZC X b fb):ZT X (.Compare a [.Is] [b] pos) (b2 fa fb (isN false)):=⟨y5e ha.un hb.un⟩
end
section
variable {K:W.Frag}
variable {X:Cx} {a b c e:Expr} {es:List Expr} {fa fb f:Ro→Option D} {fc fd:Ro→Option Bool} {ga:Ro→Option (List D)} {pos:Pos} {rest:List Expr}
theorem Ysw(ha:ZC X a fa)(hb:ZC X b fb):ZT X (.Compare a [.IsNot] [b] pos) (b2 fa fb (isN true)):=⟨y1t ha.un hb.un⟩
end
section
variable {K:W.Frag}
variable {X:Cx} {a b c e:Expr} {es:List Expr} {fa fb f:Ro→Option D} {fc fd:Ro→Option Bool} {ga:Ro→Option (List D)} {pos:Pos} {rest:List Expr}
theorem Yi(ha:ZC X a fa)(hb:ZC X b fb)(hs:Yey b:=by intro _ _;rfl):ZE X (.Subscript a b pos) (b2 fa fb ixD):=⟨Yvj ha.un hb.un hs⟩
end
section
variable {K:W.Frag}
variable {X:Cx} {a b c e:Expr} {es:List Expr} {fa fb f:Ro→Option D} {fc fd:Ro→Option Bool} {ga:Ro→Option (List D)} {pos:Pos} {rest:List Expr}
theorem Yj0{lo hi:Option Expr}{fl fh:Option (Ro→Option D)}{p2:Pos}(ha:ZC X a fa)(hl:ZO X lo fl)(hh:ZO X hi fh):ZF X (.Subscript a (.Slice lo hi none p2) pos) (slF fa fl fh):=⟨Yyj ha.un hl.un hh.un⟩
end
section
variable {K:W.Frag}
variable {X:Cx} {a b c e:Expr} {es:List Expr} {fa fb f:Ro→Option D} {fc fd:Ro→Option Bool} {ga:Ro→Option (List D)} {pos:Pos} {rest:List Expr}
theorem Ywm :ZO X none none:=⟨y8a ⟩
end
section
variable {K:W.Frag}
variable {X:Cx} {a b c e:Expr} {es:List Expr} {fa fb f:Ro→Option D} {fc fd:Ro→Option Bool} {ga:Ro→Option (List D)} {pos:Pos} {rest:List Expr}
theorem Yo4(h:ZC X e f):ZO X (some e) (some f):=⟨y8b h.un⟩
end
section
variable {K:W.Frag}
variable {X:Cx} {a b c e:Expr} {es:List Expr} {fa fb f:Ro→Option D} {fc fd:Ro→Option Bool} {ga:Ro→Option (List D)} {pos:Pos} {rest:List Expr}
theorem Yae{g:Ro→Option (List D)}(h:ZF X e g):ZE X e (lF g):=⟨MF.me h.un⟩
end
section
variable {K:W.Frag}
variable {X:Cx} {a b c e:Expr} {es:List Expr} {fa fb f:Ro→Option D} {fc fd:Ro→Option Bool} {ga:Ro→Option (List D)} {pos:Pos} {rest:List Expr}
theorem Yl :ZA X [] aNil:=⟨Yvl ⟩
end
section
variable {K:W.Frag}
variable {X:Cx} {a b c e:Expr} {es:List Expr} {fa fb f:Ro→Option D} {fc fd:Ro→Option Bool} {ga:Ro→Option (List D)} {pos:Pos} {rest:List Expr}
theorem Yc(ha:ZE X e f)(hr:ZA X es ga)(hs:starEach (e::es) X.env=(false,eval e X.env)::starEach es X.env:=by rfl):ZA X (e::es) (Yh f ga):=⟨Yqq ha.un hr.un hs⟩
end
section
variable {K:W.Frag}
variable {X:Cx} {a b c e:Expr} {es:List Expr} {fa fb f:Ro→Option D} {fc fd:Ro→Option Bool} {ga:Ro→Option (List D)} {pos:Pos} {rest:List Expr}
theorem Yu :ZCA X [] aNil:=⟨Ygc ⟩
end
section
variable {K:W.Frag}
variable {X:Cx} {a b c e:Expr} {es:List Expr} {fa fb f:Ro→Option D} {fc fd:Ro→Option Bool} {ga:Ro→Option (List D)} {pos:Pos} {rest:List Expr}
theorem Yr(ha:ZC X e f)(hr:ZCA X es ga)(hs:starEach (e::es) X.env=(false,eval e X.env)::starEach es X.env:=by rfl):ZCA X (e::es) (Yh f ga):=⟨Yeb ha.un hr.un hs⟩
end
section
variable {K:W.Frag}
variable {X:Cx} {a b c e:Expr} {es:List Expr} {fa fb f:Ro→Option D} {fc fd:Ro→Option Bool} {ga:Ro→Option (List D)} {pos:Pos} {rest:List Expr}
theorem Yad{x1}(h:ZA X es ga):ZE X (.Tuple es x1 pos) (dTup ga):=⟨y5g h.un⟩
end
section
variable {K:W.Frag}
variable {X:Cx} {a b c e:Expr} {es:List Expr} {fa fb f:Ro→Option D} {fc fd:Ro→Option Bool} {ga:Ro→Option (List D)} {pos:Pos} {rest:List Expr}
theorem Ygi(h:ZA X es ga):ZF X (.List es pos) (dLst ga):=⟨y0a h.un⟩
end
section
variable {K:W.Frag}
variable {X:Cx} {a b c e:Expr} {es:List Expr} {fa fb f:Ro→Option D} {fc fd:Ro→Option Bool} {ga:Ro→Option (List D)} {pos:Pos} {rest:List Expr}
variable {x:Str} {p:Pos} {id T:String} {r:List V→Hp→VK→Prop} {g:List D→Option D} {gf:List D→Option (List D)}
theorem Yag(hc:Yc2 X (.builtin id) r)(hr:SemC X.K r g)(hg:Gl X x)(hm:X.mg x=none)(hv:bootBuiltins x=some (.builtin id))(ha:ZCA X (e::es) ga)(hn:x≠"__name__":=by decide)(hdb:(x==("__debug__":Str))=false:=by decide)(he:starEach (e::es) X.env=(false,eval e X.env)::starEach es X.env:=by rfl)(hpl:(backTo pos (starEach es X.env)).any (·.1)=false:=by rfl):ZE X (.Call (.Name x p) (e::es) [] pos) (cC ga g):=⟨Yyk hc hr hg hm hv ha.un hn hdb he hpl⟩
end
section
variable {K:W.Frag}
variable {X:Cx} {a b c e:Expr} {es:List Expr} {fa fb f:Ro→Option D} {fc fd:Ro→Option Bool} {ga:Ro→Option (List D)} {pos:Pos} {rest:List Expr}
variable {x:Str} {p:Pos} {id T:String} {r:List V→Hp→VK→Prop} {g:List D→Option D} {gf:List D→Option (List D)}
theorem Ye8(hc:Yc2 X (.builtin id) r)(hr:SemF X.K r gf)(hg:Gl X x)(hm:X.mg x=none)(hv:bootBuiltins x=some (.builtin id))(ha:ZCA X (e::es) ga)(hn:x≠"__name__":=by decide)(hdb:(x==("__debug__":Str))=false:=by decide)(he:starEach (e::es) X.env=(false,eval e X.env)::starEach es X.env:=by rfl)(hpl:(backTo pos (starEach es X.env)).any (·.1)=false:=by rfl):ZF X (.Call (.Name x p) (e::es) [] pos) (cF ga gf):=⟨Yyl hc hr hg hm hv ha.un hn hdb he hpl⟩
end
section
variable {K:W.Frag}
variable {X:Cx} {a b c e:Expr} {es:List Expr} {fa fb f:Ro→Option D} {fc fd:Ro→Option Bool} {ga:Ro→Option (List D)} {pos:Pos} {rest:List Expr}
variable {x:Str} {p:Pos} {id T:String} {r:List V→Hp→VK→Prop} {g:List D→Option D} {gf:List D→Option (List D)}
theorem Yaw(hc:Yc2 X (.type T) r)(hr:SemC X.K r g)(hg:Gl X x)(hm:X.mg x=none)(hv:bootBuiltins x=some (.type T))(ha:ZCA X (e::es) ga)(hn:x≠"__name__":=by decide)(hdb:(x==("__debug__":Str))=false:=by decide)(he:starEach (e::es) X.env=(false,eval e X.env)::starEach es X.env:=by rfl)(hpl:(backTo pos (starEach es X.env)).any (·.1)=false:=by rfl):ZE X (.Call (.Name x p) (e::es) [] pos) (cC ga g):=⟨Yvn hc hr hg hm hv ha.un hn hdb he hpl⟩
end
section
variable {K:W.Frag}
variable {X:Cx} {a b c e:Expr} {es:List Expr} {fa fb f:Ro→Option D} {fc fd:Ro→Option Bool} {ga:Ro→Option (List D)} {pos:Pos} {rest:List Expr}
variable {x:Str} {p:Pos} {id T:String} {r:List V→Hp→VK→Prop} {g:List D→Option D} {gf:List D→Option (List D)}
theorem Yd1(hc:Yc2 X (.type T) r)(hr:SemF X.K r gf)(hg:Gl X x)(hm:X.mg x=none)(hv:bootBuiltins x=some (.type T))(ha:ZCA X (e::es) ga)(hn:x≠"__name__":=by decide)(hdb:(x==("__debug__":Str))=false:=by decide)(he:starEach (e::es) X.env=(false,eval e X.env)::starEach es X.env:=by rfl)(hpl:(backTo pos (starEach es X.env)).any (·.1)=false:=by rfl):ZF X (.Call (.Name x p) (e::es) [] pos) (cF ga gf):=⟨Yvo hc hr hg hm hv ha.un hn hdb he hpl⟩
end
section
variable {K:W.Frag}
variable {X:Cx} {e:Expr} {f:Ro→Option D} {gl:Ro→Option (List D)} {pos pos':Pos} {st:Stmt} {sts:List Stmt} {fs gs:Ro→Option Out}
theorem Yab :ZB X [] sNil:=⟨y5h ⟩
end
section
variable {K:W.Frag}
variable {X:Cx} {e:Expr} {f:Ro→Option D} {gl:Ro→Option (List D)} {pos pos':Pos} {st:Stmt} {sts:List Stmt} {fs gs:Ro→Option Out}
theorem Yk(h1:ZS X st fs)(h2:ZB X sts gs):ZB X (st::sts) (sSeq fs gs):=⟨y1w h1.un h2.un⟩
end
section
variable {K:W.Frag}
variable {X:Cx} {e:Expr} {f:Ro→Option D} {gl:Ro→Option (List D)} {pos pos':Pos} {st:Stmt} {sts:List Stmt} {fs gs:Ro→Option Out}
theorem Yp(h1:ZS X st fs):ZB X [st] fs:=⟨y5i h1.un⟩
end
section
variable {K:W.Frag}
variable {X:Cx} {e:Expr} {f:Ro→Option D} {gl:Ro→Option (List D)} {pos pos':Pos} {st:Stmt} {sts:List Stmt} {fs gs:Ro→Option Out}
theorem Ymx(is:List Nat)(h:ZS X st fs):ZS X st (wF is fs):=⟨y5j is h.un⟩
end
section
variable {K:W.Frag}
variable {X:Cx} {e:Expr} {f:Ro→Option D} {gl:Ro→Option (List D)} {pos pos':Pos} {st:Stmt} {sts:List Stmt} {fs gs:Ro→Option Out}
theorem y0(i:Nat){x:Str}(hN:X.N.Nodup)(he:ZE X e f)(hi:X.N[i]?=some x:=by rfl)(hx:Loc X.env.scope x:=by first | exact Or.inl rfl | exact Or.inr rfl)(hs:swapsWith e (some (.Name x pos')) pos.line X.env=pure false:=by rfl)(hf:X.fn x=true∨X.env.scope.names.lookup x=some .local:=by first | exact .inl rfl | exact .inr rfl):ZS X (.Assign [.Name x pos'] e pos) (sSet i f):=⟨y0c i hN he.un hi hx hs hf⟩
end
section
variable {K:W.Frag}
variable {X:Cx} {e:Expr} {f:Ro→Option D} {gl:Ro→Option (List D)} {pos pos':Pos} {st:Stmt} {sts:List Stmt} {fs gs:Ro→Option Out}
theorem Ymy(i:Nat){x:Str}(hN:X.N.Nodup)(he:ZF X e gl)(hi:X.N[i]?=some x:=by rfl)(hx:Loc X.env.scope x:=by first | exact Or.inl rfl | exact Or.inr rfl)(hs:swapsWith e (some (.Name x pos')) pos.line X.env=pure false:=by rfl)(hf:X.fn x=true∨X.env.scope.names.lookup x=some .local:=by first | exact .inl rfl | exact .inr rfl):ZS X (.Assign [.Name x pos'] e pos) (sOwn i gl):=⟨y5m i hN he.un hi hx hs hf⟩
end
section
variable {K:W.Frag}
variable {X:Cx} {e:Expr} {f:Ro→Option D} {gl:Ro→Option (List D)} {pos pos':Pos} {st:Stmt} {sts:List Stmt} {fs gs:Ro→Option Out}
theorem Yt(he:ZE X e f):ZS X (.Return (some e) pos) (sRet f):=⟨y5n he.un⟩
end
section
variable {K:W.Frag}
variable {X:Cx} {e:Expr} {f:Ro→Option D} {gl:Ro→Option (List D)} {pos pos':Pos} {st:Stmt} {sts:List Stmt} {fs gs:Ro→Option Out}
theorem Yak{c:Expr}{a b:List Stmt}{fc:Ro→Option Bool}(hc:ZT X c fc)(ha:ZB X a fs)(hb:ZB X b gs):ZS X (.If c a b pos) (sIf fc fs gs):=⟨y8c hc.un ha.un hb.un⟩
end
section
variable {K:W.Frag}
variable {X:Cx} {e:Expr} {f:Ro→Option D} {gl:Ro→Option (List D)} {pos pos':Pos} {st:Stmt} {sts:List Stmt} {fs gs:Ro→Option Out}
theorem Yt7(i:Nat){x:Str}{p2 apos cpos:Pos}(he:ZE X e f)(hN:X.N[i]?=some x:=by rfl)(hv:Vis X.env.scope x:=by first | exact Or.inl rfl | exact Or.inr (Or.inl rfl) | exact Or.inr (Or.inr rfl))(hd:(x==("__debug__":Str))=false:=by decide)(hcd:(x==("__classdict__":Str))=false:=by decide)(hse:swapsWith (.Call (.Attribute (.Name x p2) "append" apos) [e] [] cpos) none pos.line X.env=pure false:=by rfl)(hs:starEach [e] X.env=[(false,eval e X.env)]:=by rfl)(hfew:((backTo cpos (starEach [e] X.env)).all (fun x=>!x.1)&&(backToKw cpos (keywordEach [] X.env)).all (fun x=>x.1.isSome)&&decide ([e].length+([]:List Keyword).length+(if ([]:List Keyword).isEmpty then 0 else 1) < 30))=true:=by rfl)(hline:(apos.endLine==cpos.line)=true:=by rfl)(hbase:attributeBase (.Name x p2) "append" X.env (eval (.Name x p2) X.env)=eval (.Name x p2) X.env:=by rfl):ZS X (.Expr (.Call (.Attribute (.Name x p2) "append" apos) [e] [] cpos) pos) (sMut i f appD):=⟨Yvp i he.un hN hv hd hcd hse hs hfew hline hbase⟩
end
section
variable {K:W.Frag}
variable {X:Cx} {e:Expr} {f:Ro→Option D} {gl:Ro→Option (List D)} {pos pos':Pos} {st:Stmt} {sts:List Stmt} {fs gs:Ro→Option Out}
variable {tg:Expr}
theorem Yas{l:Expr}(hl:ZE X l f):ZI X tg l (b1 f Yn):=⟨y5q hl.un⟩
end
section
variable {K:W.Frag}
variable {X:Cx} {e:Expr} {f:Ro→Option D} {gl:Ro→Option (List D)} {pos pos':Pos} {st:Stmt} {sts:List Stmt} {fs gs:Ro→Option Out}
variable {tg:Expr}
theorem Yd2{a:Expr}{ga:Ro→Option (List D)}{p:Pos}(hg:Gl X "range")(hm:X.mg "range"=none)(ha:ZA X [a] ga)(hs:starEach [a] X.env=[(false,eval a X.env)]:=by rfl):ZI X tg (.Call (.Name "range" p) [a] [] pos) (cF ga rng1):=⟨Yvs hg hm ha.un hs⟩
end
section
variable {K:W.Frag}
variable {X:Cx} {e:Expr} {f:Ro→Option D} {gl:Ro→Option (List D)} {pos pos':Pos} {st:Stmt} {sts:List Stmt} {fs gs:Ro→Option Out}
variable {tg:Expr}
theorem Yt8{a b:Expr}{ga:Ro→Option (List D)}{p:Pos}(hg:Gl X "range")(hm:X.mg "range"=none)(ha:ZA X [a,b] ga)(hs:starEach [a,b] X.env=[(false,eval a X.env),(false,eval b X.env)]:=by rfl)(hs2:starEach [b] X.env=[(false,eval b X.env)]:=by rfl):ZI X tg (.Call (.Name "range" p) [a,b] [] pos) (cF ga rng2):=⟨Yvt hg hm ha.un hs hs2⟩
end
section
variable {K:W.Frag}
variable {X:Cx} {e:Expr} {f:Ro→Option D} {gl:Ro→Option (List D)} {pos pos':Pos} {st:Stmt} {sts:List Stmt} {fs gs:Ro→Option Out}
variable {tg:Expr}
theorem Yaa(i:Nat){x:Str}(hN:X.N.Nodup)(hi:X.N[i]?=some x:=by rfl)(hx:Loc X.env.scope x:=by first | exact Or.inl rfl | exact Or.inr rfl)(hf:X.fn x=true∨X.env.scope.names.lookup x=some .local:=by first | exact .inl rfl | exact .inr rfl):ZG X (.Name x pos) (gSet i):=⟨y1x i hN hi hx hf⟩
end
section
variable {K:W.Frag}
variable {X:Cx} {e:Expr} {f:Ro→Option D} {gl:Ro→Option (List D)} {pos pos':Pos} {st:Stmt} {sts:List Stmt} {fs gs:Ro→Option Out}
variable {tg:Expr}
theorem Yzc(i j:Nat){x y:Str}{px py:Pos}{k:Nat}(hc:X.calm=true)(hN:X.N.Nodup)(hi:X.N[i]?=some x:=by rfl)(hj:X.N[j]?=some y:=by rfl)(hx:Loc X.env.scope x:=by first | exact Or.inl rfl | exact Or.inr rfl)(hy:Loc X.env.scope y:=by first | exact Or.inl rfl | exact Or.inr rfl)(hf:X.fn x=true∨X.env.scope.names.lookup x=some .local:=by first | exact .inl rfl | exact .inr rfl)(hf2:X.fn y=true∨X.env.scope.names.lookup y=some .local:=by first | exact .inl rfl | exact .inr rfl):ZG X (.Tuple [.Name x px,.Name y py] k pos) (Yvu i j):=⟨y1y i j hc hN hi hj hx hy hf hf2⟩
end
section
variable {K:W.Frag}
variable {X:Cx} {e:Expr} {f:Ro→Option D} {gl:Ro→Option (List D)} {pos pos':Pos} {st:Stmt} {sts:List Stmt} {fs gs:Ro→Option Out}
variable {tg:Expr}
theorem Yhw{iter:Expr}{body:List Stmt}{gt:D→Ro→Option Ro}(hp:PassesOwn (model X.prog X.w) X.A X.env X.xe)(hc:X.calm=true)(hi:ZI X tg iter gl)(hg:ZG X tg gt)(hb:ZB X body fs)(hs:∀x,foldedSetIterable iter X.env x=pure x:=by intro _;rfl):ZS X (.For tg iter body [] pos) (sFor gl gt fs):=⟨y5r hp hc hi.un hg.un hb.un hs⟩
end
section
variable {K:W.Frag}
variable {X:Cx} {e:Expr} {f:Ro→Option D} {gl:Ro→Option (List D)} {pos pos':Pos} {st:Stmt} {sts:List Stmt} {fs gs:Ro→Option Out}
variable {tg:Expr}
theorem Ywn{c:Expr}{body:List Stmt}{fc:Ro→Option Bool}(n:Nat)(hp:PassesOwn (model X.prog X.w) X.A X.env X.xe)(hc:ZT X c fc)(hb:ZB X body fs):ZS X (.While c body [] pos) (Yf1 fc fs n):=⟨Yyn n hp hc.un hb.un⟩
end
section
variable {K:W.Frag}
variable {X:Cx} {e:Expr} {f:Ro→Option D} {gl:Ro→Option (List D)} {pos pos':Pos} {st:Stmt} {sts:List Stmt} {fs gs:Ro→Option Out}
variable {tg:Expr}
theorem Yaz :ZIfs X X.K [] tY:=⟨y5s ⟩
end
section
variable {K:W.Frag}
variable {X:Cx} {e:Expr} {f:Ro→Option D} {gl:Ro→Option (List D)} {pos pos':Pos} {st:Stmt} {sts:List Stmt} {fs gs:Ro→Option Out}
variable {tg:Expr}
variable {elt iter:Expr} {ifs:List Expr} {scope:Scope} {N:List Str} {src:List (Option Nat)} {gt:D→Ro→Option Ro} {fc:Ro→Option Bool} {fe:Ro→Option D}
theorem Yal(S:CompSc X.N X.env.scope N src scope)(hc:X.calm=true)(hit:ZI X tg iter gl)(hg:∀cl C fp s H,ZG (Yau X scope N cl C fp s H) tg gt)(hi:∀cl C fp s H,ZIfs (Yau X scope N cl C fp s H) X.K ifs fc)(he:∀cl C fp s H,ZE (Yau X scope N cl C fp s H) elt fe)(hle:∀ρ d ρ1,gt d (capR src ρ)=some ρ1→Le (capR src ρ) ρ1)(hs:∀x,foldedSetIterable iter X.env x=pure x:=by intro _;rfl):ZF X (.ListComp elt [⟨tg,iter,ifs,0⟩] scope pos) (Ybd gl src gt fc fe):=⟨y10 S hc hit.un (fun cl C fp s H=>(hg cl C fp s H).un) (fun cl C fp s H=>(hi cl C fp s H).un) (fun cl C fp s H=>(he cl C fp s H).un) hle hs⟩
end
section
variable {K:W.Frag}
variable {X:Cx} {e:Expr} {f:Ro→Option D} {gl:Ro→Option (List D)} {pos pos':Pos} {st:Stmt} {sts:List Stmt} {fs gs:Ro→Option Out}
variable {tg:Expr}
variable {elt iter:Expr} {ifs:List Expr} {scope:Scope} {N:List Str} {src:List (Option Nat)} {gt:D→Ro→Option Ro} {fc:Ro→Option Bool} {fe:Ro→Option D}
theorem Ymz(i:Nat){y:Str}{py spos:Pos}(hN:X.N.Nodup)(S:CompSc X.N X.env.scope N src scope)(hc:X.calm=true)(hit:ZI X tg iter gl)(hg:∀cl C fp s H,ZG (Yau X scope N cl C fp s H) tg gt)(hi:∀cl C fp s H,ZIfs (Yau X scope N cl C fp s H) X.K ifs fc)(he:∀cl C fp s H,ZE (Yau X scope N cl C fp s H) elt fe)(hle:∀ρ d ρ1,gt d (capR src ρ)=some ρ1→Le (capR src ρ) ρ1)(hsw:swapsWith (.ListComp elt [⟨tg,iter,ifs,0⟩] scope pos) (some (.Name y py)) spos.line X.env=pure true:=by rfl)(hy:X.N[i]?=some y:=by rfl)(hx:Loc X.env.scope y:=by first | exact Or.inl rfl | exact Or.inr rfl)(hf:X.fn y=true∨X.env.scope.names.lookup y=some .local:=by first | exact .inl rfl | exact .inr rfl)(hs:∀x,foldedSetIterable iter X.env x=pure x:=by intro _;rfl):ZS X (.Assign [.Name y py] (.ListComp elt [⟨tg,iter,ifs,0⟩] scope pos) spos) (sOwn i (Ybd gl src gt fc fe)):=⟨y11 i hN S hc hit.un (fun cl C fp s H=>(hg cl C fp s H).un) (fun cl C fp s H=>(hi cl C fp s H).un) (fun cl C fp s H=>(he cl C fp s H).un) hle hsw hy hx hf hs⟩
end
section
variable {K:W.Frag}
variable {X:Cx} {e:Expr} {f:Ro→Option D} {gl:Ro→Option (List D)} {pos pos':Pos} {st:Stmt} {sts:List Stmt} {fs gs:Ro→Option Out}
variable {tg:Expr}
variable {P:Program} {w:World} {mg:Str→Option Value} {base:Heap}
theorem Ys{x qual:Str}{st:Stmt}{f:Addr}{fd:FuncData}{N ps:List Str}{k n m:Nat}{fb:Ro→Option Out}(F:Fun K x qual st f fd)(S:FnScope N ps (defScope st))(hn:N.length=n)(hm:ps.length=m)(hb:∀(cdv:Value) (A:Around) (outer:List Env) (s:Shared) (H:Hp) (E:XK),Room k (A.deeper (envOfC qual (defScope st) s.heap.objs.size f cdv))→ZB (cxOf CX0 P w K mg base N qual (defScope st) f cdv A outer s H E).nox (defBody st) fb):FnOk P w K mg base CX0 (k+1) f fd ps (spOf K m (runB m n fb)):=Yvw F S hn hm (fun cdv A outer s H E hr=>(hb cdv A outer s H E hr).un)
end
section
variable {K:W.Frag}
variable {X:Cx} {a b e:Expr} {es:List Expr} {fa fb:Ro→Option D} {ga:Ro→Option (List D)} {pos:Pos}
theorem Yo{j k n:Nat}{x:Str}{p:Pos}{ps:List Str}{fn:List D→Option D}(c:Okf X.prog X.w X.K X.mg X.base j n x ps fn)(hr:Room k X.A)(hg:Gl X x)(ha:ZA X (e::es) ga)(hl:∀ρ l,ga ρ=some l→l.length=n)(hj:j≤k:=by first | exact qu _ | lia)(hdb:(x==("__debug__":Str))=false:=by decide)(he:starEach (e::es) X.env=(false,eval e X.env)::starEach es X.env:=by rfl)(hpl:(backTo pos (starEach es X.env)).any (·.1)=false:=by rfl):ZE X (.Call (.Name x p) (e::es) [] pos) (cC ga fn):=⟨Yyo c hr hg ha.un hl hj hdb he hpl⟩
end
section
variable {K:W.Frag}
variable {X:Cx} {a b e:Expr} {es:List Expr} {fa fb:Ro→Option D} {ga:Ro→Option (List D)} {pos:Pos}
theorem Yhx(ha:ZC X a fa)(hb:ZC X b fb):ZE X (.BinOp a .Add b pos) (b2 fa fb addI):=⟨y5t ha.un hb.un⟩
end
section
variable {K:W.Frag}
variable {X:Cx} {a b e:Expr} {es:List Expr} {fa fb:Ro→Option D} {ga:Ro→Option (List D)} {pos:Pos}
theorem Yhy(ha:ZC X a fa):ZE X (.UnaryOp .USub a pos) (b1 fa negI):=⟨y5u ha.un⟩
end
section
variable {K:W.Frag}
variable {X:Cx} {a b e:Expr} {es:List Expr} {fa fb:Ro→Option D} {ga:Ro→Option (List D)} {pos:Pos}
theorem Ywo(ha:ZC X a fa)(hb:ZC X b fb):ZF X (.BinOp a .Add b pos) (b2 fa fb catD):=⟨y5v ha.un hb.un⟩
end
section
variable {K:W.Frag}
variable {X:Cx} {a b e:Expr} {es:List Expr} {fa fb:Ro→Option D} {ga:Ro→Option (List D)} {pos:Pos}
theorem Ygj{T:String}{tn:Str}{p p2:Pos}(ha:ZC X a fa)(hg:Gl X "isinstance")(hg2:Gl X tn)(hm:X.mg "isinstance"=none)(hm2:X.mg tn=none)(hv2:bootBuiltins tn=some (.type T))(hk:Kit T)(hv:bootBuiltins "isinstance"=some (.builtin "isinstance"):=by decide +kernel)(hn2:tn≠"__name__":=by decide)(hd2:(tn==("__debug__":Str))=false:=by decide)(hs:starEach [a,.Name tn p2] X.env=(false,eval a X.env)::starEach [.Name tn p2] X.env:=by rfl)(hs2:starEach [.Name tn p2] X.env=(false,eval (.Name tn p2) X.env)::starEach [] X.env:=by rfl)(hpl:(backTo pos (starEach [.Name tn p2] X.env)).any (·.1)=false:=by rfl):ZE X (.Call (.Name "isinstance" p) [a,.Name tn p2] [] pos) (mB (b1 fa (isiD T))):=⟨y5w ha.un hg hg2 hm hm2 hv2 hk hv hn2 hd2 hs hs2 hpl⟩
end
section
variable {K:W.Frag}
variable {elts:List Expr} {x1:Nat} {pt:Pos}
variable {X:Cx} {pos:Pos}
theorem Ym0{l:Expr}{f:Ro→Option D}{p:Pos}(hg:Gl X "enumerate")(hm:X.mg "enumerate"=none)(hl:ZE X l f)(hs:starEach [l] X.env=[(false,eval l X.env)]:=by rfl):ZI X (.Tuple elts x1 pt) (.Call (.Name "enumerate" p) [l] [] pos) (b1 f Yv3):=⟨You hg hm hl.un hs⟩
end
section
theorem Yzd{X:Cx}{es:List Expr}{pos:Pos}(ns:List Int)(h:Yqt es=some ns:=by decide +kernel):ZF X (.List es pos) (Yjr ns):=⟨Yv7 ns h⟩
end
section
theorem Yze(X:Cx)(pos' pos p1 p2:Pos)(x:Str)(i:Nat)(es:List Expr)(b:Expr)(fb:Ro→Option D)(ns:List Int)(hN:X.N.Nodup)(h:Yqt es=some ns)(hi:X.N[i]?=some x)(hx:Loc X.env.scope x)(hf:X.fn x=true∨X.env.scope.names.lookup x=some .local)(hs:Yey b)(hb:ZC X b fb):ZS X (.Assign [.Name x pos'] (.Subscript (.List es p1) b p2) pos) (sSet i (b2 (lF (Yjr ns)) fb ixD)):=⟨y18 X pos' pos p1 p2 x i es b fb ns hN h hi hx hf hs hb.un⟩
end
section
variable {X:Cx} {a b c e:Expr} {fa fb fc:Ro→Option D} {pos:Pos} {st:Stmt}
theorem Ywp{op op':CmpOp}{r r':R2}{g g':D→D→Option Bool}(ho:OpR X (compareOp op) r)(hr:Yfy X.K r g)(ho':OpR X (compareOp op') r')(hr':Yfy X.K r' g')(ha:ZC X a fa)(hb:ZC X b fb)(hc:ZC X c fc)(hm:lastMarks [op,op'] [b,c]=false:=by with_unfolding_all rfl):ZE X (.Compare a [op,op'] [b,c] pos) (mB (ch3 fa fb fc g g')):=⟨Yys ho hr ho' hr' ha.un hb.un hc.un hm⟩
end
section
variable {X:Cx} {a b c e:Expr} {fa fb fc:Ro→Option D} {pos:Pos} {st:Stmt}
theorem Yc8 :ZS X st nS:=⟨Yyt ⟩
end
section
variable {X:Cx} {e:Expr} {f:Ro→Option D} {fc:Ro→Option Bool} {gl:Ro→Option (List D)} {K:W.Frag}
theorem Yo5(is:List Nat)(h:ZE X e f):ZE X e (Yk6 is f):=⟨Yyu is h.un⟩
end
section
variable {K:W.Frag}
variable {X:Cx}
variable {a b e f':Expr} {fa fb f fz:Ro→Option D} {pos:Pos}
theorem Ym1(hu:X.A.units+64 < cLine)(ha:ZC X a fa)(hb:ZC X b fb)(hs:Yey b:=by intro _ _;rfl):ZE X (.Subscript a b pos) (b2 fa fb getI):=⟨y2a hu ha.un hb.un hs⟩
end
section
variable {K:W.Frag}
variable {X:Cx}
variable {a b e f':Expr} {fa fb f fz:Ro→Option D} {pos:Pos}
theorem Ysx(i:Nat){x:Str}{pos' dpos:Pos}(hN:X.N.Nodup)(hi:X.N[i]?=some x:=by rfl)(hx:Loc X.env.scope x:=by first | exact Or.inl rfl | exact Or.inr rfl)(hs:swapsWith (.Dict [] [] dpos) (some (.Name x pos')) pos.line X.env=pure false:=by rfl)(hf:X.fn x=true∨X.env.scope.names.lookup x=some .local:=by first | exact .inl rfl | exact .inr rfl):ZS X (.Assign [.Name x pos'] (.Dict [] [] dpos) pos) (Yts i):=⟨y2b i hN hi hx hs hf⟩
end
section
variable {K:W.Frag}
variable {X:Cx}
variable {a b e f':Expr} {fa fb f fz:Ro→Option D} {pos:Pos}
theorem Ysy(hu:X.A.units+64 < cLine)(i:Nat){x:Str}{ie:Expr}{p2 p3:Pos}(hb:ZC X ie fb)(he:ZE X e f)(hN:X.N[i]?=some x:=by rfl)(hv:Vis X.env.scope x:=by first | exact Or.inl rfl | exact Or.inr (Or.inl rfl) | exact Or.inr (Or.inr rfl))(hd:(x==("__debug__":Str))=false:=by decide)(hcd:(x==("__classdict__":Str))=false:=by decide)(ha:∀v,assign (.Subscript (.Name x p2) ie p3) X.env v=(do
 let ov ←holding [v] (eval (.Name x p2) X.env)
 let iv ←holding [v,ov] (eval ie X.env)
 standAt p3
 holding [v,ov,iv] (setItem ov iv v)
 release [v,ov,iv] []):=by intro _;rfl) (hs:swapsWithSole [.Subscript (.Name x p2) ie p3] e pos.line X.env=pure false:=by rfl) (hw:swappedStores [.Subscript (.Name x p2) ie p3] e X.env=pure none:=by rfl) (h1:(assignEach [.Subscript (.Name x p2) ie p3] X.env).map (·.2)=[assign (.Subscript (.Name x p2) ie p3) X.env]:=by rfl):ZS X (.Assign [.Subscript (.Name x p2) ie p3] e pos) (Ytv i fb f):=⟨y2c hu i hb.un he.un hN hv hd hcd ha hs hw h1⟩
end
section
variable {K:W.Frag}
variable {X:Cx}
variable {a b e f':Expr} {fa fb f fz:Ro→Option D} {pos:Pos}
theorem Yo6(hu:X.A.units+64 < cLine){o e1 e2:Expr}{apos cpos:Pos}(ho:ZC X o fa)(he:ZC X e1 fb)(hf:ZE X e2 fz)(m:M2 X o "get" apos e1 e2 cpos):ZE X (.Call (.Attribute o "get" apos) [e1,e2] [] cpos) (b3 fa fb fz Ymq):=⟨Yyy hu ho.un he.un hf.un m⟩
end
section
variable {X:Cx} {a b e:Expr} {fa fb f:Ro→Option D} {pos:Pos} {K:W.Frag}
theorem Yq5(ha:ZC X a fa)(hb:ZC X b fb):ZE X (.BinOp a .RShift b pos) (b2 fa fb shrI):=⟨y53 ha.un hb.un⟩
end
section
variable {X:Cx} {a b e:Expr} {fa fb f:Ro→Option D} {pos:Pos} {K:W.Frag}
theorem y2v(ha:ZC X a fa)(hb:ZC X b fb):ZE X (.Compare a [.Is] [b] pos) (mB (b2 fa fb (isB false))):=⟨y55 ha.un hb.un⟩
end
section
variable {K:W.Frag}
variable {X:Cx} {e:Expr} {f:Ro→Option D} {pos:Pos}
theorem y2w(hc:X.calm=true)(i:Nat){x:Str}{pos' p2 cpos:Pos}(hN:X.N.Nodup)(hg:Gl X "dict")(hm:X.mg "dict"=none)(ha:ZC X e f)(hi:X.N[i]?=some x:=by rfl)(hx:Loc X.env.scope x:=by first | exact Or.inl rfl | exact Or.inr rfl)(hst:starEach [e] X.env=[(false,eval e X.env)]:=by rfl)(hpl:(backTo cpos (starEach [] X.env)).any (·.1)=false:=by rfl)(hs:swapsWith (.Call (.Name "dict" p2) [e] [] cpos) (some (.Name x pos')) pos.line X.env=pure false:=by rfl)(hf:X.fn x=true∨X.env.scope.names.lookup x=some .local:=by first | exact .inl rfl | exact .inr rfl):ZS X (.Assign [.Name x pos'] (.Call (.Name "dict" p2) [e] [] cpos) pos) (sDct i f):=⟨y57 hc i hN hg hm ha.un hi hx hst hpl hs hf⟩
end
section
variable {K:W.Frag}
variable {X:Cx}
variable {a b e f':Expr} {fa fb f fz:Ro→Option D} {pos:Pos}
theorem y2x(hu:X.A.units+64 < cLine)(ha:ZC X a fa)(hb:ZC X b fb)(hm:behindInMarks .In b=false:=by with_unfolding_all rfl):ZT X (.Compare a [.In] [b] pos) (b2 fa fb (hasN false)):=⟨y59 hu ha.un hb.un hm⟩
end
section
variable {X:Cx}
variable {a e:Expr} {fa f:Ro→Option D} {pos:Pos}
theorem Ywq{lo hi:Option Expr}{fl fh:Option (Ro→Option D)}{p2:Pos}(ha:ZC X a fa)(hl:ZO X lo fl)(hh:ZO X hi fh):ZE X (.Subscript a (.Slice lo hi none p2) pos) (slD fa fl fh):=⟨Yy5 ha.un hl.un hh.un⟩
end
theorem Yi7{X:Cx}{c:Expr}{f:Ro→Option Bool}(h:ZT X c f):ZIfs X X.K [c] f:=⟨y1h h.un⟩
theorem Ydj{X:Cx}{e:Expr}{f:Ro→Option Bool}(h:ZW X e f):ZT X e f:=⟨PW.pt h.un⟩
end
section
section
variable {X:Cx} {e:Expr} {f:Ro→Option D} {p p2 pos pos2:Pos}
theorem Yj1(hc:X.calm=true)(hg:Gl X "sorted")(hm:X.mg "sorted"=none)(hg2:Gl X "set")(hm2:X.mg "set"=none)(ha:ZC X e f)(hs:starEach [e] X.env=[(false,eval e X.env)]:=by rfl)(he:starEach [.Call (.Name "set" p2) [e] [] pos2] X.env=[(false,eval (.Call (.Name "set" p2) [e] [] pos2) X.env)]:=by rfl)(hpl:(backTo pos2 (starEach [] X.env)).any (·.1)=false:=by rfl)(hpl2:(backTo pos (starEach [] X.env)).any (·.1)=false:=by rfl):ZF X (.Call (.Name "sorted" p) [.Call (.Name "set" p2) [e] [] pos2] [] pos) (Yfr f):=⟨Yt2 hc hg hm hg2 hm2 ha.un hs he hpl hpl2⟩
end
section
variable {X:Cx} {e e2:Expr} {f f2:Ro→Option D} {p p2 p3 pos pos2 pos3 pos4:Pos}
theorem Ylw(hc:X.calm=true)(hg:Gl X "sorted")(hm:X.mg "sorted"=none)(hg2:Gl X "set")(hm2:X.mg "set"=none)(ha:ZC X e f)(ha2:ZC X e2 f2)(hs:starEach [e] X.env=[(false,eval e X.env)]:=by rfl)(hs2:starEach [e2] X.env=[(false,eval e2 X.env)]:=by rfl)(he:starEach [.BinOp (.Call (.Name "set" p2) [e] [] pos2) .BitXor (.Call (.Name "set" p3) [e2] [] pos3) pos4] X.env=[(false,eval (.BinOp (.Call (.Name "set" p2) [e] [] pos2) .BitXor (.Call (.Name "set" p3) [e2] [] pos3) pos4) X.env)]:=by rfl)(hpl:(backTo pos2 (starEach [] X.env)).any (·.1)=false:=by rfl)(hpl3:(backTo pos3 (starEach [] X.env)).any (·.1)=false:=by rfl)(hpl2:(backTo pos (starEach [] X.env)).any (·.1)=false:=by rfl):ZF X (.Call (.Name "sorted" p) [.BinOp (.Call (.Name "set" p2) [e] [] pos2) .BitXor (.Call (.Name "set" p3) [e2] [] pos3) pos4] [] pos) (Yht f f2):=⟨Ywh hc hg hm hg2 hm2 ha.un ha2.un hs hs2 he hpl hpl3 hpl2⟩
end
section
variable {X:Cx} {e:Expr} {f:Ro→Option D} {p p2 pos pos2:Pos}
theorem Yzf{a b:Expr}{fa fb:Ro→Option D}(ha:ZC X a fa)(hb:ZC X b fb):ZE X (.BinOp a .Add b pos) (b2 fa fb Ywi):=⟨y2q ha.un hb.un⟩
end
end
section
variable {K:W.Frag}
noncomputable def y8i(K:W.Frag)(j:Nat)(x:Option (Option V))(H0 G0:Hp)(F:Ends):Out→Prop
 | .nx ρ'=>∀σ' H' G',SR K H0 G0 σ' H' G' ρ'→σ'[j]?=x→F.nx σ' H'
 | .rt _=>False
 | .bk ρ'=>∀σ' H' G',SR K H0 G0 σ' H' G' ρ'→σ'[j]?=x→F.bk σ' H'
 | .ct ρ'=>∀σ' H' G',SR K H0 G0 σ' H' G' ρ'→σ'[j]?=x→F.ct σ' H'
noncomputable def sOfK(K:W.Frag)(j:Nat)(f:Ro→Option Out):TS:=fun F σ H=>∃ρ out H0 G0 G,f ρ=some out∧SR K H0 G0 σ H G ρ∧y8i K j σ[j]? H0 G0 F out
structure KS(j:Nat)(X:Cx)(st:Stmt)(f:Ro→Option Out):Prop where
 un:PS X st (sOfK X.K j f)
structure KB(j:Nat)(X:Cx)(sts:List Stmt)(f:Ro→Option Out):Prop where
 un:PSs X sts (sOfK X.K j f)
noncomputable def sOfR(K:W.Frag)(j r:Nat)(fb:Ro→Option Out):TS:=fun F σ H=>∃ρ ρ' l d H0 G0 G,fb ρ=some (.nx ρ')∧getO j ρ'=some l∧getV r (frz [r] ρ')=some d∧SR K H0 G0 σ H G ρ∧
 ∀v σ' H' G',SR K H0 G0 σ' H' G' (frz [r] ρ')→σ'[j]?=σ[j]?→Rp K G' d v→F.rt v H'
structure KR(j r:Nat)(X:Cx)(sts:List Stmt)(f:Ro→Option Out):Prop where
 un:PSs X sts (sOfR X.K j r f)
noncomputable def sOfL(K:W.Frag)(gl:Ro→Option (List D))(fb:Ro→Option Out):TS:=fun F σ H=>∃ρ ρ' l H0 G0 G,fb ρ=some (.nx ρ')∧gl ρ'=some l∧SR K H0 G0 σ H G ρ∧
 ∀p xs H' G',Gr H0 G0 H' G'→H0 p=none→G' p=none→H' p=some (.lst xs)→RpL K G' l xs→F.rt (.ref p) H'
structure KL(gl:Ro→Option (List D))(X:Cx)(sts:List Stmt)(f:Ro→Option Out):Prop where
 un:PSs X sts (sOfL X.K gl f)
theorem len1{us:List Value}(h:us.length=1):∃a0,us=[a0]:=List.length_eq_one_iff.mp h
theorem len2{us:List Value}(h:us.length=2):∃a0 a1,us=[a0,a1]:=by
 cases us with
 | nil=>cases h
 | cons a us=>
   obtain⟨b0,rfl⟩:=len1 (Nat.succ.inj h)
   exact⟨a,b0,rfl⟩
theorem len3{us:List Value}(h:us.length=3):∃a0 a1 a2,us=[a0,a1,a2]:=by
 cases us with
 | nil=>cases h
 | cons a us=>
   obtain⟨b0,b1,rfl⟩:=len2 (Nat.succ.inj h)
   exact⟨a,b0,b1,rfl⟩
theorem len4{us:List Value}(h:us.length=4):∃a0 a1 a2 a3,us=[a0,a1,a2,a3]:=by
 cases us with
 | nil=>cases h
 | cons a us=>
   obtain⟨b0,b1,b2,rfl⟩:=len3 (Nat.succ.inj h)
   exact⟨a,b0,b1,b2,rfl⟩
theorem len5{us:List Value}(h:us.length=5):∃a0 a1 a2 a3 a4,us=[a0,a1,a2,a3,a4]:=by
 cases us with
 | nil=>cases h
 | cons a us=>
   obtain⟨b0,b1,b2,b3,rfl⟩:=len4 (Nat.succ.inj h)
   exact⟨a,b0,b1,b2,b3,rfl⟩
end
end M
namespace M
open PySem L2
theorem nr{α:Sort _}{a b:α}(h:a=b):a=b:=h
section
variable {ρ:Ro}
@[simp] theorem y8j{α:Type}(fa fb:Ro→Option D)(g:D→D→Option α):b2 fa fb g ρ=(fa ρ).bind fun x=>(fb ρ).bind fun y=>g x y:=nr rfl
@[simp] theorem ap_b1{α:Type}(fa:Ro→Option D)(g:D→Option α):b1 fa g ρ=(fa ρ).bind g:=nr rfl
@[simp] theorem ap_kD(d:D):kD d ρ=some d:=nr rfl
@[simp] theorem ap_mB(f:Ro→Option Bool):mB f ρ=(f ρ).map D.bl:=nr rfl
@[simp] theorem ap_andT(f g:Ro→Option Bool):andT f g ρ=(f ρ).bind fun k=>if k=true then g ρ else some false:=nr rfl
@[simp] theorem ap_orT(f g:Ro→Option Bool):orT f g ρ=(f ρ).bind fun k=>if k=true then some true else g ρ:=nr rfl
@[simp] theorem ap_notT(f:Ro→Option Bool):notT f ρ=(f ρ).map (!·):=nr rfl
@[simp] theorem ap_andV(f g:Ro→Option D):andV f g ρ=((f ρ).bind blD).bind fun k=>if k=true then g ρ else some (.bl false):=nr rfl
@[simp] theorem ap_orV(f g:Ro→Option D):orV f g ρ=((f ρ).bind blD).bind fun k=>if k=true then some (.bl true)else g ρ:=nr rfl
@[simp] theorem ap_notV(f:Ro→Option D):notV f ρ=((f ρ).bind blD).map fun k=>.bl (!k):=nr rfl
@[simp] theorem ap_ifV(c:Ro→Option Bool)(f g:Ro→Option D):ifV c f g ρ=(c ρ).bind fun k=>if k=true then f ρ else g ρ:=nr rfl
@[simp] theorem ap_lF(f:Ro→Option (List D)):lF f ρ=(f ρ).map D.lst:=nr rfl
@[simp] theorem ap_aNil:aNil ρ=some []:=nr rfl
@[simp] theorem ap_aCons(f:Ro→Option D)(g:Ro→Option (List D)):Yh f g ρ=(f ρ).bind fun d=>(g ρ).map (d::·):=nr rfl
@[simp] theorem ap_dTup(f:Ro→Option (List D)):dTup f ρ=(f ρ).bind fun l=>if l.length≤cap6 then some (.tup l)else none:=nr rfl
@[simp] theorem ap_dLst(f:Ro→Option (List D)):dLst f ρ=(f ρ).bind fun l=>if l.length≤cap6 then some l else none:=nr rfl
@[simp] theorem ap_cC(f:Ro→Option (List D))(g:List D→Option D):cC f g ρ=(f ρ).bind g:=nr rfl
@[simp] theorem ap_cF(f:Ro→Option (List D))(g:List D→Option (List D)):cF f g ρ=(f ρ).bind g:=nr rfl
@[simp] theorem ap_slF(f:Ro→Option D)(lo hi:Option (Ro→Option D)):slF f lo hi ρ=((f ρ).bind lstD).bind fun l=>(optI lo ρ).bind fun i=>(optI hi ρ).bind fun j=>some (cutD l i j):=nr rfl
@[simp] theorem ap_optN:optI none ρ=some none:=nr rfl
@[simp] theorem ap_optS(f:Ro→Option D):optI (some f) ρ=((f ρ).bind intD).map some:=nr rfl
@[simp] theorem ap_sNil:sNil ρ=some (.nx ρ):=nr rfl
@[simp] theorem y2y(i:Nat)(f:Ro→Option D):sSet i f ρ=(f ρ).map fun d=>.nx (ρ.set i (some (.sh d))):=nr rfl
@[simp] theorem ap_sOwn(i:Nat)(f:Ro→Option (List D)):sOwn i f ρ=(f ρ).map fun l=>.nx (ρ.set i (some (.ow l))):=nr rfl
@[simp] theorem y2z(f:Ro→Option D):sRet f ρ=(f ρ).map .rt:=nr rfl
@[simp] theorem ap_sIf(c:Ro→Option Bool)(f g:Ro→Option Out):sIf c f g ρ=(c ρ).bind fun k=>if k=true then f ρ else g ρ:=nr rfl
@[simp] theorem ap_sMut(i:Nat)(f:Ro→Option D)(g:List D→D→Option (List D)):sMut i f g ρ=(getO i ρ).bind fun l=>(f ρ).bind fun d=>(g l d).map fun l'=>.nx (ρ.set i (some (.ow l'))):=nr rfl
@[simp] theorem ap_sFor(gl:Ro→Option (List D))(gt:D→Ro→Option Ro)(fb:Ro→Option Out):sFor gl gt fb ρ=(gl ρ).bind fun ds=>forM gt fb ds ρ:=nr rfl
@[simp] theorem ap_fComp(gl:Ro→Option (List D))(src:List (Option Nat))(gt:D→Ro→Option Ro)(fc:Ro→Option Bool)(fe:Ro→Option D):Ybd gl src gt fc fe ρ=(gl ρ).bind fun ds=>Yg0 gt fc fe (capR src ρ) ds:=nr rfl
@[simp] theorem y6g(is:List Nat)(f:Ro→Option Out):wF is f ρ=f (frz is ρ):=nr rfl
@[simp] theorem ap_tY:tY ρ=some true:=nr rfl
@[simp] theorem ap_gSet(i:Nat)(d:D):gSet i d ρ=some (ρ.set i (some (.sh d))):=nr rfl
noncomputable def y20(g:Ro→Option Out):Out→Option Out
 | .nx ρ'=>g ρ'
 | o=>some o
@[simp] theorem Yef(g:Ro→Option Out)(ρ':Ro):y20 g (.nx ρ')=g ρ':=nr rfl
@[simp] theorem thenS_rt(g:Ro→Option Out)(d:D):y20 g (.rt d)=some (.rt d):=nr rfl
@[simp] theorem Ygk(f g:Ro→Option Out):sSeq f g ρ=(f ρ).bind (y20 g):=nr rfl
noncomputable def endB:Out→Option D
 | .rt d=>some d
 | .nx _=>some .non
 | _=>none
@[simp] theorem endB_rt(d:D):endB (.rt d)=some d:=nr rfl
theorem Yac{k n:Nat}{fb:Ro→Option Out}{ds:List D}(h:ds.length=k):runB k n fb ds=(fb (Yw n ds)).bind endB:=by
 unfold runB
 rw[if_pos h]
 rfl
@[simp] theorem ap_ch3(fa fb fc:Ro→Option D)(g g':D→D→Option Bool):ch3 fa fb fc g g' ρ=(fa ρ).bind fun x=>(fb ρ).bind fun y=>(g x y).bind fun k=>if k=true then (fc ρ).bind fun z=>g' y z else some false:=nr rfl
@[simp] theorem frz_nil:frz [] ρ=ρ:=nr rfl
@[simp] theorem frz_cons(i:Nat)(is:List Nat):frz (i::is) ρ=frz is (frz1 i ρ):=nr rfl
end
@[simp] theorem add_int'(i j:Int):addI (.int i) (.int j)=some (.int (i+j)):=nr rfl
@[simp] theorem sub_int'(i j:Int):subI (.int i) (.int j)=some (.int (i - j)):=nr rfl
theorem Yzg{i j:Int}(h:-(2 ^ 64) < i∧i < 2 ^ 64):mulI (.int i) (.int j)=some (.int (i * j)):=by
 simp only[mulI,i2]
 rw[if_pos]
 simp only[Bool.or_eq_true,Qe,decide_eq_true_eq]
 exact .inl h
@[simp] theorem Yzh{i j:Int}(h:0 < j)(h':j < 1073741824):divI (.int i) (.int j)=some (.int (i / j)):=by
 simp only[divI,i2]
 rw[if_pos]
 simp only[Qe,decide_eq_true_eq]
 exact⟨h,h'⟩
@[simp] theorem Yo7{i j:Int}(h:0 < j):modI (.int i) (.int j)=some (.int (i % j)):=by
 simp only[modI,i2]
 rw[if_pos]
 simp only[decide_eq_true_eq]
 exact h
@[simp] theorem lt_int'(i j:Int):ltI (.int i) (.int j)=some (decide (i < j)):=nr rfl
@[simp] theorem le_int'(i j:Int):leI (.int i) (.int j)=some (decide (i≤j)):=nr rfl
@[simp] theorem blD_bl(b:Bool):blD (.bl b)=some b:=nr rfl
@[simp] theorem truD_bl(b:Bool):truD (.bl b)=some b:=nr rfl
@[simp] theorem truD_lst(l:List D):truD (.lst l)=some (!l.isEmpty):=nr rfl
@[simp] theorem truD_tup(l:List D):truD (.tup l)=some (!l.isEmpty):=nr rfl
@[simp] theorem itemsOf_tup(l:List D):Yn (.tup l)=some l:=nr rfl
@[simp] theorem itemsOf_lst(l:List D):Yn (.lst l)=some l:=nr rfl
@[simp] theorem itemsOf_scr(ns:List Int):Yn (.scr ns)=some (ns.map D.int):=nr rfl
@[simp] theorem lenC_one(c:D):lenC [c]=(Yn c).map fun l=>.int l.length:=nr rfl
@[simp] theorem tupC_one(c:D):tupC [c]=(Yn c).map D.tup:=nr rfl
@[simp] theorem listF_one(c:D):Ymk [c]=Yn c:=nr rfl
@[simp] theorem intC_bl(b:Bool):intC [.bl b]=some (.int (if b then 1 else 0)):=nr rfl
@[simp] theorem y21(c:D)(i:Int):ixD c (.int i)=(Yn c).bind fun l=>atI l i:=nr rfl
@[simp] theorem lstD_lst(l:List D):lstD (.lst l)=some l:=nr rfl
@[simp] theorem lstD_scr(ns:List Int):lstD (.scr ns)=some (ns.map D.int):=nr rfl
@[simp] theorem intD_int(i:Int):intD (.int i)=some i:=nr rfl
@[simp] theorem negI_int(i:Int):negI (.int i)=some (.int (-i)):=nr rfl
@[simp] theorem Ywr(i j:Int):eqD (.int i) (.int j)=(i==j):=by simp[eqD,toPy,PyData.eqv]
@[simp] theorem y0l(i j:Bool):eqD (.bl i) (.bl j)=(i==j):=by simp[eqD,toPy,PyData.eqv]
@[simp] theorem Yq6(i j:Str):eqD (.str i) (.str j)=(i==j):=by simp[eqD,toPy,PyData.eqv]
@[simp] theorem y22(l m:List D):eqD (.tup l) (.tup m)=eqL l m:=by simp[eqD,eqL,toPy,PyData.eqv]
@[simp] theorem eqD_lst(l m:List D):eqD (.lst l) (.lst m)=eqL l m:=by simp[eqD,eqL,toPy,PyData.eqv]
@[simp] theorem y23:eqL [] []=true:=by simp[eqL,Ycs,PyData.eqvAll]
@[simp] theorem Ysz(a b:D)(l m:List D):eqL (a::l) (b::m)=(eqD a b&&eqL l m):=by simp[eqL,eqD,Ycs,PyData.eqvAll]
@[simp] theorem eqL_nc(b:D)(m:List D):eqL [] (b::m)=false:=by simp[eqL,Ycs,PyData.eqvAll]
@[simp] theorem eqL_cn(b:D)(m:List D):eqL (b::m) []=false:=by simp[eqL,Ycs,PyData.eqvAll]
@[simp] theorem dep_int(i:Int):dep (.int i)=0:=by simp[dep]
@[simp] theorem dep_bl(i:Bool):dep (.bl i)=0:=by simp[dep]
@[simp] theorem dep_str(i:Str):dep (.str i)=0:=by simp[dep]
@[simp] theorem dep_tup(l:List D):dep (.tup l)=depL l+1:=by simp[dep]
@[simp] theorem dep_lst(l:List D):dep (.lst l)=depL l+1:=by simp[dep]
@[simp] theorem depL_nil:depL []=0:=by simp[depL]
@[simp] theorem Yws(d:D)(l:List D):depL (d::l)=max (dep d) (depL l):=by simp[depL]
theorem Yip{neg:Bool}{d e:D}(h:dep d≤60)(h':dep e≤60):eqM neg d e=some (if neg then !eqD d e else eqD d e):=by
 unfold eqM
 rw[if_pos ⟨h,h'⟩]
theorem y6h{neg:Bool}{d c:D}{l:List D}(hc:Yn c=some l)(h:dep d≤60)(h':depL l≤60):inM neg d c=some (if neg then !inD d l else inD d l):=by
 unfold inM
 rw[hc,qd,if_pos ⟨h',h⟩]
theorem Yj2{gt:D→Ro→Option Ro}{fc:Ro→Option Bool}{fe:Ro→Option D}{ρ:Ro}{α:Type}(enc:α→D)(p:α→Bool)(f:α→D):∀(l:List α),(∀a∈l,∃ρ1,gt (enc a) ρ=some ρ1∧fc ρ1=some (p a)∧(p a=true→fe ρ1=some (f a)))→
 Yg0 gt fc fe ρ (l.map enc)=some ((l.filter p).map f)
 | [],_=>rfl
 | a::l,h=>by
   obtain⟨ρ1,h1,h2,h3⟩:=h a qh
   have ih:=Yj2 enc p f l fun b hb=>h b (qg _ hb)
   rw[Qd,Yg0,h1,qd,h2,qd]
   cases hp:p a with
   | true=>
     rw[if_pos rfl,h3 hp,qd,ih,List.filter_cons_of_pos hp]
     rfl
   | false=>rw[if_neg qi,ih,List.filter_cons_of_neg (by rw[hp];exact qi)]
@[simp] theorem atI_zero{α:Type}(a:α)(l:List α):atI (a::l) 0=some a:=by
 have:=Yl8 (xs:=a::l) (j:=0) (v:=a) rfl
 simpa using this
@[simp] theorem atI_one{α:Type}(a b:α)(l:List α):atI (a::b::l) 1=some b:=by
 have:=Yl8 (xs:=a::b::l) (j:=1) (v:=b) rfl
 simpa using this
theorem y6i{α:Type}{l:List α}{i:Int}{j:Nat}{v:α}(hi:i=(j:Int))(h:l[j]?=some v):atI l i=some v:=by
 subst hi
 exact Yl8 h
theorem Yeg{gt:D→Ro→Option Ro}{fb:Ro→Option Out}{α:Type}(enc:α→D)(I:List α→Ro→Prop):∀(l pre:List α) (ρ:Ro),I pre ρ→
 (∀q a r ρ,pre++l=q++a::r→I q ρ→∃ρ1 ρ2,gt (enc a) ρ=some ρ1∧fb ρ1=some (.nx ρ2)∧I (q++[a]) ρ2)→∃ρ',M.forM gt fb (l.map enc) ρ=some (.nx ρ')∧I (pre++l) ρ'
 | [],pre,ρ,h0,_=>⟨ρ,rfl,by rw[List.append_nil];exact h0⟩
 | a::l,pre,ρ,h0,hs=>by
   obtain⟨ρ1,ρ2,e1,e2,h2⟩:=hs pre a l ρ rfl h0
   obtain⟨ρ',e3,h3⟩:=Yeg enc I l (pre++[a]) ρ2 h2 fun q b r ρ e hI=>hs q b r ρ (by rw[←e,List.append_assoc];rfl) hI
   refine⟨ρ',?_,by rw[List.append_assoc]at h3;exact h3⟩
   rw[Qd,M.forM,e1,qd,e2,qd]
   exact e3
theorem Ygl(a n:Int):rngD a n=(List.range (n - a).toNat).map fun i=>D.int (a+(i:Nat)):=rfl
theorem Yhz{n:Int}(h:-1000000≤n)(h':n≤1000000):rng1 [.int n]=some (rngD 0 n):=by
 have hcap:(cap6:Int)=1000000:=by decide
 simp only[rng1]
 rw[if_pos]
 simp only[Qe,decide_eq_true_eq]
 lia
theorem y24{a n:Int}(h:-1000000≤n)(h':n≤1000000)(h2:-1000000≤a)(h3:a≤1000000):rng2 [.int a,.int n]=some (rngD a n):=by
 have hcap:(cap6:Int)=1000000:=by decide
 simp only[rng2]
 rw[if_pos]
 simp only[Qe,decide_eq_true_eq]
 lia
theorem Ywt{α:Type}{l:List α}{i:Int}(h0:0≤i)(h:i < (l.length:Int)):∃v,v∈l∧atI l i=some v:=by
 have hk:i.toNat < l.length:=by lia
 exact⟨l[i.toNat],qy hk,y6i (j:=i.toNat) (by lia) (qq hk)⟩
theorem Yfs{α:Type}{l:List α}{i:Nat}(h:i < l.length):atI l (i:Int)=some l[i]:=Yl8 (qq h)
theorem Ye9{α β:Type}(f:α→β)(l:List α)(i:Int):atI (l.map f) i=(atI l i).map f:=by
 unfold atI
 rw[qf]
 cases ixN l.length i with
 | none=>rfl
 | some j=>
   show(l.map f)[j]?=(l[j]?).map f
   rw[Qk]
end M
namespace M
open PySem L2
@[simp] theorem nat_eq_iff(x b:Nat):((x:Int)=(b:Int))↔x=b:=by lia
@[simp] theorem eqM_int(neg:Bool)(i j:Int):eqM neg (.int i) (.int j)=some (if neg then !decide (i=j)else decide (i=j)):=by
 rw[Yip (by simp) (by simp),Ywr];rfl
@[simp] theorem eqM_bl(neg:Bool)(i j:Bool):eqM neg (.bl i) (.bl j)=some (if neg then !(i==j)else i==j):=by
 rw[Yip (by simp) (by simp),y0l]
@[simp] theorem isN_non(neg:Bool):isN neg .non .non=some (if neg then false else true):=by cases neg<;>rfl
@[simp] theorem isN_int(neg:Bool)(i:Int):isN neg (.int i) .non=some (if neg then true else false):=by cases neg<;>rfl
@[simp] theorem isN_tup(neg:Bool)(l:List D):isN neg (.tup l) .non=some (if neg then true else false):=by cases neg<;>rfl
@[simp] theorem isN_bl(neg:Bool)(l:Bool):isN neg (.bl l) .non=some (if neg then true else false):=by cases neg<;>rfl
@[simp] theorem Yeh{α:Type}(f:α→Bool):∀l:List α,blsD (l.map fun a=>.bl (f a))=some (l.map f)
 | []=>rfl
 | a::l=>by rw[Qd,blsD,Yeh f l];rfl
@[simp] theorem Yfa{α:Type}(f:α→Int):∀l:List α,intsD (l.map fun a=>.int (f a))=some (l.map f)
 | []=>rfl
 | a::l=>by rw[Qd,intsD,Yfa f l];rfl
@[simp] theorem Yj3(l:List Int):intsD (l.map D.int)=some l:=by simpa using Yfa id l
@[simp] theorem anyC_lst(l:List D):anyC [.lst l]=(blsD l).map fun bs=>.bl (bs.any id):=nr rfl
@[simp] theorem allC_lst(l:List D):allC [.lst l]=(blsD l).map fun bs=>.bl (bs.all id):=nr rfl
@[simp] theorem enumD_of(c:D):Yv3 c=(Yn c).map Ymo:=nr rfl
@[simp] theorem Ywu:cap6=1000000:=nr rfl
@[simp] theorem gV0(d:D)(r:Ro):getV 0 (some (.sh d)::r)=some d:=nr rfl
@[simp] theorem gC0(d:D)(r:Ro):getC 0 (some (.sh d)::r)=some d:=nr rfl
@[simp] theorem gC0o(l:List D)(r:Ro):getC 0 (some (.ow l)::r)=some (.lst l):=nr rfl
@[simp] theorem gO0(l:List D)(r:Ro):getO 0 (some (.ow l)::r)=some l:=nr rfl
@[simp] theorem gVs(n:Nat)(b:Option B)(r:Ro):getV (n+1) (b::r)=getV n r:=by simp[getV]
@[simp] theorem gCs(n:Nat)(b:Option B)(r:Ro):getC (n+1) (b::r)=getC n r:=by simp[getC]
@[simp] theorem gOs(n:Nat)(b:Option B)(r:Ro):getO (n+1) (b::r)=getO n r:=by simp[getO]
@[simp] theorem frz0o(l:List D)(r:Ro):frz1 0 (some (.ow l)::r)=some (.sh (.lst l))::r:=nr rfl
@[simp] theorem frz_s(n:Nat)(b:Option B)(r:Ro):frz1 (n+1) (b::r)=b::frz1 n r:=by
 unfold frz1
 rw[List.getElem?_cons_succ]
 cases h:r[n]? with
 | none=>rfl
 | some o=>
   cases o with
   | none=>rfl
   | some b=>cases b<;>rfl
theorem y25{a b:List D}(h:a.length+b.length≤1000000):catD (.lst a) (.lst b)=some (a++b):=if_pos h
theorem Yfb{fe:Ro→Option D}{r:Ro}{α:Type}{enc:α→D}(f:α→D){l:List α}(h:∀a∈l,fe (some (.sh (enc a))::r)=some (f a)):Yg0 (gSet 0) tY fe (none::r) (l.map enc)=some (l.map f):=by
 have:=Yj2 (gt:=gSet 0) (fc:=tY) (fe:=fe) (ρ:=none::r) enc (fun _=>true) f l fun a ha=>⟨_,rfl,rfl,fun _=>h a ha⟩
 rw[List.filter_eq_self.mpr (fun _ _=>rfl)]at this
 exact this
theorem Ys0{fc:Ro→Option Bool}{fe:Ro→Option D}{r:Ro}{α:Type}{enc:α→D}(p:α→Bool)(f:α→D){l:List α}(h1:∀a∈l,fc (some (.sh (enc a))::r)=some (p a))(h2:∀a∈l,p a=true→fe (some (.sh (enc a))::r)=some (f a)) :
 Yg0 (gSet 0) fc fe (none::r) (l.map enc)=some ((l.filter p).map f):=
 Yj2 (gt:=gSet 0) enc p f l fun a ha=>⟨_,rfl,h1 a ha,h2 a ha⟩
theorem Ywv{α:Type}(enc:α→D)(d:α)(l:List α):Ymo (l.map enc)=(List.range l.length).map fun i=>.tup [.int i,enc (l.getD i d)]:=by
 unfold Ymo
 rw[qf]
 refine List.map_congr_left fun i hi=>?_
 have h:=Qb hi
 simp[h]
end M
namespace Bk
open PySem L2 M
noncomputable abbrev Say:=Nat × Bool
inductive Kd where
 | e | s | i | n
 deriving DecidableEq
inductive Rl where
 | ei (l:List Say)
 | su (b:List Nat) (o:Bool)
 | im (b:List Nat) (h:Option Nat)
 deriving DecidableEq
noncomputable def kS:Kd→Str
 | .e=>Str.ofString "eithers"
 | .s=>Str.ofString "sums"
 | .i=>Str.ofString "ifs"
 | .n=>Str.ofString "nots"
noncomputable def kdD(k:Kd):D:=.str (kS k)
noncomputable abbrev nD(n:Nat):D:=.int n
noncomputable def sayD(s:Say):D:=.tup [.int s.1,.bl s.2]
noncomputable def optD:Option Nat→D
 | none=>.non
 | some n=>.int n
noncomputable def rlD:Rl→D
 | .ei l=>.tup (l.map sayD)
 | .su b o=>.tup [.tup (b.map nD),.bl o]
 | .im b h=>.tup [.tup (b.map nD),optD h]
@[simp] theorem dep_kd(k:Kd):dep (kdD k)=0:=by simp[kdD]
theorem y6j:∀{k j:Kd},kS k=kS j→k=j:=by
 intro k j
 cases k<;>cases j<;>first | (intro _;rfl) | (intro h;exact absurd h (by decide +kernel))
@[simp] theorem y6k(k j:Kd):eqD (kdD k) (kdD j)=decide (k=j):=by
 rw[kdD,kdD,Yq6]
 by_cases h:k=j
 ·simp[h]
 ·have h':¬kS k=kS j:=fun e=>h (y6j e)
  simp[h,h']
theorem Yww(neg:Bool)(k j:Kd):eqM neg (kdD k) (kdD j)=some (if neg then !decide (k=j)else decide (k=j)):=by
 rw[Yip (by simp) (by simp),y6k]
@[simp] theorem eqM_e(neg:Bool)(k:Kd):eqM neg (kdD k) (.str (Str.ofString "eithers"))=some (if neg then !decide (k=.e)else decide (k=.e)):=Yww neg k .e
@[simp] theorem eqM_s(neg:Bool)(k:Kd):eqM neg (kdD k) (.str (Str.ofString "sums"))=some (if neg then !decide (k=.s)else decide (k=.s)):=Yww neg k .s
@[simp] theorem eqM_i(neg:Bool)(k:Kd):eqM neg (kdD k) (.str (Str.ofString "ifs"))=some (if neg then !decide (k=.i)else decide (k=.i)):=Yww neg k .i
@[simp] theorem y26(a b:Nat):eqD (nD a) (nD b)=decide (a=b):=by
 rw[nD,nD,Ywr]
 by_cases h:a=b
 ·simp[h]
 ·have:¬(a:Int)=b:=by lia
  simp[h,this]
theorem Ywx{α:Type} [DecidableEq α] {enc:α→D} (he:∀a b,eqD (enc a) (enc b)=decide (a=b)) (s:α):∀l:List α,inD (enc s) (l.map enc)=decide (s∈l)
 | []=>by simp[inD]
 | t::l=>by
   have ih:=Ywx he s l
   unfold inD at ih ⊢
   rw[Qd,List.any_cons,ih,he]
   by_cases h1:t=s
   ·simp[h1]
   ·have h1':¬s=t:=fun e=>h1 e.symm
    simp[h1,h1']
theorem Yq7{n:Nat}:∀{l:List D},(∀d∈l,dep d≤n)→depL l≤n
 | [],_=>by simp
 | d::l,h=>by
   rw[Yws]
   exact Nat.max_le.mpr ⟨h d qh,Yq7 fun e he=>h e (qg _ he)⟩
theorem Yq8{α:Type} [DecidableEq α] {enc:α→D} (he:∀a b,eqD (enc a) (enc b)=decide (a=b)):∀l m:List α,eqL (l.map enc) (m.map enc)=decide (l=m)
 | [],[]=>by simp
 | [],b::m=>by simp
 | a::l,[]=>by simp
 | a::l,b::m=>by
   rw[Qd,Qd,Ysz,he,Yq8 he l m]
   by_cases h1:a=b<;>by_cases h2:l=m<;>simp[h1,h2]
theorem Ywy{α:Type}{enc:α→D}{n:Nat}(h:∀a,dep (enc a)≤n)(l:List α):depL (l.map enc)≤n:=Yq7 fun d hd=>by
 obtain⟨x,_,rfl⟩:=qx hd
 exact h x
theorem in_n{c:D}(s:Nat)(l:List Nat)(neg:Bool)(hc:Yn c=some (l.map nD)):inM neg (nD s) c=some (if neg then !decide (s∈l)else decide (s∈l)):=by
 rw[y6h hc (by simp) (Yq7 fun d hd=>by obtain⟨x,_,rfl⟩:=qx hd;simp),Ywx y26]
@[simp] theorem ix_say0(s:Say):(Yn (sayD s)).bind (fun l=>atI l 0)=some (.int s.1):=by simp[sayD]
@[simp] theorem ix_say1(s:Say):(Yn (sayD s)).bind (fun l=>atI l 1)=some (.bl s.2):=by simp[sayD]
@[simp] theorem items_ei(l:List Say):Yn (rlD (.ei l))=some (l.map sayD):=nr rfl
@[simp] theorem items_su(b:List Nat)(o:Bool):Yn (rlD (.su b o))=some [.tup (b.map nD),.bl o]:=nr rfl
@[simp] theorem items_im(b:List Nat)(h:Option Nat):Yn (rlD (.im b h))=some [.tup (b.map nD),optD h]:=nr rfl
noncomputable def at'(ev:List Bool)(n:Nat):Bool:=ev.getD n false
theorem Yzi{ev:List Bool}{n:Nat}(h:n < ev.length):atI (ev.map D.bl) (n:Int)=some (.bl (at' ev n)):=by
 rw[Ye9,Yfs h]
 simp[at',h]
noncomputable def In(k:Kd)(n:Nat):Rl→Prop
 | .ei l=>k=.e∧∀s∈l,s.1 < n
 | .su b _=>k=.s∧∀x∈b,x < n
 | .im b h=>(k=.i∨k=.n)∧(∀x∈b,x < n)∧∀x,h=some x→x < n
def slt(s t:Say):Prop:=s.1 < t.1∨(s.1=t.1∧s.2=false∧t.2=true)
noncomputable def Srt:Rl→Prop
 | .ei l=>l.length≤2∧l.Pairwise slt
 | .su b _=>b.Pairwise (· < ·)
 | .im b _=>b.Pairwise (· < ·)
noncomputable def hd(ev:List Bool)(w:Bool):Option Nat→Bool
 | none=>false
 | some x=>at' ev x==w
noncomputable def nth(R:List Rl)(i:Nat):Rl:=R.getD i (.ei [])
noncomputable def so(k:Kd)(ev:List Bool):Rl→Bool
 | .ei l=>l.any fun s=>at' ev s.1==s.2
 | .su b o=>decide ((b.filter (at' ev)).length % 2=1)==o
 | .im b h=>(b.any fun x=>at' ev x != decide (k=.i))||hd ev (decide (k=.i)) h
end Bk
namespace Bk
noncomputable def brk(k:Kd)(ev:List Bool)(R:List Rl):List Nat:=(List.range R.length).filter fun i=>!so k ev (nth R i)
end Bk
namespace Bk
open PySem L2 M
noncomputable def sz:Rl→Nat
 | .ei l=>l.length
 | .su b _=>b.length
 | .im b _=>b.length
theorem Ywz{n:Nat}:∀{l:List Nat} {a:Nat},l.Pairwise (· < ·)→(∀x∈l,a≤x∧x < n)→l.length≤n - a
 | [],_,_,_=>Nat.zero_le _
 | x::l,a,h,hl=>by
   have hx:=hl x qh
   have hp:=List.pairwise_cons.mp h
   have ih:=Ywz (n:=n) (l:=l) (a:=x+1) hp.2 fun y hy=>⟨hp.1 y hy,(hl y (qg _ hy)).2⟩
   rw[qr]
   lia
theorem y6l{n:Nat}{l:List Nat}(h:l.Pairwise (· < ·))(hl:∀x∈l,x < n):l.length≤n:=Ywz (a:=0) h fun x hx=>⟨Nat.zero_le _,hl x hx⟩
end Bk
namespace Bk
noncomputable def bcs:Rl→List Nat
 | .ei l=>l.map (·.1)
 | .su b _=>b
 | .im b none=>b
 | .im b (some x)=>b++[x]
end Bk
namespace Bk
open PySem L2 M
noncomputable def vd:Kd→Rl
 | .e=>.ei []
 | .s=>.su [] true
 | _=>.im [] none
end Bk
namespace M
open PySem PySem.Spec PyProof.Rows L2
section
variable {K:W.Frag}
section
variable {X:Cx} {pos:Pos}
noncomputable def sAsg(f:Ro→Option D)(gt:D→Ro→Option Ro):Ro→Option Out:=fun ρ=>(f ρ).bind fun d=>(gt d ρ).map Out.nx
theorem y6m{tg e:Expr}{f:Ro→Option D}{gt:D→Ro→Option Ro}(hg:MG X tg gt)(he:ME X e f)(hs:swapsWithSole [tg] e pos.line X.env=pure false:=by rfl)(hw:swappedStores [tg] e X.env=pure none:=by rfl)
 (h1:(assignEach [tg] X.env).map (·.2)=[assign tg X.env]:=by rfl):MS X (.Assign [tg] e pos) (sAsg f gt):=PS.imp (Yz0 he hg hs hw h1) fun F σ H hx_=>by
 obtain⟨ρ,out,H0,G0,G,e,s,h⟩:=hx_
 obtain⟨d,h1,e⟩:=qa e
 obtain⟨ρ',h2,rfl⟩:=qc e
 exact tOf.at h1 s fun v H1 G1 g1 r1 s1=>⟨d,ρ,ρ',_,_,G1,h2,s1,r1,fun σ' s'=>h _ H1 G1 s'⟩
@[simp] theorem ap_sAsg{ρ:Ro}(f:Ro→Option D)(gt:D→Ro→Option Ro):sAsg f gt ρ=(f ρ).bind fun d=>(gt d ρ).map Out.nx:=nr1 rfl
theorem y27{tg e:Expr}{f:Ro→Option D}{gt:D→Ro→Option Ro}(hg:ZG X tg gt)(he:ZE X e f)(hs:swapsWithSole [tg] e pos.line X.env=pure false:=by rfl)(hw:swappedStores [tg] e X.env=pure none:=by rfl)
 (h1:(assignEach [tg] X.env).map (·.2)=[assign tg X.env]:=by rfl):ZS X (.Assign [tg] e pos) (sAsg f gt):=⟨y6m hg.un he.un hs hw h1⟩
end
end
section
section
variable {prog:Program} {w:World} {A:Around} {E:Value→Shared→Prop}
theorem Ylx{it t:Addr}{items:Array Value}(hne:t≠it):∀(n i:Nat) (s:Shared) (Q:List Value→Shared→Prop),s.heap.IsListIter it t i→s.heap.IsList t items→i+n≤items.size→
 (∀h':Heap,h'.IsListIter it t (i+n)→Heap.SameBut it s.heap h'→Q ((items.toList.drop i).take n) { s with heap:=h' })→wpAny (model prog w) A (draw (.ref it) n) Q E s
 | 0,i,s,Q,hit,_,_,hQ=>by
   show wpAny _ _ (pure []) Q E s
   exact wpAny_pure (by simpa using hQ s.heap hit (Heap.SameBut.refl ..))
 | n+1,i,s,Q,hit,ht,hle,hQ=>by
   have hlt:i < items.size:=by omega
   show wpAny _ _ (pyNext (.ref it) >>= _) Q E s
   refine wpAny_bind (wpAny_pyNext_list_item hit ht (x:=items[i]) (by simp[hlt]) fun h₁ hit₁ hs₁=>?_)
   refine wpAny_bind (wpAny_holding (Ylx hne n (i+1) _ _ hit₁ (ht.extBut hs₁.extBut hne) (by omega) fun h₂ hit₂ hs₂=>wpAny_pure ?_))
   have hd:items.toList.drop i=items[i]::items.toList.drop (i+1):=by simp[List.drop_eq_getElem_cons,hlt]
   have:=hQ h₂ (by rw[show i+(n+1)=i+1+n by omega];exact hit₂) (hs₁.trans hs₂)
   rw[hd,List.take_succ_cons]at this
   exact this
theorem Yh0{s:Shared}{t:Addr}{items:Array Value}{Q:List Value→Shared→Prop}(hh:A.handled=none)(ht:s.heap.IsList t items)
 (hQ:∀h',Heap.ExtBut s.heap.objs.size s.heap h'→Q items.toList { s with heap:=h' }):wpAny (model prog w) A (unpackItems (.ref t) items.size none) Q E s:=by
 have hlt:t≠s.heap.objs.size:=by obtain⟨o,ho,_⟩:=ht;exact qm (ql ho)
 unfold unpackItems
 refine wpAny_bind ?_
 ·unfold notIterableAtAll
  refine wpAny_bind (wpAny_specialOf ht.typeIs slot_list_iter.lookup ?_)
  refine wpAny_pure ?_
  simp only[Qo,if_false]
  refine wpAny_bind (wpAny_holding (wpAny_pyIter_list ht ?_))
  refine wpAny_bind (wpAny_holding (Ylx hlt items.size 0 _ _ ⟨_,qp _ rfl,rfl,rfl⟩ (ht.push _) (by omega) fun h₁ hit₁ hs₁=>?_))
  have hall:List.take items.size (List.drop 0 items.toList)=items.toList:=by
   rw[List.drop_zero];exact List.take_of_length_le (by simp)
  rw[hall]
  rw[if_neg (by simp)]
  have ht₁:h₁.IsList t items:=(ht.push _).extBut hs₁.extBut hlt
  refine wpAny_bind (wpAny_holding (wpAny_pyNext_list_end hh hit₁ ht₁ (by simp) fun h₂ he₂=>?_))
  simp only[Option.isSome_none,Qo,if_false]
  refine wpAny_pure (hQ h₂ fun b o hb e=>he₂ b o hb (hs₁.extBut b o hb (qe _ e)))
theorem Yg8{s:Shared}{env:Env}{elts:List Expr}{x1}{pos:Pos}{t:Addr}{items:Array Value}{Q:Unit→Shared→Prop}(hh:A.handled=none)(ht:s.heap.IsList t items)
 (hn:(assignEach elts env).length=items.size) (hstar:(assignEach elts env).findIdx? (·.1)=none)
 (h:∀h',Heap.ExtBut s.heap.objs.size s.heap h'→wpAny (model prog w) A (assignInOrder ((assignEach elts env).map (·.2)) items.toList) Q E { s with heap:=h' }) :
 wpAny (model prog w) A (assign (.Tuple elts x1 pos) env (.ref t)) Q E s:=by
 rw[assign_Tuple]
 refine wpAny_bind (wpAny_standAt ?_)
 unfold unpack
 rw[hn,hstar]
 exact wpAny_bind (wpAny_holding (Yh0 hh ht h))
end
section
variable {X:Cx} {pos:Pos}
noncomputable def y8k(K:W.Frag)(n:Nat)(t:TGs):TG:=fun v σ H Q=>∃a xs,v=.ref a∧SqL K H a xs∧xs.length=n∧t xs σ H Q
theorem y28{es:List Expr}{k:Nat}{t:TGs}{n:Nat}(hc:X.calm=true)(h:PGs X es t)
 (hn:(assignEach es X.env).length=n:=by rfl) (hst:(assignEach es X.env).findIdx? (·.1)=none:=by rfl):PG X (.Tuple es k pos) (y8k X.K n t):=by
 intro pins s σ H v u Q I r hw
 obtain⟨a,xs,e1,hq,hl,hw⟩:=hw
 subst e1
 cases r
 obtain⟨its,rv,⟨o,nn,ho,hcl,_,hd⟩,hz⟩:=I.list hq
 refine Yg8 (I.ok.hd hc) ⟨o,ho,hcl,nn,hd⟩ (by simp[hn,←hl,rv.length]) hst fun h' hx=>?_
 have I1:Inv X pins σ H { s with heap:=h' }:=I.kept (t':=s.toks) fun b o e=>hx b o (qm (ql e)) e
 exact h pins _ σ H xs _ Q I1 (by simpa using rv) hw
noncomputable def Ys1(i j k:Nat):D→Ro→Option Ro:=fun d ρ=>match d with
 | .lst [a,b,c]=>some (((ρ.set i (some (.sh a))).set j (some (.sh b))).set k (some (.sh c)))
 | _=>none
theorem Yzj(i j k:Nat){x y z:Str}{px py pz:Pos}{n:Nat}(hc:X.calm=true)(hN:X.N.Nodup)(hi:X.N[i]?=some x:=by rfl)(hj:X.N[j]?=some y:=by rfl)(hk:X.N[k]?=some z:=by rfl)(hx:Loc X.env.scope x:=by first | exact Or.inl rfl | exact Or.inr rfl)(hy:Loc X.env.scope y:=by first | exact Or.inl rfl | exact Or.inr rfl)(hz:Loc X.env.scope z:=by first | exact Or.inl rfl | exact Or.inr rfl)
 (hf:X.fn x=true∨X.env.scope.names.lookup x=some .local:=by first | exact .inl rfl | exact .inr rfl) (hf2:X.fn y=true∨X.env.scope.names.lookup y=some .local:=by first | exact .inl rfl | exact .inr rfl) (hf3:X.fn z=true∨X.env.scope.names.lookup z=some .local:=by first | exact .inl rfl | exact .inr rfl):MG X (.Tuple [.Name x px,.Name y py,.Name z pz] n pos) (Ys1 i j k):=
 PG.imp (y28 (n:=3) hc (Ygu (Yhi hN hi hx hf) (Ygu (Yhi hN hj hy hf2) (Ygu (Yhi hN hk hz hf3) Yup)))) fun v σ H Q hx_=>by
  obtain⟨d,ρ,ρ',H0,G0,G,e,s,r,h⟩:=hx_
  match d,e,r with
  | .lst [a,b,c],e,r=>
    cases e
    rw[Rp]at r
    obtain⟨p,xs,rfl,g,rl⟩:=r
    rw[RpL]at rl
    obtain⟨u,us,rfl,ru,rl⟩:=rl
    rw[RpL]at rl
    obtain⟨w,ws,rfl,rw',rl⟩:=rl
    obtain⟨t,rfl,rt⟩:=Ygd rl
    exact⟨p,[u,w,t],rfl,.inl (Ybc s.seen g),rfl,u,[w,t],rfl,w,[t],rfl,t,[],rfl,rfl,h _ (((s.set_sh i ru).set_sh j rw').set_sh k rt)⟩
@[simp] theorem ap_gTripL{ρ:Ro}(i j k:Nat)(a b c:D):Ys1 i j k (.lst [a,b,c]) ρ=some (((ρ.set i (some (.sh a))).set j (some (.sh b))).set k (some (.sh c))):=nr1 rfl
theorem Yw0(i j k:Nat){x y z:Str}{px py pz:Pos}{n:Nat}(hc:X.calm=true)(hN:X.N.Nodup)(hi:X.N[i]?=some x:=by rfl)(hj:X.N[j]?=some y:=by rfl)(hk:X.N[k]?=some z:=by rfl)(hx:Loc X.env.scope x:=by first | exact Or.inl rfl | exact Or.inr rfl)(hy:Loc X.env.scope y:=by first | exact Or.inl rfl | exact Or.inr rfl)(hz:Loc X.env.scope z:=by first | exact Or.inl rfl | exact Or.inr rfl)
 (hf:X.fn x=true∨X.env.scope.names.lookup x=some .local:=by first | exact .inl rfl | exact .inr rfl) (hf2:X.fn y=true∨X.env.scope.names.lookup y=some .local:=by first | exact .inl rfl | exact .inr rfl) (hf3:X.fn z=true∨X.env.scope.names.lookup z=some .local:=by first | exact .inl rfl | exact .inr rfl):ZG X (.Tuple [.Name x px,.Name y py,.Name z pz] n pos) (Ys1 i j k):=
 ⟨Yzj i j k hc hN hi hj hk hx hy hz hf hf2 hf3⟩
end
end
section
open Sem (wp)
variable {K:W.Frag}
section
set_option maxRecDepth 100000
theorem Yj4:Manifest.owners.lookup (String.ofList ['d','e','s','r','e','v','e','r'].reverse)=some Manifest.sig_reversed:=by kernel_rfl
theorem slot_rvd_next:Slot "reversed" "__next__" "reversed.__next__":=
 .of (owner:="reversed") (n:="__next__") (by rw[typeLookup_type,builtinLookup_eq_fast];kernel_rfl) (by decide +kernel) (by decide +kernel) (by decide +kernel)
  (by first | exact .inl (by decide +kernel) | exact .inr (by decide +kernel)) (by rw[isSubtype_type];kernel_rfl)
theorem Yf3:entryFor table "reversed.__next__"=some Builtin.«reversed.__next__»:=entryFor_of_tree (by kernel_rfl)
theorem Yg9(a:Value):argsOk "reversed.__next__" ⟨[a],[]⟩:=by
 unfold argsOk;rw[signature?_of (id:="reversed.__next__") (n:=['_','_','t','x','e','n','_','_']) (o:=['d','e','s','r','e','v','e','r']) (by kernel_rfl) Yj4];kernel_rfl
theorem Yha:Slot "reversed" "__iter__" "reversed.__iter__":=
 .of (owner:="reversed") (n:="__iter__") (by rw[typeLookup_type,builtinLookup_eq_fast];kernel_rfl) (by decide +kernel) (by decide +kernel) (by decide +kernel)
  (by first | exact .inl (by decide +kernel) | exact .inr (by decide +kernel)) (by rw[isSubtype_type];kernel_rfl)
theorem Ym2(a:Value):argsOk "reversed.__iter__" ⟨[a],[]⟩:=by
 unfold argsOk;rw[signature?_of (id:="reversed.__iter__") (n:=['_','_','r','e','t','i','_','_']) (o:=['d','e','s','r','e','v','e','r']) (by kernel_rfl) Yj4];kernel_rfl
theorem Yk7:entryFor table "reversed.__iter__"=some Builtin.«dict_keyiterator.__iter__»:=
 entryFor_alias (id':="dict_keyiterator.__iter__") (by kernel_rfl) (by first | rfl | decide +kernel | (unfold String.splitOn;simp +decide [String.splitOnAux])) (by decide +kernel) (by kernel_rfl)
theorem slot_rvd_hint:Slot "reversed" "__length_hint__" "reversed.__length_hint__":=
 .of (owner:="reversed") (n:="__length_hint__") (by rw[typeLookup_type,builtinLookup_eq_fast];kernel_rfl) (by decide +kernel) (by decide +kernel) (by decide +kernel)
  (by first | exact .inl (by decide +kernel) | exact .inr (by decide +kernel)) (by rw[isSubtype_type];kernel_rfl)
theorem Yk8:entryFor table "reversed.__length_hint__"=some Builtin.«reversed.__length_hint__»:=entryFor_of_tree (by kernel_rfl)
theorem Ym3(a:Value):argsOk "reversed.__length_hint__" ⟨[a],[]⟩:=by
 unfold argsOk;rw[signature?_of (id:="reversed.__length_hint__") (n:="__length_hint__".toList.reverse) (o:=['d','e','s','r','e','v','e','r']) (by kernel_rfl) Yj4];kernel_rfl
theorem Yw1:typeLookup (.type "reversed") "__len__"=pure none:=by rw[typeLookup_type,builtinLookup_eq_fast];kernel_rfl
theorem Yw2:typeLookup (.type "tuple") "__reversed__"=pure none:=by rw[typeLookup_type,builtinLookup_eq_fast];kernel_rfl
theorem Yo8:isSubtype (.type "tuple") (.type "dict")=pure false:=by rw[isSubtype_type];kernel_rfl
end
section
variable {prog:Program} {w:World} {A:Around} {E:Value→Shared→Prop} {s:Shared}
noncomputable def Yh1(l:Addr)(i:Int):Obj:={ cls:=.type "reversed",data:=.fields #[.ref l,rawInt i] }
def IsTRev(h:Heap)(a l:Addr)(i:Int):Prop:=∃o,h.get? a=some o∧o.cls=.type "reversed"∧o.data=.fields #[.ref l,rawInt i]
theorem IsTRev.typeIs{a l:Addr}{i:Int}(x:IsTRev s.heap a l i):s.TypeIs (.ref a) "reversed":=let ⟨o,ho,hc,_⟩:=x;⟨o,ho,hc⟩
theorem IsTRev.at{h h':Heap}{a l:Addr}{i:Int}(x:IsTRev h a l i)(e:∀o,h.get? a=some o→h'.get? a=some o):IsTRev h' a l i:=let ⟨o,ho,r⟩:=x;⟨o,e _ ho,r⟩
theorem Yh2{l:Addr}{items:Array Value}{Q₁:Value→Shared→Prop}(hl:IsTup s.heap l items)(hfit:(items.size:Int) < 2 ^ 63)
 (h:Q₁ (.ref s.heap.objs.size) { s with heap:=s.heap.push (Yh1 l ((items.size:Int) - 1)),toks:=s.toks+1+1 }) :
 codeAny (model prog w) A (.call (.builtin "reversed.__new__") ⟨[.type "reversed",.ref l],[]⟩) (wants Q₁ E) s:=by
 refine codeAny_of_tree ?_
 show wpAny _ A.in1 (do checkBuiltinCall "reversed.__new__" ⟨[.type "reversed",.ref l],[]⟩;again (.builtin "reversed.__new__" ⟨[.type "reversed",.ref l],[]⟩)) _ _ s
 refine wpAny_bind (wpAny_of_eq (F.newCall_reversed_1 _) (wpAny_pure ⟨plainId_quiet F.plain_reversed_new _,codeAny_builtin F.entry_reversed_new ?_⟩))
 rw[Around.under_plainId F.plain_reversed_new _]
 unfold Builtin.«reversed.__new__»
 refine wpAny_bind (wpAny_of_eq (newClass_reversed _) ?_)
 try dsimp only
 refine wpAny_bind (wpAny_of_eq (a:=()) (by first | rfl | kernel_rfl) ?_)
 refine wpAny_bind (wpAny_of_eq (a:=()) (by first | rfl | kernel_rfl) ?_)
 try dsimp only
 refine wpAny_bind (wpAny_specialOf hl.typeIs Yw2 ?_)
 try dsimp only
 refine wpAny_bind (wpAny_bind (wpAny_isInstance hl.typeIs Yo8 ?_))
 rw[if_neg (by decide)]
 refine wpAny_bind (wpAny_specialOf hl.typeIs slot_tuple_getitem.lookup ?_)
 show wpAny _ A.in1 (if (["tuple.__getitem__","str.__getitem__","bytes.__getitem__","bytearray.__getitem__","memoryview.__getitem__","numpy.ndarray.__getitem__","sqlite3.Row.__getitem__"].contains "tuple.__getitem__")=true then _ else _) _ _ s
 rw[if_pos (by decide +kernel)]
 refine wpAny_pure ?_
 rw[if_neg (by decide)]
 refine wpAny_bind (PyProof.Rows.len_tuple hl hfit ?_)
 refine wpAny_bind (wpAny_of_eq (a:=some (items.size:Int)) rfl ?_)
 refine wpAny_bind (m:=newObj (.type "reversed") (.fields [Value.ref l,rawInt ((items.size:Int) - 1)].toArray)) (wpAny_newObj_type ?_)
 exact wpAny_pure h
theorem Ym4:Slot "reversed" "__init__" "object.__init__":=
 .of (owner:="object") (n:="__init__") (by rw[typeLookup_type,builtinLookup_eq_fast];kernel_rfl) (by decide +kernel) (by decide +kernel) (by decide +kernel)
  (by first | exact .inl (by decide +kernel) | exact .inr (by decide +kernel)) (by rw[isSubtype_type];kernel_rfl)
theorem called_rvd:TypeCalled "reversed" "reversed.__new__" "object.__init__":=
 ⟨by decide +kernel,by decide +kernel,⟨_,_,F.mro_reversed⟩,F.made_reversed,by decide +kernel,by rw[isSubtype_type];kernel_rfl,Ym4⟩
theorem Yh3{l:Addr}{items:Array Value}{Q:Value→Shared→Prop}(hl:IsTup s.heap l items)(hfit:(items.size:Int) < 2 ^ 63)
 (h:Q (.ref s.heap.objs.size) { s with heap:=s.heap.push (Yh1 l ((items.size:Int) - 1)),toks:=s.toks+1+1 }):wpAny (model prog w) A (call (.type "reversed") [.ref l]) Q E s:=by
 refine callType_codes (Q₁:=fun obj s₁=>obj=.ref s.heap.objs.size∧s₁={ s with heap:=s.heap.push (Yh1 l ((items.size:Int) - 1)),toks:=s.toks+1+1 }) called_rvd (F.typeCall_reversed_1 _) F.entry_object_init (Yh2 hl hfit ⟨rfl,rfl⟩) fun obj s₁ h₁=>?_
 obtain⟨rfl,rfl⟩:=h₁
 have hT:Shared.TypeIs { s with heap:=s.heap.push (Yh1 l ((items.size:Int) - 1)),toks:=s.toks+1+1 } (.ref s.heap.objs.size) "reversed":=⟨_,qp _ rfl,rfl⟩
 exact⟨hT,F.args_object_init_2 _ _,object_init_meets called_rvd.init.lookup called_rvd.made (by decide) prog w A.in1 _ _ ⟨hT,rfl,h⟩⟩
theorem Yiz{it l:Addr}{i:Nat}{items:Array Value}{x:Value}{Q:Option Value→Shared→Prop}(hit:IsTRev s.heap it l (i:Int))(hl:IsTup s.heap l items)(hx:items[i]?=some x)(hb:(i:Int) < 2 ^ 63)
 (hQ:∀h',IsTRev h' it l ((i:Int) - 1)→Heap.SameBut it s.heap h'→Q (some x) { s with heap:=h',toks:=s.toks+1 }):wpAny (model prog w) A (pyNext (.ref it)) Q E s:=by
 obtain⟨o,ho,hc,hd⟩:=id hit
 unfold pyNext
 refine wpAny_bind (wpAny_attempt (wpAny_callSpecial?_slot (name:=Str.ofString "__next__") hit.typeIs slot_rvd_next
  (wpAny_call_entry slot_rvd_next hit.typeIs Yf3 ?_ (Yg9 _))))
 unfold Builtin.«reversed.__next__»
 refine wpAny_bind (wpAny_of_eq (a:=(Value.ref it,[])) rfl ?_)
 try dsimp only
 refine wpAny_bind (wpAny_field ho hd (x:=.ref l) rfl ?_)
 refine wpAny_bind (wpAny_field ho hd (x:=rawInt (i:Int)) rfl ?_)
 show wpAny _ _ (if (i:Int) < 0 then _ else _) _ _ s
 rw[if_neg (by omega)]
 refine wpAny_bind (wpAny_specialOf hl.typeIs slot_tuple_getitem.lookup ?_)
 rw[if_neg (by decide)]
 refine wpAny_bind (wpAny_mkInt ?_)
 refine wpAny_bind (wpAny_attempt (getItem_tuple (j:=i) hl (by omega) hb (by have:=Array.getElem?_eq_some_iff.mp hx;obtain⟨hlt,_⟩:=this;unfold seqIndex?;simp;omega) hx ?_))
 show wpAny _ _ (field (.ref it) 1 >>= _) _ _ _
 refine wpAny_bind (wpAny_field ho hd (x:=rawInt (i:Int)) rfl ?_)
 show wpAny _ _ (setField (.ref it) 1 (rawInt ((i:Int) - 1)) >>= _) _ _ _
 refine wpAny_bind (wpAny_setField ho hd (by simp) ?_)
 refine wpAny_pure ⟨x,rfl,wpAny_pure (hQ _ ?_ (Heap.SameBut.update ..))⟩
 exact⟨_,Heap.get?_update_self _ ho (Obj.isFreed_of_fields (Obj.data_mapFields hd _)),(Obj.cls_mapFields ..).trans hc,by
  rw[Obj.data_mapFields hd];simp⟩
theorem Yj5{it l:Addr}{Q:Option Value→Shared→Prop}(hh:A.handled=none)(hit:IsTRev s.heap it l (-1))
 (hQ:∀h',Heap.ExtBut it s.heap h'→Q none { s with heap:=h' }):wpAny (model prog w) A (pyNext (.ref it)) Q E s:=by
 obtain⟨o,ho,hc,hd⟩:=id hit
 unfold pyNext
 refine wpAny_bind (wpAny_attempt (wpAny_callSpecial?_slot (name:=Str.ofString "__next__") hit.typeIs slot_rvd_next
  (wpAny_call_entry slot_rvd_next hit.typeIs Yf3 ?_ (Yg9 _))))
 unfold Builtin.«reversed.__next__»
 refine wpAny_bind (wpAny_of_eq (a:=(Value.ref it,[])) rfl ?_)
 try dsimp only
 refine wpAny_bind (wpAny_field ho hd (x:=.ref l) rfl ?_)
 refine wpAny_bind (wpAny_field ho hd (x:=rawInt (-1)) rfl ?_)
 show wpAny _ _ (if (-1:Int) < 0 then _ else _) _ _ s
 rw[if_pos (by decide)]
 refine wpAny_bind (wpAny_rule ?_)
 refine wpAny_bind (wpAny_bind (wpAny_setField ho hd (by simp) ?_))
 have ho2:=Heap.get?_update_self (Obj.mapFields (·.setIfInBounds 1 (rawInt (-1)))) ho (Obj.isFreed_of_fields (Obj.data_mapFields hd _))
 refine wpAny_setField ho2 (Obj.data_mapFields hd _) (by simp) ?_
 first
 | show wpAny _ _ (newExc (.type "StopIteration") [] >>= _) _ _ _
 | (refine wpAny_bind ?_;show wpAny _ _ (newExc (.type "StopIteration") [] >>= _) _ _ _)
 refine wpAny_bind ?_
 simp only[newExc,newTuple]
 refine wpAny_bind (wpAny_newObj_type ?_ (by size_fits))
 refine wpAny_bind (m:=firstArgMember _ _) (wpAny_of_eq (a:=Value.none) (by first | rfl | (simp only[firstArgMember];rfl)) ?_)
 refine wpAny_newObj_type ?_ (by size_fits)
 simp only[raiseNew]
 refine wpAny_bind (wpAny_handled ?_)
 first | rw[show A.in1.handled=none from hh] | rw[hh]
 refine wpAny_bind (wpAny_pure (wpAny_throw ?_))
 refine wpAny_bind (wpAny_isInstance (T:="StopIteration") (b:=true) ⟨_,qp _ rfl,rfl⟩ isSubtype_stop ?_)
 exact wpAny_pure (hQ _ fun b o' hb eo=>qe _ (qe _ ((Heap.get?_update_other _ _ (Ne.symm hb)).trans ((Heap.get?_update_other _ _ (Ne.symm hb)).trans eo))))
theorem Yq9{it l:Addr}{i:Int}{Q:Value→Shared→Prop}(hit:IsTRev s.heap it l i)(h:Q (.ref it) s):wpAny (model prog w) A (pyIter (.ref it)) Q E s:=by
 refine wpAny_pyIter_slot hit.typeIs Yha (wpAny_call_entry Yha hit.typeIs Yk7 ?_ (Ym2 _))
 show wpAny _ _ (ret (.ref it)) _ _ s
 exact wpAny_pure ⟨_,rfl,"reversed",_,hit.typeIs,slot_rvd_next.lookup,h⟩
end
theorem Yt9{prog:Program}{w:World}{A:Around}(hh:A.handled=none)(I l:Addr)(hne:l≠I)(items:Array Value)(hz:items.size≤sizeLine) :
 Walks prog w A I [I,l] [I] items.size (fun i v=>items[items.size - 1 - i]?=some v) (fun i h=>i≤items.size∧IsTRev h I l ((items.size:Int) - 1 - (i:Int))∧IsTup h l items) where
 sub:=fun b hb=>by simp at hb;simp[hb]
 frame:=fun _ _ _ x hk=>⟨x.1,x.2.1.at fun o e=>hk I (by simp) o e,let ⟨o,ho,r⟩:=x.2.2;⟨o,hk l (by simp) o ho,r⟩⟩
 item:=fun i s Q E hi x hQ=>by
  have e:(items.size:Int) - 1 - (i:Int)=((items.size - 1 - i:Nat):Int):=by omega
  have hit:=x.2.1
  rw[e]at hit
  have hx:items[items.size - 1 - i]?=some (items[items.size - 1 - i]'(by omega)):=Qr (by omega)
  have hzz:sizeLine < 2 ^ 62:=by decide +kernel
  refine Yiz hit x.2.2 hx (by omega) fun h' hit' hs'=>?_
  have e2:((items.size - 1 - i:Nat):Int) - 1=(items.size:Int) - 1 - ((i+1:Nat):Int):=by omega
  rw[e2]at hit'
  exact hQ _ h' _ hx ⟨hi,hit',let ⟨o,ho,r⟩:=x.2.2;⟨o,(hs'.2 l hne).trans ho,r⟩⟩ fun b o hb eo=>hs'.extBut b o (fun h=>hb (by simp[h])) eo
 done:=fun s Q E x hQ=>by
  have e:(items.size:Int) - 1 - (items.size:Int)=-1:=by omega
  have hit:=x.2.1
  rw[e]at hit
  exact Yj5 hh hit fun h' he'=>hQ h' s.toks fun b o hb eo=>he' b o (fun h=>hb (by simp[h])) eo
 self:=fun _ _ _ _ x hQ=>Yq9 x.2.1 hQ
section
variable {prog:Program} {w:World} {A:Around} {s:Shared}
set_option maxRecDepth 100000 in
theorem Yw3{I l:Addr}{items:Array Value}{E:Value→Shared→Prop}{Q:Value→Shared→Prop}(hit:IsTRev s.heap I l ((items.size:Int) - 1))(hl:IsTup s.heap l items)(hfit:(items.size:Int) < 2 ^ 63)
 (h:Q (.int (items.size:Int) (s.toks+1+1)) { s with toks:=s.toks+1+1+1 }):wpAny (model prog w) A (call (.builtin "reversed.__length_hint__") [.ref I]) Q E s:=by
 obtain⟨o,ho,hc,hd⟩:=id hit
 refine wpAny_call_entry slot_rvd_hint hit.typeIs Yk8 ?_ (Ym3 _)
 unfold Builtin.«reversed.__length_hint__»
 refine wpAny_bind (wpAny_of_eq (a:=Value.ref I) rfl ?_)
 refine wpAny_bind (wpAny_field ho hd (x:=.ref l) rfl ?_)
 rw[if_neg (show ¬((Value.ref l==Value.none)=true) from qi)]
 refine wpAny_bind (PyProof.Rows.len_tuple hl hfit ?_)
 refine wpAny_bind (wpAny_of_eq (a:=some (items.size:Int)) rfl ?_)
 refine wpAny_bind (wpAny_field ho hd (x:=rawInt ((items.size:Int) - 1)) rfl ?_)
 show wpAny _ _ (if (items.size:Int) < (items.size:Int) - 1+1 then _ else _) _ _ _
 rw[if_neg (by omega)]
 refine wpAny_bind (wpAny_mkInt (wpAny_pure ⟨_,rfl,?_⟩))
 rw[show(items.size:Int) - 1+1=items.size by omega]
 exact h
set_option maxRecDepth 100000 in
theorem Yra{R:Result→Shared→Prop}{I l:Addr}{fp wr:List Addr}{G:Array GenState→Array GenState→Prop}{items:Array Value}{P:Nat→Value→Prop}{St:Nat→Shared→Prop}
 (W:WalksS prog w A.in1 I fp wr G items.size P St) (hT:∀s,St 0 s→IsTRev s.heap I l ((items.size:Int) - 1)∧IsTup s.heap l items) (S:Addr) (res:Value) (c₀:Nat) (hst:St 0 s) (hSf:S∉fp) (hI:I∈fp)
 (hS:s.heap.get? S=some { cls:=.type "list",data:=.seq #[] c₀ })
 (hR:∀s' acc' c',Moved (S::wr) G s s'→s'.heap.get? S=some { cls:=.type "list",dict:=none,data:=.seq acc' c',slots:=#[] }→ItemsOf P acc' items.size→R (.ok (.ret res)) s') (hn:items.size≤sizeLine) :
 wpAny (model prog w) A.in1 (Builtin.List.listExtendWith (.ref S) (.ref I) res)
  (fun fin s'=>match fin with | .done f=>R (.ok f) s' | .again c'=>c'.quiet=true∧codeAny (model prog w) A c' R s') (fun e s'=>R (.error e) s') s:=by
 have hSI:S≠I:=fun e=>hSf (e ▸ hI)
 have h1:Builtin.List.listSameRef (.ref S) (.ref I)=false:=by simp[Builtin.List.listSameRef,hSI]
 have hTI:=(hT s hst).1.typeIs
 have hzz:sizeLine < 2 ^ 62:=by decide +kernel
 unfold Builtin.List.listExtendWith
 refine wpAny_bind (wpAny_typeOf hTI ?_)
 rw[if_neg (by rw[h1];decide)]
 refine wpAny_bind (W.self 0 _ _ _ hst ?_)
 refine wpAny_bind (wpAny_holding ?_)
 unfold Builtin.List.listLengthHint
 refine wpAny_bind (wpAny_specialOf hTI Yw1 ?_)
 show wpAny _ A.in1 (specialOf (Value.ref I) (Str.ofString "__length_hint__") >>= _) _ _ _
 refine wpAny_bind (wpAny_specialOf hTI slot_rvd_hint.lookup ?_)
 (generalize hid:("reversed.__length_hint__":String)=id0;(fail_if_success (clear hid id0));wp_delta;rw[show splitId id0=some ("reversed","__length_hint__") from by subst hid;decide +kernel];subst hid)
 refine wpAny_bind (wpAny_isInstance (b:=true) hTI F.sub_reversed_self ?_)
 rw[if_neg (by decide)]
 dsimp only
 rw[if_neg (by decide +kernel)]
 refine wpAny_bind (wpAny_rule ?_)
 refine wpAny_bind (wpAny_of_eq (slot_rvd_hint.bind _) ?_)
 try dsimp only
 refine wpAny_bind (wpAny_attempt (Yw3 (hT s hst).1 (hT s hst).2 (by omega) ?_))
 show wpAny _ A.in1 (asInt? (Value.int (items.size:Int) (s.toks+1+1)) >>= _) _ _ _
 have hai:asInt? (Value.int (items.size:Int) (s.toks+1+1))=pure (some (items.size:Int)):=rfl
 rw[hai,pure_bind]
 have t1:Builtin.List.listFitsIndex (items.size:Int)=true:=by unfold Builtin.List.listFitsIndex;simp;omega
 have t2:¬(items.size:Int) < 0:=by omega
 have t3:Builtin.List.listTooLong (items.size:Int).toNat=false:=by unfold Builtin.List.listTooLong;simp;omega
 dsimp only
 rw[if_neg (by rw[t1];decide)]
 rw[if_neg t2]
 rw[if_neg (by rw[t3];decide)]
 refine wpAny_pure ?_
 have hst2:=W.frame 0 s s.heap (s.toks+1+1+1) hst (by omega) fun b _ o e=>e
 have mv2:∀s',Moved (S::wr) G { s with toks:=s.toks+1+1+1 } s'→Moved (S::wr) G s s':=fun s' m=>⟨m.heap,m.gens,m.drawn,m.os,Nat.le_trans (by show s.toks≤s.toks+1+1+1;omega) m.toks⟩
 clear hzz t1 t2 t3 hai
 cases h0:((items.size:Int) != 0)with
 | false=>
   rw[if_neg (by decide +kernel)]
   exact wpAny_pure ⟨plainId_quiet F.plain_extend_loop _,codeAny_extend_loopS W hn _ hSf _ items.size 0 _ _ _ rfl (Nat.zero_le _) hst2 hS (ItemsOf.nil P) fun s' acc' c' hm hS' hacc=>hR s' acc' c' (mv2 _ hm) hS' hacc⟩
 | true=>
   rw[if_pos (by decide +kernel)]
   refine wpAny_bind (wpAny_rule ?_)
   refine wpAny_bind ?_
   show wpAny _ A.in1 (updateSeq S (·.push .none) >>= fun _=>updateSeq S (·.pop)) _ _ _
   refine wpAny_bind (wpAny_updateSeq hS rfl ?_)
   have hS₂:=Heap.get?_update_self (Obj.mapSeq (·.push Value.none)) hS rfl
   refine wpAny_updateSeq (hz:=by seq_fits) hS₂ rfl ?_
   have hS₃:=Heap.get?_update_self (Obj.mapSeq (·.pop)) hS₂ rfl
   have oth:∀b o,b≠S→s.heap.get? b=some o→((s.heap.update S (Obj.mapSeq (·.push Value.none))).update S (Obj.mapSeq (·.pop))).get? b=some o:=
    fun b o hb e=>(Heap.get?_update_other _ _ (Ne.symm hb)).trans ((Heap.get?_update_other _ _ (Ne.symm hb)).trans e)
   refine wpAny_pure ⟨plainId_quiet F.plain_extend_loop _,codeAny_extend_loopS W hn _ hSf _ items.size 0 _ _ _ rfl (Nat.zero_le _)
    (W.frame 0 { s with toks:=s.toks+1+1+1 } _ (s.toks+1+1+1) hst2 (qu _) fun b hb o e=>oth b o (fun h=>hSf (h ▸ hb)) e) hS₃ (ItemsOf.nil P) fun s' acc' c' hm hS' hacc=>?_⟩
   refine hR s' acc' c' (mv2 _ (Moved.trans W.gtrans ((Moved.refl W.grefl).then_heap (qu _) fun b o hb e=>oth b o (fun h=>hb (h ▸ qh)) e) hm)) hS' hacc
variable {E:Value→Shared→Prop}
theorem Yo9{Q:List Value→Shared→Prop}{I l:Addr}{fp wr:List Addr}{G:Array GenState→Array GenState→Prop}{items:Array Value}{P:Nat→Value→Prop}{St:Nat→Shared→Prop}(W:WalksS prog w A.in1 I fp wr G items.size P St)(hT:∀s,St 0 s→IsTRev s.heap I l ((items.size:Int) - 1)∧IsTup s.heap l items)(hst:St 0 s)(hfp:∀b∈fp,b < s.heap.objs.size)(hI:I∈fp)
 (hQ:∀s' acc,Moved wr G s s'→ItemsOf P acc items.size→Q acc.toList s') (hn:items.size≤sizeLine):wpAny (model prog w) A (collect (.ref I)) Q E s:=by
 have hSf:s.heap.objs.size∉fp:=fun hm=>Qg _ (hfp _ hm)
 unfold collect
 refine wpAny_bind (wpAny_runValue (codeAny_builtin F.entry_proto_collect ?_))
 rw[Around.under_plainId F.plain_proto_collect _]
 show wpAny _ A.in1 (newList [] >>= fun l=>again (.builtin "list.__iadd__" ⟨[l,.ref I],[]⟩)) _ _ s
 refine wpAny_bind (wpAny_newObj_type ?_)
 refine wpAny_pure ⟨plainId_quiet F.plain_list_iadd _,codeAny_builtin F.entry_list_iadd ?_⟩
 rw[Around.under_plainId F.plain_list_iadd _]
 have hst₁:=W.frame 0 s (s.heap.push { cls:=.type "list",data:=.seq ([]:List Value).toArray }) s.toks hst (qu _) fun b _ o e=>qe _ e
 have hS₁:(s.heap.push { cls:=.type "list",data:=.seq ([]:List Value).toArray }).get? s.heap.objs.size=some { cls:=.type "list",data:=.seq ([]:List Value).toArray }:=qp _ rfl
 show wpAny _ A.in1 (Builtin.List.listExtendWith (.ref s.heap.objs.size) (.ref I) (.ref s.heap.objs.size)) _ _ _
 refine wpAny_mono (Yra (A:=A) (R:=fun r s'=>r=.ok (.ret (.ref s.heap.objs.size))∧∃acc' c',Moved (s.heap.objs.size::wr) G { s with heap:=s.heap.push { cls:=.type "list",data:=.seq ([]:List Value).toArray } } s'∧s'.heap.get? s.heap.objs.size=some { cls:=.type "list",dict:=none,data:=.seq acc' c',slots:=#[] }∧ItemsOf P acc' items.size)
  W hT _ _ 0 hst₁ hSf hI hS₁ (fun s' acc' c' a b c=>⟨rfl,acc',c',a,b,c⟩) hn) (fun fin s' h=>?_) (fun e s' h=>?_)
 ·have fin':∀s' acc' c',Moved (s.heap.objs.size::wr) G { s with heap:=s.heap.push { cls:=.type "list",data:=.seq ([]:List Value).toArray } } s'→s'.heap.get? s.heap.objs.size=some { cls:=.type "list",dict:=none,data:=.seq acc' c',slots:=#[] }→ItemsOf P acc' items.size→
   wpAny (model prog w) A (match Value.ref s.heap.objs.size with
    | Value.ref a=>do
      match (←load a).data with
       | Data.seq xs _=>pure xs.toList
       | _=>unsupported "internal:collect"
    | _=>unsupported "internal:collect") Q E s':=fun s' acc' c' hm hS' hacc=>by
   show wpAny _ A (load s.heap.objs.size >>= _) _ _ s'
   refine wpAny_bind (wpAny_load hS' ?_)
   exact wpAny_pure (hQ s' acc' (Moved.drop_new (o:={ cls:=.type "list",data:=.seq ([]:List Value).toArray }) (tk:=s.toks) hm (qu _)) hacc)
  cases fin with
  | done f=>
    obtain⟨e,acc',c',a,b,c⟩:=h
    cases e
    exact fin' _ acc' c' a b c
  | again c'=>exact⟨h.1,codeAny_mono h.2 fun r s'' hr=>by obtain⟨rfl,acc',c',a,b,c⟩:=hr;exact fin' _ acc' c' a b c⟩
 ·exact absurd h.1 (by simp)
set_option maxRecDepth 100000 in
theorem Ygm{Q₁:Value→Shared→Prop}{I l:Addr}{fp wr:List Addr}{G:Array GenState→Array GenState→Prop}{items:Array Value}{P:Nat→Value→Prop}{St:Nat→Shared→Prop}(W:WalksS prog w A.in1.in1 I fp wr G items.size P St)(hT:∀s,St 0 s→IsTRev s.heap I l ((items.size:Int) - 1)∧IsTup s.heap l items)(hst:St 0 s)(hfp:∀b∈fp,b < s.heap.objs.size)(hI:I∈fp)
 (h:∀s' acc,Moved wr G s s'→ItemsOf P acc items.size→Q₁ (.ref s'.heap.objs.size) { s' with heap:=s'.heap.push { cls:=.type "tuple",data:=.seq acc } }) (hsz:items.size≤sizeLine) :
 codeAny (model prog w) A (.call (.builtin "tuple.__new__") ⟨[.type "tuple",.ref I],[]⟩) (wants Q₁ E) s:=by
 refine codeAny_of_tree ?_
 show wpAny _ A.in1 (do checkBuiltinCall "tuple.__new__" ⟨[.type "tuple",.ref I],[]⟩;again (.builtin "tuple.__new__" ⟨[.type "tuple",.ref I],[]⟩)) _ _ s
 refine wpAny_bind (wpAny_of_eq (F.newCall_tuple_1 _) (wpAny_pure ⟨plainId_quiet F.plain_tuple_new _,codeAny_builtin F.entry_tuple_new ?_⟩))
 rw[Around.under_plainId F.plain_tuple_new _]
 have hsub:=sub_tuple_self
 have hinit:=init_tuple_lookup
 have hmh:=madeHere_tuple
 have hTI:=(hT s hst).1.typeIs
 wp_walk using wpAny_typeOf hTI,Yo9 (hn:=hsz) W hT hst hfp hI
 intro s' acc hm hacc
 show wpAny _ _ (Builtin.Tuple.tupleExact acc.toList.toArray >>= fun v=>ret v) _ _ _
 unfold Builtin.Tuple.tupleExact
 refine wpAny_bind (wpAny_newObj_type ?_ (by show acc.toList.toArray.size≤sizeLine;simp only[Array.toArray_toList];rw[hacc.1];exact hsz))
 refine wpAny_pure ?_
 have e:acc.toList.toArray=acc:=by simp
 rw[e]
 exact h s' acc hm hacc
theorem Yh4{Q:Value→Shared→Prop}{I l:Addr}{fp wr:List Addr}{G:Array GenState→Array GenState→Prop}{items:Array Value}{P:Nat→Value→Prop}{St:Nat→Shared→Prop}(W:WalksS prog w A.in1.in1.in1 I fp wr G items.size P St)(hT:∀s,St 0 s→IsTRev s.heap I l ((items.size:Int) - 1)∧IsTup s.heap l items)(hst:St 0 s)(hfp:∀b∈fp,b < s.heap.objs.size)(hI:I∈fp)
 (hQ:∀s' acc,Moved wr G s s'→ItemsOf P acc items.size→Q (.ref s'.heap.objs.size) { s' with heap:=s'.heap.push { cls:=.type "tuple",data:=.seq acc } }) (hsz:items.size≤sizeLine) :
 wpAny (model prog w) A (call (.type "tuple") [.ref I]) Q E s:=by
 refine callType_codes (Q₁:=fun obj s₁=>s₁.TypeIs obj "tuple"∧Q obj s₁) F.called_tuple (F.typeCall_tuple_1 _) F.entry_object_init
  (Ygm (hsz:=hsz) W hT hst hfp hI fun s' acc hm hacc=>⟨⟨_,qp _ rfl,rfl⟩,hQ s' acc hm hacc⟩) fun obj s₁ h₁=>?_
 exact⟨h₁.1,F.args_object_init_2 obj _,object_init_meets F.called_tuple.init.lookup F.called_tuple.made (by decide) prog w A.in1 _ s₁ ⟨h₁.1,rfl,h₁.2⟩⟩
end
section
variable {X:Cx} {e:Expr} {ta:TA} {p p2 pos pos2:Pos}
theorem Yw4{pins:List (Addr × Obj)}{σ:L2.St}{H:Hp}{s:Shared}{Q:Value→Shared→Prop}{q:List V→Hp→Prop}(I:Inv X pins σ H s)(hg2:Gl X "reversed")(hm2:X.mg "reversed"=none)(ha:PA X [e] ta)(h:ta σ H q)
 (hs:starEach [e] X.env=[(false,eval e X.env)])
 (k:∀vs H1 s1,Inv X pins σ H1 s1→q vs H1→∃a its,vs=[.ref a]∧IsTup s1.heap a its∧(its.size:Int) < 2 ^ 63∧Q (.ref s1.heap.objs.size) { s1 with heap:=s1.heap.push (Yh1 a ((its.size:Int) - 1)),toks:=s1.toks+1+1 }) :
 wpAny (model X.prog X.w) X.A (eval (.Call (.Name "reversed" p2) [e] [] pos2) X.env) Q X.xe s:=by
 refine Call_ (Yij I hg2 hm2 boot_reversed (PyProof.Rows.callWith_type1 (thn (ha pos2 pins s σ H _ I h) fun us s1 ⟨vs,H1,I1,r1,q1⟩=>?_) hs rfl))
 obtain⟨a,its,rfl,pl,hz,z⟩:=k vs H1 s1 I1 q1
 obtain⟨u,rfl,ru⟩:=Yf7 r1
 cases ru
 exact Yh3 pl hz z
noncomputable def y6n(K:W.Frag)(ta:TA):TE:=fun σ H Q=>ta σ H fun vs H1=>∃a xs,vs=[.ref a]∧SqT K H1 a xs∧∀l,H1 l=none→Q (.ref l) (upd H1 l (.tup xs.reverse))
theorem Yua(hc:X.calm=true)(hg:Gl X "tuple")(hm:X.mg "tuple"=none)(hg2:Gl X "reversed")(hm2:X.mg "reversed"=none)(ha:PA X [e] ta)(hs:starEach [e] X.env=[(false,eval e X.env)]:=by rfl)
 (he:starEach [.Call (.Name "reversed" p2) [e] [] pos2] X.env=[(false,eval (.Call (.Name "reversed" p2) [e] [] pos2) X.env)]:=by rfl) :
 PE X (.Call (.Name "tuple" p) [.Call (.Name "reversed" p2) [e] [] pos2] [] pos) (y6n X.K ta):=by
 intro pins s σ H Q I h
 refine wpAny_Call_Name_kw (Yij I hg hm boot_tuple ?_ (by decide) (by decide))
 refine PyProof.Rows.callWith_type1 ?_ he rfl
 rw[he]
 refine Calls.spliced_cons (Yw4 I hg2 hm2 ha h hs fun vs H1 s1 I1 q1=>?_)
 obtain⟨a,xs,rfl,hq,q⟩:=q1
 obtain⟨its,rv,pl,hz⟩:=I1.tuple hq
 have hl:=rv.length
 have hzz:sizeLine < 2 ^ 62:=by decide +kernel
 have hsz0:its.toArray.size≤sizeLine:=by rw[qk];omega
 refine⟨a,its.toArray,rfl,pl,by omega,Calls.spliced_nil ?_⟩
 have hlt:a < s1.heap.objs.size:=pl.lt
 have hne:a≠s1.heap.objs.size:=qm hlt
 clear hzz
 refine Yh4 (Yt9 (show X.A.in1.in1.in1.handled=none from I1.ok.hd hc) s1.heap.objs.size a hne its.toArray hsz0).toS (fun s st=>⟨by have:=st.2.1;simpa using this,st.2.2⟩) ⟨Nat.zero_le _,⟨_,qp _ rfl,rfl,by simp[Yh1]⟩,pl.push _⟩ (fun b hb=>?_) (by simp) (fun s' acc' hm' hacc=>?_) hsz0
 ·show b < (s1.heap.push _).objs.size
  rw[Heap.size_push]
  rcases qt hb with rfl | hb
  ·exact Qa _
  ·rw[List.mem_singleton.mp hb];exact qw hlt
 ·have kp:∀b u,s1.heap.get? b=some u→s'.heap.get? b=some u:=fun b u qb=>by
   have hb:b < s1.heap.objs.size:=ql qb
   refine hm'.heap b u (fun z=>?_) (qe _ qb)
   rw[List.mem_singleton.mp z]at hb;exact absurd hb (Qg _)
  have ev:acc'.toList=its.reverse:=by simpa using Yv4 hacc
  have I2:Inv X pins σ H1 s':=by
   have e:=Moved.eq_with hm'
   rw[e]
   exact I1.kept (t':=s'.toks) kp
  refine⟨.ref s'.heap.objs.size,upd H1 s'.heap.objs.size (.tup xs.reverse),?_,rfl,q _ (I2.hok.fresh (qu _))⟩
  have ea:acc'=acc'.toList.toArray:=by simp
  exact I2.laid (t':=s'.toks) (fun b o e=>qe _ e) (qu _) (show ObjOk X.prog X.w _ _ _ (.tup xs.reverse) from⟨by rw[List.length_reverse];exact hz,acc'.toList,by rw[ev];exact Yin rv,by rw[←ea];exact IsTup.new _ _⟩)
noncomputable def revT:D→Option D
 | .tup l=>some (.tup l.reverse)
 | _=>none
variable {f:Ro→Option D}
theorem Yub(hc:X.calm=true)(hg:Gl X "tuple")(hm:X.mg "tuple"=none)(hg2:Gl X "reversed")(hm2:X.mg "reversed"=none)(ha:MC X e f)(hs:starEach [e] X.env=[(false,eval e X.env)]:=by rfl)
 (he:starEach [.Call (.Name "reversed" p2) [e] [] pos2] X.env=[(false,eval (.Call (.Name "reversed" p2) [e] [] pos2) X.env)]:=by rfl) :
 ME X (.Call (.Name "tuple" p) [.Call (.Name "reversed" p2) [e] [] pos2] [] pos) (b1 f revT):=
 PE.imp (Yua hc hg hm hg2 hm2 (Yeb ha Ygc hs) hs he) fun σ H Q ⟨ρ,d0,H0,G0,G,e,s,h⟩=>by
  obtain⟨d,h2,h3⟩:=Ybv e
  refine tCAof.at (show Yh f aNil ρ=some [d] by simp[Yh,aNil,h2]) s fun vs H1 G1 g1 r1 s1=>?_
  obtain⟨v,rfl,rv⟩:=Ybw r1
  cases d with
  | tup l=>
    cases h3
    rw[Ct]at rv
    obtain⟨q,xs,rfl,g,rl⟩:=rv
    exact⟨q,xs,rfl,.inl (.inl g.1),fun m hm'=>h _ _ _ (g1.trans (.new s1.seen hm' (.tup xs.reverse))) (by
     rw[Rp]
     exact⟨m,_,rfl,Yv,rl.reverse.mono (Gr.new s1.seen hm' _).g⟩)⟩
  | _=>cases h3
end
end
section
section
variable {X:Cx} {e:Expr} {f:Ro→Option D} {p p2 pos pos2:Pos}
theorem Yrb(hc:X.calm=true)(hg:Gl X "tuple")(hm:X.mg "tuple"=none)(hg2:Gl X "reversed")(hm2:X.mg "reversed"=none)(ha:ZC X e f)(hs:starEach [e] X.env=[(false,eval e X.env)]:=by rfl)(he:starEach [.Call (.Name "reversed" p2) [e] [] pos2] X.env=[(false,eval (.Call (.Name "reversed" p2) [e] [] pos2) X.env)]:=by rfl):ZE X (.Call (.Name "tuple" p) [.Call (.Name "reversed" p2) [e] [] pos2] [] pos) (b1 f revT):=⟨Yub hc hg hm hg2 hm2 ha.un hs he⟩
end
end
section
variable {K:W.Frag}
section
variable {X:Cx} {e:Expr} {f:Ro→Option D} {pos:Pos}
noncomputable def dctF(f:Ro→Option D):Ro→Option D:=fun ρ=>((f ρ).bind pairsOf).bind fun ps=>if ps.length < cap6 then some (.dct false ((dctG [] [] ps).1.map D.int) (dctG [] [] ps).2)else none
theorem y6o(hc:X.calm=true){p2 cpos:Pos}(hg:Gl X "dict")(hm:X.mg "dict"=none)(ha:MC X e f)(hst:starEach [e] X.env=[(false,eval e X.env)]:=by rfl)(hpl:(backTo cpos (starEach [] X.env)).any (·.1)=false:=by rfl) :
 ME X (.Call (.Name "dict" p2) [e] [] cpos) (dctF f):=
 PE.imp (Yc3 (Ylu hc) hg hm (by decide +kernel) (Yeb ha Ygc hst) (by decide) (by decide) hst hpl) fun σ H Q hx_=>by
  obtain⟨ρ,out,H0,G0,G,e,s,h⟩:=hx_
  unfold dctF at e
  obtain⟨ps,h1,e⟩:=qa e
  obtain⟨d,h2,h3⟩:=qa h1
  split at e
  case isFalse=>cases e
  rename_i hcap
  cases e
  refine tCAof.at (show Yh f aNil ρ=some [d] by simp[Yh,aNil,h2]) s fun vs H1 G1 g1 r1 s1=>?_
  obtain⟨v,rfl,rv⟩:=Ybw r1
  cases d with
  | lst l=>
    rw[Ct]at rv
    obtain⟨a,xs,rfl,hq,rl⟩:=rv
    obtain⟨qs,h4,h5⟩:=Yjv s1.seen (show Ye4 l=some ps from h3) rl
    refine⟨a,xs,qs,rfl,.inl hq,h4,by rw[h5.length];exact hcap,fun p hp=>?_⟩
    obtain⟨vx',k1,k2,k3,k4⟩:=Yjw (ns:=[]) (ds:=[]) (vxs:=[]) h5 List.nodup_nil rfl .nil
    have gn:=Gr.new (p:=p) s1.seen hp (.dK (Yf2 [] qs))
    refine h _ _ _ (g1.trans gn) ?_
    rw[Rp]
    exact⟨p,(dctG [] [] ps).1.map V.int,vx',rfl,Yyv (by rw[←k1];exact Yv) k2 k3,.ints _,k4.mono gn.g⟩
  | _=>cases h3
@[simp] theorem y29{ρ:Ro}:dctF f ρ=((f ρ).bind pairsOf).bind fun ps=>if ps.length < cap6 then some (.dct false ((dctG [] [] ps).1.map D.int) (dctG [] [] ps).2)else none:=nr1 rfl
end
end
section
section
variable {X:Cx} {e:Expr} {f:Ro→Option D} {pos:Pos}
theorem y3a(hc:X.calm=true){p2 cpos:Pos}(hg:Gl X "dict")(hm:X.mg "dict"=none)(ha:ZC X e f)(hst:starEach [e] X.env=[(false,eval e X.env)]:=by rfl)(hpl:(backTo cpos (starEach [] X.env)).any (·.1)=false:=by rfl) :
 ZE X (.Call (.Name "dict" p2) [e] [] cpos) (dctF f):=⟨y6o hc hg hm ha.un hst hpl⟩
end
end
section
variable {K:W.Frag}
section
variable {X:Cx} {a e:Expr} {fa f:Ro→Option D} {pos:Pos}
noncomputable def rCnt(K:W.Frag):V→List V→Hp→VK→Prop:=fun x vs H Q=>∃(l:Addr) (ns:List Int) (k:Int),x=.ref l∧vs=[.int k]∧SqL K H l (ns.map V.int)∧Q (.int (ns.count k:Nat)) H
theorem Yzk:MtM X "list.count" (rCnt X.K):=by
 intro pins s σ H x vs v us Q I rx rv h
 obtain⟨l,ns,k,rfl,rfl,hH,q⟩:=h
 cases rx
 obtain⟨u,rfl,⟨t,rfl⟩⟩:=Yf7 rv
 obtain⟨its,r,pl,_⟩:=I.list hH
 exact count_list_ints pl.isList (Yfo r) ⟨.int (ns.count k:Nat),H,I.tok _,⟨_,rfl⟩,q⟩
noncomputable def cntD:D→D→Option D
 | .lst l,.int k=>(intsD l).map fun ns=>.int (ns.count k:Nat)
 | _,_=>none
theorem Yzl{apos cpos:Pos}(ha:MC X a fa)(he:ME X e f)(hs:starEach [e] X.env=[(false,eval e X.env)]:=by rfl)
 (hfew:((backTo cpos (starEach [e] X.env)).all (fun x=>!x.1)&&(backToKw cpos (keywordEach [] X.env)).all (fun x=>x.1.isSome)&&decide ([e].length+([]:List Keyword).length+(if ([]:List Keyword).isEmpty then 0 else 1) < 30))=true:=by rfl)
 (hline:(apos.endLine==cpos.line)=true:=by rfl) (hbase:attributeBase a "count" X.env (eval a X.env)=eval a X.env:=by rfl) :
 ME X (.Call (.Attribute a "count" apos) [e] [] cpos) (b2 fa f cntD):=
 PE.imp (y4s PySem.F.plainAttrs_list PySem.F.slot_list_count PySem.F.type_list_count Yzk ha (Yex he Yjb hs) hbase hfew hline hs rfl) fun σ H Q hx_=>by
  obtain⟨ρ,d,H0,G0,G,e,s,h⟩:=hx_
  obtain⟨dx,h1,e⟩:=qa e
  obtain⟨dy,h2,h3⟩:=qa e
  cases dx<;>try cases h3
  rename_i l
  cases dy<;>try cases h3
  rename_i k
  obtain⟨ns,h4,rfl⟩:=qc h3
  have:=Yb7 h4
  subst this
  refine tCof.at h1 s fun v H1 G1 g1 r1 s1=>?_
  rw[Ct]at r1
  obtain⟨p,xs,rfl,g,rl⟩:=r1
  have:=Yec rl
  subst this
  refine⟨.inl ⟨rfl,_,.inl g⟩,tOf.at h2 s1 fun u H2 G2 g2 r2 s2=>?_⟩
  rw[Rp]at r2
  subst r2
  refine⟨p,ns,k,rfl,rfl,.inl (g.imp (g2.h _ _) fun q=>q.imp fun o q=>g2.h _ _ q),?_⟩
  exact h _ H2 G2 (g1.trans g2) (by rw[Rp])
end
end
section
section
variable {X:Cx} {a e:Expr} {fa f:Ro→Option D} {pos:Pos}
theorem Yw5{apos cpos:Pos}(ha:ZC X a fa)(he:ZE X e f)(hs:starEach [e] X.env=[(false,eval e X.env)]:=by rfl)
 (hfew:((backTo cpos (starEach [e] X.env)).all (fun x=>!x.1)&&(backToKw cpos (keywordEach [] X.env)).all (fun x=>x.1.isSome)&&decide ([e].length+([]:List Keyword).length+(if ([]:List Keyword).isEmpty then 0 else 1) < 30))=true:=by rfl)
 (hline:(apos.endLine==cpos.line)=true:=by rfl) (hbase:attributeBase a "count" X.env (eval a X.env)=eval a X.env:=by rfl) :
 ZE X (.Call (.Attribute a "count" apos) [e] [] cpos) (b2 fa f cntD):=⟨Yzl ha.un he.un hs hfew hline hbase⟩
@[simp] theorem Yzm(l:List Int)(k:Int):cntD (.lst (l.map D.int)) (.int k)=some (.int (l.count k:Nat)):=by
 show(intsD (l.map D.int)).map _=_
 rw[Yj3]
 rfl
end
end
end M
noncomputable section
namespace Lw
open PySem PySem.Spec PyProof.Rows L2 M
def top(i:Nat):Stmt:=PySem.Challenge.pw_duskbook_k45_sums_won.main.body.getD i (.Pass ⟨0,0,0,0⟩)
structure Bl(K:W.Frag)(w:World)(mg:Str→Option Value):Prop where
 Len:mg "len"=none
 Range:mg "range"=none
 List:mg "list"=none
 Tuple:mg "tuple"=none
 Int:mg "int"=none
 Bool:mg "bool"=none
 Str:mg "str"=none
 Sorted:mg "sorted"=none
 Any:mg "any"=none
 All:mg "all"=none
 Isinstance:mg "isinstance"=none
 Enumerate:mg "enumerate"=none
 Reversed:mg "reversed"=none
 Set:mg "set"=none
 Min:mg "min"=none
 Dict:mg "dict"=none
section
variable {P:Program} {w:World} {K:W.Frag} {mg:Str→Option Value} {base:Heap}
abbrev Yei:Stmt:=top 1
theorem Ym5:FnScope ["rule","other"] ["rule","other"] (defScope Yei):=⟨rfl,rfl,rfl,by decide +kernel,rfl,by decide +kernel,by decide +kernel⟩
def Yiq:Ro→Option Out:=(sRet (dTup (Yh (cC (Yh (lF (Yht (b2 (getC 0) (kD (.int 0)) ixD) (b2 (getC 1) (kD (.int 0)) ixD))) aNil) tupC) (Yh (mB (b2 (b2 (getC 0) (kD (.int 1)) ixD) (b2 (getC 1) (kD (.int 1)) ixD) (eqM true))) aNil))))
def Yaj:List D→Option D:=runB 2 2 Yiq
theorem Ym6(bl:Bl K w mg)  {a:Addr} {fd:FuncData} (F:Fun K "both_added" "both_added" Yei a fd) (hm:mg "both_added"=some (.ref a)):Okf P w K mg base 1 2 "both_added" ["rule","other"] Yaj:=by
 refine Yam F (F.binds fun _ _ _ _ _ _ us hl=>by obtain⟨_,_,rfl⟩:=len2 hl;rfl) hm (Ys (k:=0) F Ym5 rfl rfl fun cdv A outer s H E hr=>?_)
 exact(Yp (Yt (Yad (Yc (Yaw Yah Yc6 rfl bl.Tuple boot_tuple (Yr (Yb (Yae (Ylw rfl rfl bl.Sorted rfl bl.Set (Yb (Yi (Yd 0) (Yb Yg))) (Yb (Yi (Yd 1) (Yb Yg)))))) Yu)) (Yc (Ysu hr.units (Yb (Yi (Yd 0) (Yb Yg))) (Yb (Yi (Yd 1) (Yb Yg)))) Yl)))))
abbrev Ym7:Stmt:=top 2
theorem sc_added:FnScope ["book","places","whole","place"] ["book","places"] (defScope Ym7):=⟨rfl,rfl,rfl,by decide +kernel,rfl,by decide +kernel,by decide +kernel⟩
def Yh5:Ro→Option Out:=(sSet 2 (cC (Yh (getV 2) (Yh (b2 (b2 (getC 0) (kD (.int 1)) ixD) (getC 3) ixD) aNil)) Yaj))
@[simp] def Yw6:Ro→Option Out:=(sRet (getV 2))
@[simp] def Yw7:Ro→Option Out:=(sSeq (sFor (b1 (getV 1) Yn) (gSet 3) Yh5) Yw6)
def Yw8:Ro→Option Out:=(sSeq (sSet 2 (dTup (Yh (dTup aNil) (Yh (kD (.bl false)) aNil)))) Yw7)
def Yh6:List D→Option D:=runB 2 4 Yw8
theorem Yzn(bl:Bl K w mg)(ud:Okf P w K mg base 1 2 "both_added" ["rule","other"] Yaj){a:Addr}{fd:FuncData}(F:Fun K "added" "added" Ym7 a fd)(hm:mg "added"=some (.ref a)):Okf P w K mg base 2 2 "added" ["book","places"] Yh6:=by
 refine Yam F (F.binds fun _ _ _ _ _ _ us hl=>by obtain⟨_,_,rfl⟩:=len2 hl;rfl) hm (Ys (k:=1) F sc_added rfl rfl fun cdv A outer s H E hr=>?_)
 exact(Yk (y0 2 sc_added.nd (Yad (Yc (Yad Yl) (Yc Ycq Yl)))) (Yk (Yhw PassesOwn.never rfl (Yas (Yj 1)) (Yaa 3 sc_added.nd) (Yp (y0 2 sc_added.nd (Yo ud hr rfl (Yc (Yj 2) (Yc (Yi (Yb (Yi (Yd 0) (Yb Yg))) (Yd 3)) Yl)) (Ye (Ye (fun _ _ h=>Yq h))))))) (Yp (Yt (Yj 2)))))
abbrev Ydo:Stmt:=top 3
theorem Yk9:FnScope ["pair","other"] ["pair","other"] (defScope Ydo):=⟨rfl,rfl,rfl,by decide +kernel,rfl,by decide +kernel,by decide +kernel⟩
def Yhb:Ro→Option Out:=(sRet (dTup (Yh (cC (Yh (lF (Yht (b2 (getC 0) (kD (.int 0)) ixD) (b2 (getC 1) (kD (.int 0)) ixD))) aNil) tupC) (Yh (cC (Yh (b2 (getC 0) (kD (.int 1)) ixD) (Yh (b2 (getC 1) (kD (.int 1)) ixD) aNil)) Yaj) aNil))))
def Ybx:List D→Option D:=runB 2 2 Yhb
theorem Yla(bl:Bl K w mg)(ud:Okf P w K mg base 1 2 "both_added" ["rule","other"] Yaj){a:Addr}{fd:FuncData}(F:Fun K "pairs_added" "pairs_added" Ydo a fd)(hm:mg "pairs_added"=some (.ref a)):Okf P w K mg base 2 2 "pairs_added" ["pair","other"] Ybx:=by
 refine Yam F (F.binds fun _ _ _ _ _ _ us hl=>by obtain⟨_,_,rfl⟩:=len2 hl;rfl) hm (Ys (k:=1) F Yk9 rfl rfl fun cdv A outer s H E hr=>?_)
 exact(Yp (Yt (Yad (Yc (Yaw Yah Yc6 rfl bl.Tuple boot_tuple (Yr (Yb (Yae (Ylw rfl rfl bl.Sorted rfl bl.Set (Yb (Yi (Yd 0) (Yb Yg))) (Yb (Yi (Yd 1) (Yb Yg)))))) Yu)) (Yc (Yo ud hr rfl (Yc (Yi (Yd 0) (Yb Yg)) (Yc (Yi (Yd 1) (Yb Yg)) Yl)) (Ye (Ye (fun _ _ h=>Yq h)))) Yl)))))
abbrev Yh7:Stmt:=top 4
theorem sc_cleared:FnScope ["pair","by_last","left"] ["pair","by_last"] (defScope Yh7):=⟨rfl,rfl,rfl,by decide +kernel,rfl,by decide +kernel,by decide +kernel⟩
def Yfc:Ro→Option Out:=(sSet 2 (cC (Yh (getV 2) (Yh (b2 (getC 1) (b2 (b2 (b2 (getC 2) (kD (.int 1)) ixD) (kD (.int 0)) ixD) (b1 (kD (.int 1)) negI) ixD) getI) aNil)) Ybx))
@[simp] def Yj6:Ro→Option Out:=(sRet (getV 2))
@[simp] def Yj7:Ro→Option Out:=(sSeq (Yf1 (andT (b1 (b2 (b2 (getC 2) (kD (.int 1)) ixD) (kD (.int 0)) ixD) truD) (b2 (b2 (b2 (b2 (getC 2) (kD (.int 1)) ixD) (kD (.int 0)) ixD) (b1 (kD (.int 1)) negI) ixD) (getC 1) (hasN false))) Yfc 4000) Yj6)
def Ypa:Ro→Option Out:=(sSeq (sSet 2 (getV 0)) Yj7)
def Yc9:List D→Option D:=runB 2 3 Ypa
theorem Yuc(bl:Bl K w mg)(xy:Okf P w K mg base 2 2 "pairs_added" ["pair","other"] Ybx){a:Addr}{fd:FuncData}(F:Fun K "cleared" "cleared" Yh7 a fd)(hm:mg "cleared"=some (.ref a)):Okf P w K mg base 3 2 "cleared" ["pair","by_last"] Yc9:=by
 refine Yam F (F.binds fun _ _ _ _ _ _ us hl=>by obtain⟨_,_,rfl⟩:=len2 hl;rfl) hm (Ys (k:=2) F sc_cleared rfl rfl fun cdv A outer s H E hr=>?_)
 exact(Yk (y0 2 sc_cleared.nd (Yj 0)) (Yk (Ywn 4000 PassesOwn.never (Ydj (Ye6 (Ybj (Yb (Yi (Yb (Yi (Yd 2) (Yb Yg))) (Yb Yg)))) (Ydi (y2x hr.units (Yb (Yi (Yb (Yi (Yb (Yi (Yd 2) (Yb Yg))) (Yb Yg))) (Yb (Yhy (Yb Yg))))) (Yd 1))))) (Yp (y0 2 sc_cleared.nd (Yo xy hr rfl (Yc (Yj 2) (Yc (Ym1 hr.units (Yd 1) (Yb (Yi (Yb (Yi (Yb (Yi (Yd 2) (Yb Yg))) (Yb Yg))) (Yb (Yhy (Yb Yg)))))) Yl)) (Ye (Ye (fun _ _ h=>Yq h))))))) (Yp (Yt (Yj 2)))))
abbrev Yft:Stmt:=top 5
theorem sc_reduced:FnScope ["book","by_last","void","place","rule","pair","beacons"] ["book"] (defScope Yft):=⟨rfl,rfl,rfl,by decide +kernel,rfl,by decide +kernel,by decide +kernel⟩
theorem cs_reduced_0:CompSc ["book","by_last","void","place","rule","pair","beacons"] (defScope Yft) ["last","by_last"] [none,some 1] (fsc [(".0",.local),("last",.local),("by_last",.free)]):=y9 (by decide +kernel)
def Yci:Ro→Option Out:=(sSeq (sSet 5 (Yk6 [1] (cC (Yh (dTup (Yh (dTup (Yh (getV 3) aNil)) (Yh (getV 4) aNil))) (Yh (getV 1) aNil)) Yc9))) (sSeq (sSet 6 (b2 (b2 (getC 5) (kD (.int 1)) ixD) (kD (.int 0)) ixD)) (sIf (b1 (getC 6) truD) (Ytv 1 (b2 (getC 6) (b1 (kD (.int 1)) negI) ixD) (getV 5)) (sIf (andT (b1 (b2 (b2 (getC 5) (kD (.int 1)) ixD) (kD (.int 1)) ixD) truD) (b2 (getC 2) (kD .non) (isN false))) (sSet 2 (b2 (getC 5) (kD (.int 0)) ixD)) sNil))))
def Yfd:Ro→Option D:=(b2 (getC 1) (getC 0) getI)
@[simp] def Yj8:Ro→Option Out:=(wF [1] (sRet (dTup (Yh (lF (Ybd (b1 (lF (cF (Yh (getC 1) aNil) Yjs)) Yn) [none,some 1] (gSet 0) tY (Yfd))) (Yh (getV 2) aNil)))))
@[simp] def Yj9:Ro→Option Out:=(sSeq (sFor (b1 (b2 (getC 0) (kD (.int 1)) ixD) Yv3) (Yvu 3 4) Yci) Yj8)
@[simp] def Yka:Ro→Option Out:=(sSeq (sSet 2 (kD .non)) Yj9)
def Ypb:Ro→Option Out:=(sSeq (Yts 1) Yka)
def Yd3:List D→Option D:=runB 1 7 Ypb
theorem Yud(bl:Bl K w mg)(ucc:Okf P w K mg base 3 2 "cleared" ["pair","by_last"] Yc9){a:Addr}{fd:FuncData}(F:Fun K "reduced" "reduced" Yft a fd)(hm:mg "reduced"=some (.ref a)):Okf P w K mg base 4 1 "reduced" ["book"] Yd3:=by
 refine Yam F (F.binds fun _ _ _ _ _ _ us hl=>by obtain⟨_,rfl⟩:=len1 hl;rfl) hm (Ys (k:=3) F sc_reduced rfl rfl fun cdv A outer s H E hr=>?_)
 exact(Yk (Ysx 1 sc_reduced.nd) (Yk (y0 2 sc_reduced.nd Yee) (Yk (Yhw PassesOwn.never rfl (Ym0 rfl bl.Enumerate (Yi (Yd 0) (Yb Yg))) (Yzc 3 4 rfl sc_reduced.nd) (Yk (y0 5 sc_reduced.nd (Yo5 [1] (Yo ucc hr rfl (Yc (Yad (Yc (Yad (Yc (Yj 3) Yl)) (Yc (Yj 4) Yl))) (Yc (Yj 1) Yl)) (Ye (Ye (fun _ _ h=>Yq h)))))) (Yk (y0 6 sc_reduced.nd (Yi (Yb (Yi (Yd 5) (Yb Yg))) (Yb Yg))) (Yp (Yak (Ybj (Yd 6)) (Yp (Ysy hr.units 1 (Yb (Yi (Yd 6) (Yb (Yhy (Yb Yg))))) (Yj 5))) (Yp (Yak (Ydj (Ye6 (Ybj (Yb (Yi (Yb (Yi (Yd 5) (Yb Yg))) (Yb Yg)))) (Ydi (Ywl (Yd 2) (Yb Yee))))) (Yp (y0 2 sc_reduced.nd (Yi (Yd 5) (Yb Yg)))) Yab))))))) (Yp (Ymx [1] (Yt (Yad (Yc (Yae (Yal cs_reduced_0 rfl (Yas (Yae (Ye8 (Yqw rfl) Ytx rfl bl.Sorted boot_sorted (Yr (Yd 1) Yu)))) (fun _ _ _ _ _=>(Yaa 0 cs_reduced_0.nd)) (fun _ _ _ _ _=>Yaz) (fun _ _ _ _ _=>(Ym1 hr.units (Yd 1) (Yd 0))) (Yaq (i:=0) rfl))) (Yc (Yj 2) Yl)))))))))
abbrev Yby:Stmt:=top 15
theorem Ykb:FnScope ["rule","evening"] ["rule","evening"] (defScope Yby):=⟨rfl,rfl,rfl,by decide +kernel,rfl,by decide +kernel,by decide +kernel⟩
theorem cs_either_holds_0:CompSc ["rule","evening"] (defScope Yby) ["saying","evening"] [none,some 1] (fsc [(".0",.local),("saying",.local),("evening",.free)]):=y9 (by decide +kernel)
def Yb8:Ro→Option D:=(mB (b2 (b2 (getC 1) (b2 (getC 0) (kD (.int 0)) ixD) ixD) (b2 (getC 0) (kD (.int 1)) ixD) (eqM false)))
def Yf4:Ro→Option Out:=(sRet (cC (Yh (lF (Ybd (b1 (getV 0) Yn) [none,some 1] (gSet 0) tY (Yb8))) aNil) anyC))
def Ybk:List D→Option D:=runB 2 2 Yf4
theorem Ykc(bl:Bl K w mg)  {a:Addr} {fd:FuncData} (F:Fun K "either_holds" "either_holds" Yby a fd) (hm:mg "either_holds"=some (.ref a)):Okf P w K mg base 1 2 "either_holds" ["rule","evening"] Ybk:=by
 refine Yam F (F.binds fun _ _ _ _ _ _ us hl=>by obtain⟨_,_,rfl⟩:=len2 hl;rfl) hm (Ys (k:=0) F Ykb rfl rfl fun cdv A outer s H E hr=>?_)
 exact(Yp (Yt (Yag (Yot rfl) Yv2 rfl bl.Any boot_any (Yr (Yb (Yae (Yal cs_either_holds_0 rfl (Yas (Yj 0)) (fun _ _ _ _ _=>(Yaa 0 cs_either_holds_0.nd)) (fun _ _ _ _ _=>Yaz) (fun _ _ _ _ _=>(Yd0 hr.units (Yb (Yi (Yd 1) (Yb (Yi (Yd 0) (Yb Yg))))) (Yb (Yi (Yd 0) (Yb Yg))))) (Yaq (i:=0) rfl)))) Yu))))
abbrev Ydk:Stmt:=top 16
theorem sc_sum_holds:FnScope ["rule","evening","lit_ones"] ["rule","evening"] (defScope Ydk):=⟨rfl,rfl,rfl,by decide +kernel,rfl,by decide +kernel,by decide +kernel⟩
theorem cs_sum_holds_0:CompSc ["rule","evening","lit_ones"] (defScope Ydk) ["beacon","evening"] [none,some 1] (fsc [(".0",.local),("beacon",.local),("evening",.free)]):=y9 (by decide +kernel)
def Ydp:Ro→Option Bool:=(b1 (b2 (getC 1) (getC 0) ixD) truD)
def Ydq:Ro→Option D:=(getV 0)
def Ykd:Ro→Option Out:=(sSeq (sOwn 2 (Ybd (b1 (b2 (getC 0) (kD (.int 0)) ixD) Yn) [none,some 1] (gSet 0) (Ydp) (Ydq))) (sRet (mB (b2 (mB (b2 (b2 (cC (Yh (getC 2) aNil) lenC) (kD (.int 2)) modI) (kD (.int 1)) (eqM false))) (b2 (getC 0) (kD (.int 1)) ixD) (eqM false)))))
def Yda:List D→Option D:=runB 2 3 Ykd
theorem Ypc(bl:Bl K w mg)  {a:Addr} {fd:FuncData} (F:Fun K "sum_holds" "sum_holds" Ydk a fd) (hm:mg "sum_holds"=some (.ref a)):Okf P w K mg base 1 2 "sum_holds" ["rule","evening"] Yda:=by
 refine Yam F (F.binds fun _ _ _ _ _ _ us hl=>by obtain⟨_,_,rfl⟩:=len2 hl;rfl) hm (Ys (k:=0) F sc_sum_holds rfl rfl fun cdv A outer s H E hr=>?_)
 exact(Yk (Ymz 2 sc_sum_holds.nd cs_sum_holds_0 rfl (Yas (Yi (Yd 0) (Yb Yg))) (fun _ _ _ _ _=>(Yaa 0 cs_sum_holds_0.nd)) (fun _ _ _ _ _=>(Yi7 (Ybj (Yb (Yi (Yd 1) (Yd 0)))))) (fun _ _ _ _ _=>(Yj 0)) (Yaq (i:=0) rfl)) (Yp (Yt (Yd0 hr.units (Yb (Yd0 hr.units (Yb (Ya4 (Yb (Yag Ya1 Ye1 rfl bl.Len PySem.boot_len (Yr (Yd 2) Yu))) (Yb Yg))) (Yb Yg))) (Yb (Yi (Yd 0) (Yb Yg)))))))
abbrev Yej:Stmt:=top 17
theorem Yrc:FnScope ["rule","evening","lit"] ["rule","evening","lit"] (defScope Yej):=⟨rfl,rfl,rfl,by decide +kernel,rfl,by decide +kernel,by decide +kernel⟩
theorem cs_if_holds_0:CompSc ["rule","evening","lit"] (defScope Yej) ["beacon","evening","lit"] [none,some 1,some 2] (fsc [(".0",.local),("beacon",.local),("evening",.free),("lit",.free)]):=y9 (by decide +kernel)
def Yek:Ro→Option D:=(mB (b2 (b2 (getC 1) (getC 0) ixD) (getC 2) (eqM true)))
def Yfu:Ro→Option Out:=(sSeq (sIf (b1 (cC (Yh (lF (Ybd (b1 (b2 (getC 0) (kD (.int 0)) ixD) Yn) [none,some 1,some 2] (gSet 0) tY (Yek))) aNil) anyC) truD) (sRet (kD (.bl true))) sNil) (sRet (andV (mB (b2 (b2 (getC 0) (kD (.int 1)) ixD) (kD .non) (isN true))) (mB (b2 (b2 (getC 1) (b2 (getC 0) (kD (.int 1)) ixD) ixD) (getC 2) (eqM false))))))
def Yd4:List D→Option D:=runB 3 3 Yfu
theorem Yrd(bl:Bl K w mg)  {a:Addr} {fd:FuncData} (F:Fun K "if_holds" "if_holds" Yej a fd) (hm:mg "if_holds"=some (.ref a)):Okf P w K mg base 1 3 "if_holds" ["rule","evening","lit"] Yd4:=by
 refine Yam F (F.binds fun _ _ _ _ _ _ us hl=>by obtain⟨_,_,_,rfl⟩:=len3 hl;rfl) hm (Ys (k:=0) F Yrc rfl rfl fun cdv A outer s H E hr=>?_)
 exact(Yk (Yak (Ybj (Yb (Yag (Yot rfl) Yv2 rfl bl.Any boot_any (Yr (Yb (Yae (Yal cs_if_holds_0 rfl (Yas (Yi (Yd 0) (Yb Yg))) (fun _ _ _ _ _=>(Yaa 0 cs_if_holds_0.nd)) (fun _ _ _ _ _=>Yaz) (fun _ _ _ _ _=>(Ysu hr.units (Yb (Yi (Yd 1) (Yd 0))) (Yd 2))) (Yaq (i:=0) rfl)))) Yu)))) (Yp (Yt Ycq)) Yab) (Yp (Yt (Yjz (Yzb (Yb (Yi (Yd 0) (Yb Yg))) (Yb Yee)) (Yg7 (Yd0 hr.units (Yb (Yi (Yd 1) (Yb (Yi (Yd 0) (Yb Yg))))) (Yd 2)))))))
abbrev Yel:Stmt:=top 18
theorem Ym8:FnScope ["kind","rule","evening"] ["kind","rule","evening"] (defScope Yel):=⟨rfl,rfl,rfl,by decide +kernel,rfl,by decide +kernel,by decide +kernel⟩
@[simp] def Ylb:Ro→Option Out:=(sRet (cC (Yh (getV 1) (Yh (getV 2) (Yh (mB (b2 (getC 0) (kD (.str "ifs")) (eqM false))) aNil))) Yd4))
@[simp] def Ylc:Ro→Option Out:=(sSeq (sIf (b2 (getC 0) (kD (.str "sums")) (eqM false)) (sRet (cC (Yh (getV 1) (Yh (getV 2) aNil)) Yda)) sNil) Ylb)
def Ycj:Ro→Option Out:=(sSeq (sIf (b2 (getC 0) (kD (.str "eithers")) (eqM false)) (sRet (cC (Yh (getV 1) (Yh (getV 2) aNil)) Ybk)) sNil) Ylc)
def Yck:List D→Option D:=runB 3 3 Ycj
theorem Ym9(bl:Bl K w mg)(xh:Okf P w K mg base 1 2 "either_holds" ["rule","evening"] Ybk)(uam:Okf P w K mg base 1 2 "sum_holds" ["rule","evening"] Yda)(ubh:Okf P w K mg base 1 3 "if_holds" ["rule","evening","lit"] Yd4){a:Addr}{fd:FuncData}(F:Fun K "rule_holds" "rule_holds" Yel a fd)(hm:mg "rule_holds"=some (.ref a)):Okf P w K mg base 2 3 "rule_holds" ["kind","rule","evening"] Yck:=by
 refine Yam F (F.binds fun _ _ _ _ _ _ us hl=>by obtain⟨_,_,_,rfl⟩:=len3 hl;rfl) hm (Ys (k:=1) F Ym8 rfl rfl fun cdv A outer s H E hr=>?_)
 exact(Yk (Yak (Yav hr.units (Yd 0) (Yb Yx)) (Yp (Yt (Yo xh hr rfl (Yc (Yj 1) (Yc (Yj 2) Yl)) (Ye (Ye (fun _ _ h=>Yq h)))))) Yab) (Yk (Yak (Yav hr.units (Yd 0) (Yb Yx)) (Yp (Yt (Yo uam hr rfl (Yc (Yj 1) (Yc (Yj 2) Yl)) (Ye (Ye (fun _ _ h=>Yq h)))))) Yab) (Yp (Yt (Yo ubh hr rfl (Yc (Yj 1) (Yc (Yj 2) (Yc (Yd0 hr.units (Yd 0) (Yb Yx)) Yl))) (Ye (Ye (Ye (fun _ _ h=>Yq h)))))))))
abbrev Ycu:Stmt:=top 21
theorem Yna:FnScope ["kind","rule"] ["kind","rule"] (defScope Ycu):=⟨rfl,rfl,rfl,by decide +kernel,rfl,by decide +kernel,by decide +kernel⟩
theorem cs_beacons_in_0:CompSc ["kind","rule"] (defScope Ycu) ["saying"] [none] (fsc [(".0",.local),("saying",.local)]):=y9 (by decide +kernel)
def Ydb:Ro→Option D:=(b2 (getC 0) (kD (.int 0)) ixD)
@[simp] def Yld:Ro→Option Out:=(sRet (lF (b2 (lF (cF (Yh (b2 (getC 1) (kD (.int 0)) ixD) aNil) Ymk)) (lF (dLst (Yh (b2 (getC 1) (kD (.int 1)) ixD) aNil))) catD)))
@[simp] def Yle:Ro→Option Out:=(sSeq (sIf (orT (b2 (getC 0) (kD (.str "sums")) (eqM false)) (b2 (b2 (getC 1) (kD (.int 1)) ixD) (kD .non) (isN false))) (sRet (lF (cF (Yh (b2 (getC 1) (kD (.int 0)) ixD) aNil) Ymk))) sNil) Yld)
def Ycl:Ro→Option Out:=(sSeq (sIf (b2 (getC 0) (kD (.str "eithers")) (eqM false)) (sRet (lF (Ybd (b1 (getV 1) Yn) [none] (gSet 0) tY (Ydb)))) sNil) Yle)
def Ycm:List D→Option D:=runB 2 2 Ycl
theorem Ynb(bl:Bl K w mg)  {a:Addr} {fd:FuncData} (F:Fun K "beacons_in" "beacons_in" Ycu a fd) (hm:mg "beacons_in"=some (.ref a)):Okf P w K mg base 1 2 "beacons_in" ["kind","rule"] Ycm:=by
 refine Yam F (F.binds fun _ _ _ _ _ _ us hl=>by obtain⟨_,_,rfl⟩:=len2 hl;rfl) hm (Ys (k:=0) F Yna rfl rfl fun cdv A outer s H E hr=>?_)
 exact(Yk (Yak (Yav hr.units (Yd 0) (Yb Yx)) (Yp (Yt (Yae (Yal cs_beacons_in_0 rfl (Yas (Yj 1)) (fun _ _ _ _ _=>(Yaa 0 cs_beacons_in_0.nd)) (fun _ _ _ _ _=>Yaz) (fun _ _ _ _ _=>(Yi (Yd 0) (Yb Yg))) (Yaq (i:=0) rfl))))) Yab) (Yk (Yak (Ydj (Yio (Yav hr.units (Yd 0) (Yb Yx)) (Yhv (Ywl (Yb (Yi (Yd 1) (Yb Yg))) (Yb Yee))))) (Yp (Yt (Yae (Yd1 Ycg Ygz rfl bl.List boot_list (Yr (Yb (Yi (Yd 1) (Yb Yg))) Yu))))) Yab) (Yp (Yt (Yae (Ywo (Yb (Yae (Yd1 Ycg Ygz rfl bl.List boot_list (Yr (Yb (Yi (Yd 1) (Yb Yg))) Yu)))) (Yb (Yae (Ygi (Yc (Yi (Yd 1) (Yb Yg)) Yl))))))))))
abbrev Yh8:Stmt:=top 22
theorem Yue:FnScope ["kind","rule"] ["kind","rule"] (defScope Yh8):=⟨rfl,rfl,rfl,by decide +kernel,rfl,by decide +kernel,by decide +kernel⟩
def Yke:Ro→Option Out:=(sRet (andV (mB (b2 (cC (Yh (cC (Yh (getV 0) (Yh (getV 1) aNil)) Ycm) aNil) lenC) (kD (.int 0)) (eqM false))) (notV (cC (Yh (getV 0) (Yh (getV 1) (Yh (dTup aNil) aNil))) Yck))))
def Yfe:List D→Option D:=runB 2 2 Yke
theorem Yuf(bl:Bl K w mg)(zm:Okf P w K mg base 1 2 "beacons_in" ["kind","rule"] Ycm)(zn:Okf P w K mg base 2 3 "rule_holds" ["kind","rule","evening"] Yck){a:Addr}{fd:FuncData}(F:Fun K "is_void" "is_void" Yh8 a fd)(hm:mg "is_void"=some (.ref a)):Okf P w K mg base 3 2 "is_void" ["kind","rule"] Yfe:=by
 refine Yam F (F.binds fun _ _ _ _ _ _ us hl=>by obtain⟨_,_,rfl⟩:=len2 hl;rfl) hm (Ys (k:=2) F Yue rfl rfl fun cdv A outer s H E hr=>?_)
 exact(Yp (Yt (Yjz (Yd0 hr.units (Yb (Yag Ya1 Ye1 rfl bl.Len PySem.boot_len (Yr (Yb (Yo zm hr rfl (Yc (Yj 0) (Yc (Yj 1) Yl)) (Ye (Ye (fun _ _ h=>Yq h))))) Yu))) (Yb Yg)) (Yg7 (y2t (Yo zn hr rfl (Yc (Yj 0) (Yc (Yj 1) (Yc (Yad Yl) Yl))) (Ye (Ye (Ye (fun _ _ h=>Yq h))))))))))
abbrev Ybz:Stmt:=top 25
theorem Ykf:FnScope ["hands","start","hand"] ["hands","start","hand"] (defScope Ybz):=⟨rfl,rfl,rfl,by decide +kernel,rfl,by decide +kernel,by decide +kernel⟩
theorem cs_beacons_with_0:CompSc ["hands","start","hand"] (defScope Ybz) ["beacon","hands","hand"] [none,some 0,some 2] (fsc [(".0",.local),("beacon",.local),("hand",.free),("hands",.free)]):=y9 (by decide +kernel)
def Yb9:Ro→Option Bool:=(b2 (b2 (getC 1) (getC 0) ixD) (getC 2) (eqM false))
def Yca:Ro→Option D:=(getV 0)
def Yf5:Ro→Option Out:=(sRet (lF (Ybd (cF (Yh (getV 1) (Yh (cC (Yh (getC 0) aNil) lenC) aNil)) rng2) [none,some 0,some 2] (gSet 0) (Yb9) (Yca))))
def y7:List D→Option D:=runB 3 3 Yf5
theorem Ykg(bl:Bl K w mg)  {a:Addr} {fd:FuncData} (F:Fun K "beacons_with" "beacons_with" Ybz a fd) (hm:mg "beacons_with"=some (.ref a)):Okf P w K mg base 1 3 "beacons_with" ["hands","start","hand"] y7:=by
 refine Yam F (F.binds fun _ _ _ _ _ _ us hl=>by obtain⟨_,_,_,rfl⟩:=len3 hl;rfl) hm (Ys (k:=0) F Ykf rfl rfl fun cdv A outer s H E hr=>?_)
 exact(Yp (Yt (Yae (Yal cs_beacons_with_0 rfl (Yt8 rfl bl.Range (Yc (Yj 1) (Yc (Yag Ya1 Ye1 rfl bl.Len PySem.boot_len (Yr (Yd 0) Yu)) Yl))) (fun _ _ _ _ _=>(Yaa 0 cs_beacons_with_0.nd)) (fun _ _ _ _ _=>(Yi7 (Yav hr.units (Yb (Yi (Yd 1) (Yd 0))) (Yd 2)))) (fun _ _ _ _ _=>(Yj 0)) (Yaq (i:=0) rfl)))))
abbrev Yff:Stmt:=top 26
theorem Ypd:FnScope ["numbers"] ["numbers"] (defScope Yff):=⟨rfl,rfl,rfl,by decide +kernel,rfl,by decide +kernel,by decide +kernel⟩
def Ykh:Ro→Option Out:=(sRet (mB (b2 (lF (cF (Yh (getC 0) aNil) Ymk)) (lF (Yfr (getC 0))) (eqM false))))
def Ybo:List D→Option D:=runB 1 1 Ykh
theorem Ype(bl:Bl K w mg)  {a:Addr} {fd:FuncData} (F:Fun K "is_rising" "is_rising" Yff a fd) (hm:mg "is_rising"=some (.ref a)):Okf P w K mg base 1 1 "is_rising" ["numbers"] Ybo:=by
 refine Yam F (F.binds fun _ _ _ _ _ _ us hl=>by obtain⟨_,rfl⟩:=len1 hl;rfl) hm (Ys (k:=0) F Ypd rfl rfl fun cdv A outer s H E hr=>?_)
 exact(Yp (Yt (Yd0 hr.units (Yb (Yae (Yd1 Ycg Ygz rfl bl.List boot_list (Yr (Yd 0) Yu)))) (Yb (Yae (Yj1 rfl rfl bl.Sorted rfl bl.Set (Yd 0)))))))
abbrev Ybe:Stmt:=top 28
theorem Yh9:FnScope ["rows"] ["rows"] (defScope Ybe):=⟨rfl,rfl,rfl,by decide +kernel,rfl,by decide +kernel,by decide +kernel⟩
theorem cs_rows_by_beacon_0:CompSc ["rows"] (defScope Ybe) ["row"] [none] (fsc [(".0",.local),("row",.local)]):=y9 (by decide +kernel)
def Ya5:Ro→Option D:=(dTup (Yh (b2 (getC 0) (kD (.int 0)) ixD) (Yh (getV 0) aNil)))
def Yev:Ro→Option Out:=(sRet (dctF (lF (Ybd (b1 (getV 0) Yn) [none] (gSet 0) tY (Ya5)))))
def Ya8:List D→Option D:=runB 1 1 Yev
theorem Yia(bl:Bl K w mg)  {a:Addr} {fd:FuncData} (F:Fun K "rows_by_beacon" "rows_by_beacon" Ybe a fd) (hm:mg "rows_by_beacon"=some (.ref a)):Okf P w K mg base 1 1 "rows_by_beacon" ["rows"] Ya8:=by
 refine Yam F (F.binds fun _ _ _ _ _ _ us hl=>by obtain⟨_,rfl⟩:=len1 hl;rfl) hm (Ys (k:=0) F Yh9 rfl rfl fun cdv A outer s H E hr=>?_)
 exact(Yp (Yt (y3a rfl rfl bl.Dict (Yb (Yae (Yal cs_rows_by_beacon_0 rfl (Yas (Yj 0)) (fun _ _ _ _ _=>(Yaa 0 cs_rows_by_beacon_0.nd)) (fun _ _ _ _ _=>Yaz) (fun _ _ _ _ _=>(Yad (Yc (Yi (Yd 0) (Yb Yg)) (Yc (Yj 0) Yl)))) (Yaq (i:=0) rfl)))))))
abbrev Ycv:Stmt:=top 33
theorem Ync:FnScope ["row","storms"] ["row","storms"] (defScope Ycv):=⟨rfl,rfl,rfl,by decide +kernel,rfl,by decide +kernel,by decide +kernel⟩
theorem cs_is_sum_row_0:CompSc ["row","storms"] (defScope Ycv) ["beacon","storms","row"] [none,some 1,some 0] (fsc [(".0",.local),("beacon",.local),("row",.free),("storms",.free)]):=y9 (by decide +kernel)
def Yb0:Ro→Option D:=(andV (mB (b2 (getC 0) (getC 1) (inM false))) (mB (b2 (getC 0) (b2 (getC 2) (kD (.int 0)) ixD) ltI)))
def Yfg:Ro→Option Out:=(sRet (andV (cC (Yh (b2 (getC 0) (kD (.int 1)) ixD) aNil) Ybo) (cC (Yh (lF (Ybd (b1 (b2 (getC 0) (kD (.int 1)) ixD) Yn) [none,some 1,some 0] (gSet 0) tY (Yb0))) aNil) allC)))
def Ycn:List D→Option D:=runB 2 2 Yfg
theorem Ynd(bl:Bl K w mg)(uk:Okf P w K mg base 1 1 "is_rising" ["numbers"] Ybo){a:Addr}{fd:FuncData}(F:Fun K "is_sum_row" "is_sum_row" Ycv a fd)(hm:mg "is_sum_row"=some (.ref a)):Okf P w K mg base 2 2 "is_sum_row" ["row","storms"] Ycn:=by
 refine Yam F (F.binds fun _ _ _ _ _ _ us hl=>by obtain⟨_,_,rfl⟩:=len2 hl;rfl) hm (Ys (k:=1) F Ync rfl rfl fun cdv A outer s H E hr=>?_)
 exact(Yp (Yt (Yjz (Yo uk hr rfl (Yc (Yi (Yd 0) (Yb Yg)) Yl) (Ye (fun _ _ h=>Yq h))) (Yg7 (Yag (Ych rfl) Ye2 rfl bl.All boot_all (Yr (Yb (Yae (Yal cs_is_sum_row_0 rfl (Yas (Yi (Yd 0) (Yb Yg))) (fun _ _ _ _ _=>(Yaa 0 cs_is_sum_row_0.nd)) (fun _ _ _ _ _=>Yaz) (fun _ _ _ _ _=>(Yjz (y0j hr.units (Yd 0) (Yd 1)) (Yg7 (y6d (Yd 0) (Yb (Yi (Yd 2) (Yb Yg))))))) (Yaq (i:=0) rfl)))) Yu))))))
abbrev Ygn:Stmt:=top 34
theorem sc_replaced:FnScope ["rule","sums","whole","beacon","row"] ["rule","sums"] (defScope Ygn):=⟨rfl,rfl,rfl,by decide +kernel,rfl,by decide +kernel,by decide +kernel⟩
def Yem:Ro→Option Out:=(sSeq (sSet 4 (b3 (getC 1) (getC 3) (dTup (Yh (getV 3) (Yh (dTup (Yh (getV 3) aNil)) (Yh (kD (.bl false)) aNil)))) Ymq)) (sSet 2 (cC (Yh (getV 2) (Yh (dTup (Yh (b2 (getC 4) (kD (.int 1)) ixD) (Yh (b2 (getC 4) (kD (.int 2)) ixD) aNil))) aNil)) Yaj)))
@[simp] def Ypf:Ro→Option Out:=(sRet (getV 2))
@[simp] def Ypg:Ro→Option Out:=(sSeq (sFor (b1 (b2 (getC 0) (kD (.int 0)) ixD) Yn) (gSet 3) Yem) Ypf)
def Yly:Ro→Option Out:=(sSeq (sSet 2 (dTup (Yh (dTup aNil) (Yh (kD (.bl false)) aNil)))) Ypg)
def Ybf:List D→Option D:=runB 2 5 Yly
theorem Yre(bl:Bl K w mg)(ud:Okf P w K mg base 1 2 "both_added" ["rule","other"] Yaj){a:Addr}{fd:FuncData}(F:Fun K "replaced" "replaced" Ygn a fd)(hm:mg "replaced"=some (.ref a)):Okf P w K mg base 2 2 "replaced" ["rule","sums"] Ybf:=by
 refine Yam F (F.binds fun _ _ _ _ _ _ us hl=>by obtain⟨_,_,rfl⟩:=len2 hl;rfl) hm (Ys (k:=1) F sc_replaced rfl rfl fun cdv A outer s H E hr=>?_)
 exact(Yk (y0 2 sc_replaced.nd (Yad (Yc (Yad Yl) (Yc Ycq Yl)))) (Yk (Yhw PassesOwn.never rfl (Yas (Yi (Yd 0) (Yb Yg))) (Yaa 3 sc_replaced.nd) (Yk (y0 4 sc_replaced.nd (Yo6 hr.units (Yd 1) (Yd 3) (Yad (Yc (Yj 3) (Yc (Yad (Yc (Yj 3) Yl)) (Yc Ycq Yl)))) ⟨rfl,rfl,rfl,rfl⟩)) (Yp (y0 2 sc_replaced.nd (Yo ud hr rfl (Yc (Yj 2) (Yc (Yad (Yc (Yi (Yd 4) (Yb Yg)) (Yc (Yi (Yd 4) (Yb Yg)) Yl))) Yl)) (Ye (Ye (fun _ _ h=>Yq h)))))))) (Yp (Yt (Yj 2)))))
abbrev Ybr:Stmt:=top 35
theorem sc_sums_good:FnScope ["rows","book","keepers","storms","sums"] ["rows","book","keepers","storms"] (defScope Ybr):=⟨rfl,rfl,rfl,by decide +kernel,rfl,by decide +kernel,by decide +kernel⟩
theorem cs_sums_good_0:CompSc ["rows","book","keepers","storms","sums"] (defScope Ybr) ["row"] [none] (fsc [(".0",.local),("row",.local)]):=y9 (by decide +kernel)
theorem cs_sums_good_1:CompSc ["rows","book","keepers","storms","sums"] (defScope Ybr) ["row","storms"] [none,some 3] (fsc [(".0",.local),("row",.local),("is_sum_row",.globalImplicit),("storms",.free)]):=y9 (by decide +kernel)
theorem cs_sums_good_2:CompSc ["rows","book","keepers","storms","sums"] (defScope Ybr) ["rule","sums"] [none,some 4] (fsc [(".0",.local),("rule",.local),("replaced",.globalImplicit),("sums",.free)]):=y9 (by decide +kernel)
def Ydr:Ro→Option D:=(b2 (getC 0) (kD (.int 0)) ixD)
def Yds:Ro→Option D:=(cC (Yh (getV 0) (Yh (getV 1) aNil)) Ycn)
def Ydt:Ro→Option D:=(mB (b2 (cC (Yh (getV 0) (Yh (getV 1) aNil)) Ybf) (dTup (Yh (dTup aNil) (Yh (b2 (getC 0) (kD (.int 1)) ixD) aNil))) (eqM false)))
@[simp] def Yne:Ro→Option Out:=(sRet (cC (Yh (lF (Ybd (b1 (b2 (getC 1) (kD (.int 1)) ixD) Yn) [none,some 4] (gSet 0) tY (Ydt))) aNil) allC))
@[simp] def Ynf:Ro→Option Out:=(sSeq (sSet 4 (cC (Yh (getV 0) aNil) Ya8)) Yne)
def Yen:Ro→Option Out:=(sSeq (sIf (orT (b2 (lF (Ybd (b1 (getV 0) Yn) [none] (gSet 0) tY (Ydr))) (getC 2) (eqM true)) (notT (b1 (cC (Yh (lF (Ybd (b1 (getV 0) Yn) [none,some 3] (gSet 0) tY (Yds))) aNil) allC) truD))) (sRet (kD (.bl false))) sNil) Ynf)
def Ybp:List D→Option D:=runB 4 5 Yen
theorem Yph(bl:Bl K w mg)(zo:Okf P w K mg base 2 2 "is_sum_row" ["row","storms"] Ycn)(vk:Okf P w K mg base 1 1 "rows_by_beacon" ["rows"] Ya8)(up:Okf P w K mg base 2 2 "replaced" ["rule","sums"] Ybf){a:Addr}{fd:FuncData}(F:Fun K "sums_good" "sums_good" Ybr a fd)(hm:mg "sums_good"=some (.ref a)):Okf P w K mg base 3 4 "sums_good" ["rows","book","keepers","storms"] Ybp:=by
 refine Yam F (F.binds fun _ _ _ _ _ _ us hl=>by obtain⟨_,_,_,_,rfl⟩:=len4 hl;rfl) hm (Ys (k:=2) F sc_sums_good rfl rfl fun cdv A outer s H E hr=>?_)
 exact(Yk (Yak (Ydj (Yio (Ysv hr.units (Yb (Yae (Yal cs_sums_good_0 rfl (Yas (Yj 0)) (fun _ _ _ _ _=>(Yaa 0 cs_sums_good_0.nd)) (fun _ _ _ _ _=>Yaz) (fun _ _ _ _ _=>(Yi (Yd 0) (Yb Yg))) (Yaq (i:=0) rfl)))) (Yd 2)) (Yhv (Ye7 (Ybj (Yb (Yag (Ych rfl) Ye2 rfl bl.All boot_all (Yr (Yb (Yae (Yal cs_sums_good_1 rfl (Yas (Yj 0)) (fun _ _ _ _ _=>(Yaa 0 cs_sums_good_1.nd)) (fun _ _ _ _ _=>Yaz) (fun _ _ _ _ _=>(Yo zo hr rfl (Yc (Yj 0) (Yc (Yj 1) Yl)) (Ye (Ye (fun _ _ h=>Yq h))))) (Yaq (i:=0) rfl)))) Yu)))))))) (Yp (Yt Ycq)) Yab) (Yk (y0 4 sc_sums_good.nd (Yo vk hr rfl (Yc (Yj 0) Yl) (Ye (fun _ _ h=>Yq h)))) (Yp (Yt (Yag (Ych rfl) Ye2 rfl bl.All boot_all (Yr (Yb (Yae (Yal cs_sums_good_2 rfl (Yas (Yi (Yd 1) (Yb Yg))) (fun _ _ _ _ _=>(Yaa 0 cs_sums_good_2.nd)) (fun _ _ _ _ _=>Yaz) (fun _ _ _ _ _=>(Yd0 hr.units (Yb (Yo up hr rfl (Yc (Yj 0) (Yc (Yj 1) Yl)) (Ye (Ye (fun _ _ h=>Yq h))))) (Yb (Yad (Yc (Yad Yl) (Yc (Yi (Yd 0) (Yb Yg)) Yl)))))) (Yaq (i:=0) rfl)))) Yu))))))
abbrev Yce:Stmt:=top 41
theorem sc_keeper_good:FnScope ["paper","book","hands","start","keepers","storms"] ["paper","book","hands","start"] (defScope Yce):=⟨rfl,rfl,rfl,by decide +kernel,rfl,by decide +kernel,by decide +kernel⟩
def Yhc(rec:List D→Option D):Ro→Option Out:=(sSeq (sIf (b2 (b2 (getC 1) (kD (.int 0)) ixD) (kD (.str "nots")) (eqM false)) nS sNil) (sSeq (sSet 4 (cC (Yh (getV 2) (Yh (getV 3) (Yh (kD (.str "keeper")) aNil))) y7)) (sSeq (sSet 5 (cC (Yh (getV 2) (Yh (getV 3) (Yh (kD (.str "storm")) aNil))) y7)) (sSeq (sIf (andT (b2 (b2 (getC 0) (kD (.int 0)) ixD) (kD (.str "plan")) (eqM false)) (b2 (b2 (getC 1) (kD (.int 0)) ixD) (kD (.str "eithers")) (eqM false))) nS sNil) (sSeq (sIf (andT (b2 (b2 (getC 0) (kD (.int 0)) ixD) (kD (.str "sums")) (eqM false)) (b2 (b2 (getC 1) (kD (.int 0)) ixD) (kD (.str "sums")) (eqM false))) (sRet (cC (Yh (b2 (getC 0) (kD (.int 1)) ixD) (Yh (getV 1) (Yh (getV 4) (Yh (getV 5) aNil)))) Ybp)) sNil) (sSeq (sIf (andT (b2 (b2 (getC 0) (kD (.int 0)) ixD) (kD (.str "rows")) (eqM false)) (b2 (b2 (getC 1) (kD (.int 0)) ixD) (kD (.str "ifs")) (eqM false))) nS sNil) (sRet (kD (.bl false)))))))))
def Ya9:Nat→List D→Option D
 | 0=>fun _=>none
 | k+1=>runB 4 6 (Yhc (Ya9 k))
def Ybg:List D→Option D:=Ya9 12
theorem Yki(bl:Bl K w mg)(ua:Okf P w K mg base 1 3 "beacons_with" ["hands","start","hand"] y7)(ul:Okf P w K mg base 3 4 "sums_good" ["rows","book","keepers","storms"] Ybp){k j:Nat}(rc:Okf P w K mg base k 4 "keeper_good" ["paper","book","hands","start"] (Ya9 j))(hk:3≤k){a:Addr}{fd:FuncData}(F:Fun K "keeper_good" "keeper_good" Yce a fd)(hm:mg "keeper_good"=some (.ref a)):Okf P w K mg base (k+1) 4 "keeper_good" ["paper","book","hands","start"] (Ya9 (j+1)):=by
 refine Yam F (F.binds fun _ _ _ _ _ _ us hl=>by obtain⟨_,_,_,_,rfl⟩:=len4 hl;rfl) hm (Ys (k:=k) F sc_keeper_good rfl rfl fun cdv A outer s H E hr=>?_)
 exact(Yk (Yak (Yav hr.units (Yb (Yi (Yd 1) (Yb Yg))) (Yb Yx)) (Yp Yc8) Yab) (Yk (y0 4 sc_keeper_good.nd (Yo ua hr rfl (Yc (Yj 2) (Yc (Yj 3) (Yc Yx Yl))) (Ye (Ye (Ye (fun _ _ h=>Yq h)))))) (Yk (y0 5 sc_keeper_good.nd (Yo ua hr rfl (Yc (Yj 2) (Yc (Yj 3) (Yc Yx Yl))) (Ye (Ye (Ye (fun _ _ h=>Yq h)))))) (Yk (Yak (Ydj (Ye6 (Yav hr.units (Yb (Yi (Yd 0) (Yb Yg))) (Yb Yx)) (Ydi (Yav hr.units (Yb (Yi (Yd 1) (Yb Yg))) (Yb Yx))))) (Yp Yc8) Yab) (Yk (Yak (Ydj (Ye6 (Yav hr.units (Yb (Yi (Yd 0) (Yb Yg))) (Yb Yx)) (Ydi (Yav hr.units (Yb (Yi (Yd 1) (Yb Yg))) (Yb Yx))))) (Yp (Yt (Yo ul hr rfl (Yc (Yi (Yd 0) (Yb Yg)) (Yc (Yj 1) (Yc (Yj 4) (Yc (Yj 5) Yl)))) (Ye (Ye (Ye (Ye (fun _ _ h=>Yq h)))))))) Yab) (Yk (Yak (Ydj (Ye6 (Yav hr.units (Yb (Yi (Yd 0) (Yb Yg))) (Yb Yx)) (Ydi (Yav hr.units (Yb (Yi (Yd 1) (Yb Yg))) (Yb Yx))))) (Yp Yc8) Yab) (Yp (Yt Ycq))))))))
theorem Ylf(bl:Bl K w mg)(ua:Okf P w K mg base 1 3 "beacons_with" ["hands","start","hand"] y7)(ul:Okf P w K mg base 3 4 "sums_good" ["rows","book","keepers","storms"] Ybp){a:Addr}{fd:FuncData}(F:Fun K "keeper_good" "keeper_good" Yce a fd)(hm:mg "keeper_good"=some (.ref a)):Okf P w K mg base 15 4 "keeper_good" ["paper","book","hands","start"] Ybg:=by
 have all:∀j,Okf P w K mg base (3+j) 4 "keeper_good" ["paper","book","hands","start"] (Ya9 j):=fun j=>by
  induction j with
  | zero=>exact Ymm F (F.binds fun _ _ _ _ _ _ us hl=>by obtain⟨_,_,_,_,rfl⟩:=len4 hl;rfl) hm rfl
  | succ j ih=>exact Yki bl ua ul ih (Nat.le_add_right _ _) F hm
 exact all 12
abbrev Ydu:Stmt:=top 43
theorem Ylg:FnScope ["pair"] ["pair"] (defScope Ydu):=⟨rfl,rfl,rfl,by decide +kernel,rfl,by decide +kernel,by decide +kernel⟩
def Yhd:Ro→Option Out:=(sRet (b2 (b2 (b2 (getC 0) (kD (.int 1)) ixD) (kD (.int 0)) ixD) (b1 (kD (.int 1)) negI) ixD))
def Ya6:List D→Option D:=runB 1 1 Yhd
theorem Ylh(bl:Bl K w mg)  {a:Addr} {fd:FuncData} (F:Fun K "last_beacon" "last_beacon" Ydu a fd) (hm:mg "last_beacon"=some (.ref a)):Okf P w K mg base 1 1 "last_beacon" ["pair"] Ya6:=by
 refine Yam F (F.binds fun _ _ _ _ _ _ us hl=>by obtain⟨_,rfl⟩:=len1 hl;rfl) hm (Ys (k:=0) F Ylg rfl rfl fun cdv A outer s H E hr=>?_)
 exact(Yp (Yt (Yi (Yb (Yi (Yb (Yi (Yd 0) (Yb Yg))) (Yb Yg))) (Yb (Yhy (Yb Yg))))))
abbrev Ybm:Stmt:=top 44
theorem sc_storms_places:FnScope ["pairs","void","storms","lost"] ["pairs","void","storms"] (defScope Ybm):=⟨rfl,rfl,rfl,by decide +kernel,rfl,by decide +kernel,by decide +kernel⟩
theorem cs_storms_places_0:CompSc ["pairs","void","storms","lost"] (defScope Ybm) ["pair","storms"] [none,some 2] (fsc [(".0",.local),("pair",.local),("last_beacon",.globalImplicit),("storms",.free)]):=y9 (by decide +kernel)
def Yb1:Ro→Option Bool:=(b2 (cC (Yh (getV 0) aNil) Ya6) (getC 1) (inM false))
def Yb2:Ro→Option D:=(b2 (getC 0) (kD (.int 0)) ixD)
@[simp] def Yib:Ro→Option Out:=(sRet (ifV (b1 (getC 3) truD) (b2 (getC 3) (kD (.int 0)) ixD) (kD .non)))
@[simp] def Yic:Ro→Option Out:=(sSeq (sOwn 3 (Ybd (b1 (getV 0) Yn) [none,some 2] (gSet 0) (Yb1) (Yb2))) Yib)
def Yb3:Ro→Option Out:=(sSeq (sIf (b2 (getC 1) (kD .non) (isN true)) (sRet (getV 1)) sNil) Yic)
def Yat:List D→Option D:=runB 3 4 Yb3
theorem Yi0(bl:Bl K w mg)(ug:Okf P w K mg base 1 1 "last_beacon" ["pair"] Ya6){a:Addr}{fd:FuncData}(F:Fun K "storms_places" "storms_places" Ybm a fd)(hm:mg "storms_places"=some (.ref a)):Okf P w K mg base 2 3 "storms_places" ["pairs","void","storms"] Yat:=by
 refine Yam F (F.binds fun _ _ _ _ _ _ us hl=>by obtain⟨_,_,_,rfl⟩:=len3 hl;rfl) hm (Ys (k:=1) F sc_storms_places rfl rfl fun cdv A outer s H E hr=>?_)
 exact(Yk (Yak (Ysw (Yd 1) (Yb Yee)) (Yp (Yt (Yj 1))) Yab) (Yk (Ymz 3 sc_storms_places.nd cs_storms_places_0 rfl (Yas (Yj 0)) (fun _ _ _ _ _=>(Yaa 0 cs_storms_places_0.nd)) (fun _ _ _ _ _=>(Yi7 (y0k hr.units (Yb (Yo ug hr rfl (Yc (Yj 0) Yl) (Ye (fun _ _ h=>Yq h)))) (Yd 1)))) (fun _ _ _ _ _=>(Yi (Yd 0) (Yb Yg))) (Yaq (i:=0) rfl)) (Yp (Yt (y6f (Ybj (Yd 3)) (Yi (Yd 3) (Yb Yg)) Yee)))))
abbrev Ydc:Stmt:=top 45
theorem sc_sum_rows:FnScope ["pairs","keepers","rules","rows","keeper","rule","rest"] ["pairs","keepers"] (defScope Ydc):=⟨rfl,rfl,rfl,by decide +kernel,rfl,by decide +kernel,by decide +kernel⟩
theorem cs_sum_rows_0:CompSc ["pairs","keepers","rules","rows","keeper","rule","rest"] (defScope Ydc) ["pair"] [none] (fsc [(".0",.local),("pair",.local),("last_beacon",.globalImplicit)]):=y9 (by decide +kernel)
theorem cs_sum_rows_1:CompSc ["pairs","keepers","rules","rows","keeper","rule","rest"] (defScope Ydc) ["keeper","rows"] [none,some 3] (fsc [(".0",.local),("keeper",.local),("rows",.free)]):=y9 (by decide +kernel)
def Yb4:Ro→Option D:=(dTup (Yh (cC (Yh (getV 0) aNil) Ya6) (Yh (b2 (getC 0) (kD (.int 1)) ixD) aNil)))
def Ycw:Ro→Option Out:=(sSeq (sSet 5 (b3 (getC 2) (getC 4) (dTup (Yh (dTup (Yh (getV 4) aNil)) (Yh (kD (.bl false)) aNil))) Ymq)) (sSeq (sSet 6 (Yk6 [3] (cC (Yh (dTup (Yh (slD (b2 (getC 5) (kD (.int 0)) ixD) none (some (b1 (kD (.int 1)) negI))) (Yh (kD (.bl false)) aNil))) (Yh (getV 3) aNil)) Ybf))) (Ytv 3 (getC 4) (dTup (Yh (getV 4) (Yh (b2 (getC 6) (kD (.int 0)) ixD) (Yh (mB (b2 (b2 (getC 6) (kD (.int 1)) ixD) (b2 (getC 5) (kD (.int 1)) ixD) (eqM true))) aNil)))))))
def Yeo:Ro→Option D:=(b2 (getC 1) (getC 0) getI)
@[simp] def Ydl:Ro→Option Out:=(wF [3] (sRet (cC (Yh (lF (Ybd (b1 (getV 1) Yn) [none,some 3] (gSet 0) tY (Yeo))) aNil) tupC)))
@[simp] def Ypi:Ro→Option Out:=(sSeq (sFor (b1 (getV 1) Yn) (gSet 4) Ycw) Ydl)
@[simp] def Ypj:Ro→Option Out:=(sSeq (Yts 3) Ypi)
def Ylz:Ro→Option Out:=(sSeq (sDct 2 (lF (Ybd (b1 (getV 0) Yn) [none] (gSet 0) tY (Yb4)))) Ypj)
def Yd5:List D→Option D:=runB 2 7 Ylz
theorem Yrf(bl:Bl K w mg)(ug:Okf P w K mg base 1 1 "last_beacon" ["pair"] Ya6)(up:Okf P w K mg base 2 2 "replaced" ["rule","sums"] Ybf){a:Addr}{fd:FuncData}(F:Fun K "sum_rows" "sum_rows" Ydc a fd)(hm:mg "sum_rows"=some (.ref a)):Okf P w K mg base 3 2 "sum_rows" ["pairs","keepers"] Yd5:=by
 refine Yam F (F.binds fun _ _ _ _ _ _ us hl=>by obtain⟨_,_,rfl⟩:=len2 hl;rfl) hm (Ys (k:=2) F sc_sum_rows rfl rfl fun cdv A outer s H E hr=>?_)
 exact(Yk (y2w rfl 2 sc_sum_rows.nd rfl bl.Dict (Yb (Yae (Yal cs_sum_rows_0 rfl (Yas (Yj 0)) (fun _ _ _ _ _=>(Yaa 0 cs_sum_rows_0.nd)) (fun _ _ _ _ _=>Yaz) (fun _ _ _ _ _=>(Yad (Yc (Yo ug hr rfl (Yc (Yj 0) Yl) (Ye (fun _ _ h=>Yq h))) (Yc (Yi (Yd 0) (Yb Yg)) Yl)))) (Yaq (i:=0) rfl))))) (Yk (Ysx 3 sc_sum_rows.nd) (Yk (Yhw PassesOwn.never rfl (Yas (Yj 1)) (Yaa 4 sc_sum_rows.nd) (Yk (y0 5 sc_sum_rows.nd (Yo6 hr.units (Yd 2) (Yd 4) (Yad (Yc (Yad (Yc (Yj 4) Yl)) (Yc Ycq Yl))) ⟨rfl,rfl,rfl,rfl⟩)) (Yk (y0 6 sc_sum_rows.nd (Yo5 [3] (Yo up hr rfl (Yc (Yad (Yc (Ywq (fl:=none) (fh:=(some (b1 (kD (.int 1)) negI))) (Yb (Yi (Yd 5) (Yb Yg))) Ywm (Yo4 (Yb (Yhy (Yb Yg))))) (Yc Ycq Yl))) (Yc (Yj 3) Yl)) (Ye (Ye (fun _ _ h=>Yq h)))))) (Yp (Ysy hr.units 3 (Yd 4) (Yad (Yc (Yj 4) (Yc (Yi (Yd 6) (Yb Yg)) (Yc (Ysu hr.units (Yb (Yi (Yd 6) (Yb Yg))) (Yb (Yi (Yd 5) (Yb Yg)))) Yl))))))))) (Yp (Ymx [3] (Yt (Yaw Yah Yc6 rfl bl.Tuple boot_tuple (Yr (Yb (Yae (Yal cs_sum_rows_1 rfl (Yas (Yj 1)) (fun _ _ _ _ _=>(Yaa 0 cs_sum_rows_1.nd)) (fun _ _ _ _ _=>Yaz) (fun _ _ _ _ _=>(Ym1 hr.units (Yd 1) (Yd 0))) (Yaq (i:=0) rfl)))) Yu))))))))
abbrev Ydv:Stmt:=top 46
theorem sc_sum_outcome:FnScope ["book","hands","start","keepers","storms","answer","places"] ["book","hands","start"] (defScope Ydv):=⟨rfl,rfl,rfl,by decide +kernel,rfl,by decide +kernel,by decide +kernel⟩
@[simp] def Ykj:Ro→Option Out:=(sRet (dTup (Yh (kD (.str "keeper")) (Yh (dTup (Yh (kD (.str "sums")) (Yh (cC (Yh (b2 (getC 5) (kD (.int 0)) ixD) (Yh (getV 3) aNil)) Yd5) aNil))) aNil))))
@[simp] def Ykk:Ro→Option Out:=(sSeq (sIf (b2 (getC 6) (kD .non) (isN true)) (sRet (dTup (Yh (kD (.str "storm")) (Yh (dTup (Yh (kD (.str "odd")) (Yh (getV 6) aNil))) aNil)))) sNil) Ykj)
@[simp] def Ykl:Ro→Option Out:=(sSeq (sSet 6 (cC (Yh (b2 (getC 5) (kD (.int 0)) ixD) (Yh (b2 (getC 5) (kD (.int 1)) ixD) (Yh (getV 4) aNil))) Yat)) Ykk)
@[simp] def Ykm:Ro→Option Out:=(sSeq (sSet 5 (cC (Yh (getV 0) aNil) Yd3)) Ykl)
@[simp] def Ykn:Ro→Option Out:=(sSeq (sSet 4 (cC (Yh (getV 1) (Yh (getV 2) (Yh (kD (.str "storm")) aNil))) y7)) Ykm)
def Yep:Ro→Option Out:=(sSeq (sSet 3 (cC (Yh (getV 1) (Yh (getV 2) (Yh (kD (.str "keeper")) aNil))) y7)) Ykn)
def Yai:List D→Option D:=runB 3 7 Yep
theorem Yli(bl:Bl K w mg)(ua:Okf P w K mg base 1 3 "beacons_with" ["hands","start","hand"] y7)(ucd:Okf P w K mg base 4 1 "reduced" ["book"] Yd3)(vq:Okf P w K mg base 2 3 "storms_places" ["pairs","void","storms"] Yat)(ubi:Okf P w K mg base 3 2 "sum_rows" ["pairs","keepers"] Yd5){a:Addr}{fd:FuncData}(F:Fun K "sum_outcome" "sum_outcome" Ydv a fd)(hm:mg "sum_outcome"=some (.ref a)):Okf P w K mg base 5 3 "sum_outcome" ["book","hands","start"] Yai:=by
 refine Yam F (F.binds fun _ _ _ _ _ _ us hl=>by obtain⟨_,_,_,rfl⟩:=len3 hl;rfl) hm (Ys (k:=4) F sc_sum_outcome rfl rfl fun cdv A outer s H E hr=>?_)
 exact(Yk (y0 3 sc_sum_outcome.nd (Yo ua hr rfl (Yc (Yj 1) (Yc (Yj 2) (Yc Yx Yl))) (Ye (Ye (Ye (fun _ _ h=>Yq h)))))) (Yk (y0 4 sc_sum_outcome.nd (Yo ua hr rfl (Yc (Yj 1) (Yc (Yj 2) (Yc Yx Yl))) (Ye (Ye (Ye (fun _ _ h=>Yq h)))))) (Yk (y0 5 sc_sum_outcome.nd (Yo ucd hr rfl (Yc (Yj 0) Yl) (Ye (fun _ _ h=>Yq h)))) (Yk (y0 6 sc_sum_outcome.nd (Yo vq hr rfl (Yc (Yi (Yd 5) (Yb Yg)) (Yc (Yi (Yd 5) (Yb Yg)) (Yc (Yj 4) Yl))) (Ye (Ye (Ye (fun _ _ h=>Yq h)))))) (Yk (Yak (Ysw (Yd 6) (Yb Yee)) (Yp (Yt (Yad (Yc Yx (Yc (Yad (Yc Yx (Yc (Yj 6) Yl))) Yl))))) Yab) (Yp (Yt (Yad (Yc Yx (Yc (Yad (Yc Yx (Yc (Yo ubi hr rfl (Yc (Yi (Yd 5) (Yb Yg)) (Yc (Yj 3) Yl)) (Ye (Ye (fun _ _ h=>Yq h)))) Yl))) Yl))))))))))
abbrev Ygo:Stmt:=top 48
theorem Yrg:FnScope ["book","place"] ["book","place"] (defScope Ygo):=⟨rfl,rfl,rfl,by decide +kernel,rfl,by decide +kernel,by decide +kernel⟩
def Yl0:Ro→Option Out:=(sRet (mB (ch3 (kD (.int 0)) (getC 1) (cC (Yh (b2 (getC 0) (kD (.int 1)) ixD) aNil) lenC) leI ltI)))
def Yd6:List D→Option D:=runB 2 2 Yl0
theorem Yrh(bl:Bl K w mg)  {a:Addr} {fd:FuncData} (F:Fun K "is_place" "is_place" Ygo a fd) (hm:mg "is_place"=some (.ref a)):Okf P w K mg base 1 2 "is_place" ["book","place"] Yd6:=by
 refine Yam F (F.binds fun _ _ _ _ _ _ us hl=>by obtain⟨_,_,rfl⟩:=len2 hl;rfl) hm (Ys (k:=0) F Yrg rfl rfl fun cdv A outer s H E hr=>?_)
 exact(Yp (Yt (Ywp y7q Ymg y06 Ymg (Yb Yg) (Yd 1) (Yb (Yag Ya1 Ye1 rfl bl.Len PySem.boot_len (Yr (Yb (Yi (Yd 0) (Yb Yg))) Yu))))))
abbrev Yeq:Stmt:=top 59
theorem sc_odd_good:FnScope ["places","book","storms","whole"] ["places","book","storms"] (defScope Yeq):=⟨rfl,rfl,rfl,by decide +kernel,rfl,by decide +kernel,by decide +kernel⟩
theorem cs_odd_good_0:CompSc ["places","book","storms","whole"] (defScope Yeq) ["place","book"] [none,some 1] (fsc [(".0",.local),("place",.local),("is_place",.globalImplicit),("book",.free)]):=y9 (by decide +kernel)
def Yer:Ro→Option D:=(cC (Yh (getV 1) (Yh (getV 0) aNil)) Yd6)
@[simp] def Ypk:Ro→Option Out:=(sRet (cC (Yh (b2 (getC 1) (kD (.int 0)) ixD) (Yh (getV 3) aNil)) Yfe))
@[simp] def Ypl:Ro→Option Out:=(sSeq (sIf (b1 (b2 (getC 3) (kD (.int 0)) ixD) truD) (sRet (mB (b2 (b2 (b2 (getC 3) (kD (.int 0)) ixD) (b1 (kD (.int 1)) negI) ixD) (getC 2) (inM false)))) sNil) Ypk)
@[simp] def Ypm:Ro→Option Out:=(sSeq (sSet 3 (cC (Yh (getV 1) (Yh (getV 0) aNil)) Yh6)) Ypl)
def Yid:Ro→Option Out:=(sSeq (sIf (orT (notT (b1 (cC (Yh (getV 0) aNil) Ybo) truD)) (notT (b1 (cC (Yh (lF (Ybd (b1 (getV 0) Yn) [none,some 1] (gSet 0) tY (Yer))) aNil) allC) truD))) (sRet (kD (.bl false))) sNil) Ypm)
def Yc0:List D→Option D:=runB 3 4 Yid
theorem Yri(bl:Bl K w mg)(uk:Okf P w K mg base 1 1 "is_rising" ["numbers"] Ybo)(ubj:Okf P w K mg base 1 2 "is_place" ["book","place"] Yd6)(ucz:Okf P w K mg base 2 2 "added" ["book","places"] Yh6)(uce:Okf P w K mg base 3 2 "is_void" ["kind","rule"] Yfe){a:Addr}{fd:FuncData}(F:Fun K "odd_good" "odd_good" Yeq a fd)(hm:mg "odd_good"=some (.ref a)):Okf P w K mg base 4 3 "odd_good" ["places","book","storms"] Yc0:=by
 refine Yam F (F.binds fun _ _ _ _ _ _ us hl=>by obtain⟨_,_,_,rfl⟩:=len3 hl;rfl) hm (Ys (k:=3) F sc_odd_good rfl rfl fun cdv A outer s H E hr=>?_)
 exact(Yk (Yak (Ydj (Yio (Ye7 (Ybj (Yb (Yo uk hr rfl (Yc (Yj 0) Yl) (Ye (fun _ _ h=>Yq h)))))) (Yhv (Ye7 (Ybj (Yb (Yag (Ych rfl) Ye2 rfl bl.All boot_all (Yr (Yb (Yae (Yal cs_odd_good_0 rfl (Yas (Yj 0)) (fun _ _ _ _ _=>(Yaa 0 cs_odd_good_0.nd)) (fun _ _ _ _ _=>Yaz) (fun _ _ _ _ _=>(Yo ubj hr rfl (Yc (Yj 1) (Yc (Yj 0) Yl)) (Ye (Ye (fun _ _ h=>Yq h))))) (Yaq (i:=0) rfl)))) Yu)))))))) (Yp (Yt Ycq)) Yab) (Yk (y0 3 sc_odd_good.nd (Yo ucz hr rfl (Yc (Yj 1) (Yc (Yj 0) Yl)) (Ye (Ye (fun _ _ h=>Yq h))))) (Yk (Yak (Ybj (Yb (Yi (Yd 3) (Yb Yg)))) (Yp (Yt (y0j hr.units (Yb (Yi (Yb (Yi (Yd 3) (Yb Yg))) (Yb (Yhy (Yb Yg))))) (Yd 2)))) Yab) (Yp (Yt (Yo uce hr rfl (Yc (Yi (Yd 1) (Yb Yg)) (Yc (Yj 3) Yl)) (Ye (Ye (fun _ _ h=>Yq h)))))))))
abbrev Ycx:Stmt:=top 65
theorem sc_storm_good:FnScope ["paper","book","hands","start","keepers","storms"] ["paper","book","hands","start"] (defScope Ycx):=⟨rfl,rfl,rfl,by decide +kernel,rfl,by decide +kernel,by decide +kernel⟩
def Yir(rec:List D→Option D):Ro→Option Out:=(sSeq (sIf (b2 (b2 (getC 1) (kD (.int 0)) ixD) (kD (.str "nots")) (eqM false)) nS sNil) (sSeq (sSet 4 (cC (Yh (getV 2) (Yh (getV 3) (Yh (kD (.str "keeper")) aNil))) y7)) (sSeq (sSet 5 (cC (Yh (getV 2) (Yh (getV 3) (Yh (kD (.str "storm")) aNil))) y7)) (sSeq (sIf (b2 (b2 (getC 0) (kD (.int 0)) ixD) (kD (.str "broken")) (eqM false)) nS sNil) (sSeq (sIf (b2 (b2 (getC 1) (kD (.int 0)) ixD) (kD (.str "eithers")) (eqM false)) nS sNil) (sSeq (sIf (andT (b2 (b2 (getC 0) (kD (.int 0)) ixD) (kD (.str "odd")) (eqM false)) (b2 (b2 (getC 1) (kD (.int 0)) ixD) (kD (.str "sums")) (eqM false))) (sRet (cC (Yh (b2 (getC 0) (kD (.int 1)) ixD) (Yh (getV 1) (Yh (getV 5) aNil))) Yc0)) sNil) (sSeq (sIf (andT (b2 (b2 (getC 0) (kD (.int 0)) ixD) (kD (.str "lone")) (eqM false)) (b2 (b2 (getC 1) (kD (.int 0)) ixD) (kD (.str "ifs")) (eqM false))) nS sNil) (sRet (kD (.bl false))))))))))
def Ybh:Nat→List D→Option D
 | 0=>fun _=>none
 | k+1=>runB 4 6 (Yir (Ybh k))
def Ybs:List D→Option D:=Ybh 12
theorem Ylj(bl:Bl K w mg)(ua:Okf P w K mg base 1 3 "beacons_with" ["hands","start","hand"] y7)(uq:Okf P w K mg base 4 3 "odd_good" ["places","book","storms"] Yc0){k j:Nat}(rc:Okf P w K mg base k 4 "storm_good" ["paper","book","hands","start"] (Ybh j))(hk:4≤k){a:Addr}{fd:FuncData}(F:Fun K "storm_good" "storm_good" Ycx a fd)(hm:mg "storm_good"=some (.ref a)):Okf P w K mg base (k+1) 4 "storm_good" ["paper","book","hands","start"] (Ybh (j+1)):=by
 refine Yam F (F.binds fun _ _ _ _ _ _ us hl=>by obtain⟨_,_,_,_,rfl⟩:=len4 hl;rfl) hm (Ys (k:=k) F sc_storm_good rfl rfl fun cdv A outer s H E hr=>?_)
 exact(Yk (Yak (Yav hr.units (Yb (Yi (Yd 1) (Yb Yg))) (Yb Yx)) (Yp Yc8) Yab) (Yk (y0 4 sc_storm_good.nd (Yo ua hr rfl (Yc (Yj 2) (Yc (Yj 3) (Yc Yx Yl))) (Ye (Ye (Ye (fun _ _ h=>Yq h)))))) (Yk (y0 5 sc_storm_good.nd (Yo ua hr rfl (Yc (Yj 2) (Yc (Yj 3) (Yc Yx Yl))) (Ye (Ye (Ye (fun _ _ h=>Yq h)))))) (Yk (Yak (Yav hr.units (Yb (Yi (Yd 0) (Yb Yg))) (Yb Yx)) (Yp Yc8) Yab) (Yk (Yak (Yav hr.units (Yb (Yi (Yd 1) (Yb Yg))) (Yb Yx)) (Yp Yc8) Yab) (Yk (Yak (Ydj (Ye6 (Yav hr.units (Yb (Yi (Yd 0) (Yb Yg))) (Yb Yx)) (Ydi (Yav hr.units (Yb (Yi (Yd 1) (Yb Yg))) (Yb Yx))))) (Yp (Yt (Yo uq hr rfl (Yc (Yi (Yd 0) (Yb Yg)) (Yc (Yj 1) (Yc (Yj 5) Yl))) (Ye (Ye (Ye (fun _ _ h=>Yq h))))))) Yab) (Yk (Yak (Ydj (Ye6 (Yav hr.units (Yb (Yi (Yd 0) (Yb Yg))) (Yb Yx)) (Ydi (Yav hr.units (Yb (Yi (Yd 1) (Yb Yg))) (Yb Yx))))) (Yp Yc8) Yab) (Yp (Yt Ycq)))))))))
theorem Yng(bl:Bl K w mg)(ua:Okf P w K mg base 1 3 "beacons_with" ["hands","start","hand"] y7)(uq:Okf P w K mg base 4 3 "odd_good" ["places","book","storms"] Yc0){a:Addr}{fd:FuncData}(F:Fun K "storm_good" "storm_good" Ycx a fd)(hm:mg "storm_good"=some (.ref a)):Okf P w K mg base 16 4 "storm_good" ["paper","book","hands","start"] Ybs:=by
 have all:∀j,Okf P w K mg base (4+j) 4 "storm_good" ["paper","book","hands","start"] (Ybh j):=fun j=>by
  induction j with
  | zero=>exact Ymm F (F.binds fun _ _ _ _ _ _ us hl=>by obtain⟨_,_,_,_,rfl⟩:=len4 hl;rfl) hm rfl
  | succ j ih=>exact Ylj bl ua uq ih (Nat.le_add_right _ _) F hm
 exact all 12
abbrev Yrj:Stmt:=top 67
theorem y3b:FnScope ["paper","book","hands","start","hand"] ["paper","book","hands","start","hand"] (defScope Yrj):=⟨rfl,rfl,rfl,by decide +kernel,rfl,by decide +kernel,by decide +kernel⟩
def Yw9:Ro→Option Out:=(sSeq (sIf (b2 (getC 4) (kD (.str "keeper")) (eqM false)) (sRet (cC (Yh (getV 0) (Yh (getV 1) (Yh (getV 2) (Yh (getV 3) aNil)))) Ybg)) sNil) (sRet (cC (Yh (getV 0) (Yh (getV 1) (Yh (getV 2) (Yh (getV 3) aNil)))) Ybs)))
def Yko:List D→Option D:=runB 5 5 Yw9
theorem y3c(bl:Bl K w mg)(xz:Okf P w K mg base 15 4 "keeper_good" ["paper","book","hands","start"] Ybg)(zp:Okf P w K mg base 16 4 "storm_good" ["paper","book","hands","start"] Ybs){a:Addr}{fd:FuncData}(F:Fun K "good" "good" Yrj a fd)(hm:mg "good"=some (.ref a)):Okf P w K mg base 17 5 "good" ["paper","book","hands","start","hand"] Yko:=by
 refine Yam F (F.binds fun _ _ _ _ _ _ us hl=>by obtain⟨_,_,_,_,_,rfl⟩:=len5 hl;rfl) hm (Ys (k:=16) F y3b rfl rfl fun cdv A outer s H E hr=>?_)
 exact(Yk (Yak (Yav hr.units (Yd 4) (Yb Yx)) (Yp (Yt (Yo xz hr rfl (Yc (Yj 0) (Yc (Yj 1) (Yc (Yj 2) (Yc (Yj 3) Yl)))) (Ye (Ye (Ye (Ye (fun _ _ h=>Yq h)))))))) Yab) (Yp (Yt (Yo zp hr rfl (Yc (Yj 0) (Yc (Yj 1) (Yc (Yj 2) (Yc (Yj 3) Yl)))) (Ye (Ye (Ye (Ye (fun _ _ h=>Yq h)))))))))
abbrev Ygp:Stmt:=top 69
theorem Yrk:FnScope ["script","k"] ["script","k"] (defScope Ygp):=⟨rfl,rfl,rfl,by decide +kernel,rfl,by decide +kernel,by decide +kernel⟩
def Yie:Ro→Option Out:=(sSeq (sIf (b2 (getC 1) (cC (Yh (getC 0) aNil) lenC) ltI) (sRet (b2 (getC 0) (getC 1) ixD)) sNil) (sRet (kD (.int 0))))
def Yax:List D→Option D:=runB 2 2 Yie
theorem Yrl(bl:Bl K w mg)  {a:Addr} {fd:FuncData} (F:Fun K "_law_cell" "_law_cell" Ygp a fd) (hm:mg "_law_cell"=some (.ref a)):Okf P w K mg base 1 2 "_law_cell" ["script","k"] Yax:=by
 refine Yam F (F.binds fun _ _ _ _ _ _ us hl=>by obtain⟨_,_,rfl⟩:=len2 hl;rfl) hm (Ys (k:=0) F Yrk rfl rfl fun cdv A outer s H E hr=>?_)
 exact(Yk (Yak (y6e (Yd 1) (Yb (Yag Ya1 Ye1 rfl bl.Len PySem.boot_len (Yr (Yd 0) Yu)))) (Yp (Yt (Yi (Yd 0) (Yd 1)))) Yab) (Yp (Yt Yg)))
abbrev Yfh:Stmt:=top 70
theorem Ypn:FnScope ["cell","by"] ["cell","by"] (defScope Yfh):=⟨rfl,rfl,rfl,by decide +kernel,rfl,by decide +kernel,by decide +kernel⟩
def Ykp:Ro→Option Out:=(sRet (b2 (b2 (b2 (getC 0) (kD (.int 2305843009213693951)) modI) (getC 1) mulI) (kD (.int 2305843009213693951)) modI))
def Yao:List D→Option D:=runB 2 2 Ykp
theorem Ypo(bl:Bl K w mg)  {a:Addr} {fd:FuncData} (F:Fun K "_law_mixed" "_law_mixed" Yfh a fd) (hm:mg "_law_mixed"=some (.ref a)):Okf P w K mg base 1 2 "_law_mixed" ["cell","by"] Yao:=by
 refine Yam F (F.binds fun _ _ _ _ _ _ us hl=>by obtain⟨_,_,rfl⟩:=len2 hl;rfl) hm (Ys (k:=0) F Ypn rfl rfl fun cdv A outer s H E hr=>?_)
 exact(Yp (Yt (Ya4 (Yb (y2r (Yb (Ya4 (Yd 0) (Yb Yg))) (Yd 1))) (Yb Yg))))
abbrev Ydm:Stmt:=top 71
theorem sc_law_hands:FnScope ["cell","many","left"] ["cell","many"] (defScope Ydm):=⟨rfl,rfl,rfl,by decide +kernel,rfl,by decide +kernel,by decide +kernel⟩
theorem cs_law_hands_0:CompSc ["cell","many","left"] (defScope Ydm) ["k","left"] [none,some 2] (fsc [(".0",.local),("k",.local),("left",.free)]):=y9 (by decide +kernel)
def Ycf:Ro→Option D:=(b2 (lF (dLst (Yh (kD (.str "keeper")) (Yh (kD (.str "storm")) aNil)))) (b2 (b2 (getC 1) (getC 0) shrI) (kD (.int 2)) modI) ixD)
def Ykq:Ro→Option Out:=(sSeq (sSet 2 (cC (Yh (getV 0) (Yh (kD (.int 1442695040888963407)) aNil)) Yao)) (sRet (cC (Yh (lF (Ybd (cF (Yh (getV 1) aNil) rng1) [none,some 2] (gSet 0) tY (Ycf))) aNil) tupC)))
def Ycb:List D→Option D:=runB 2 3 Ykq
theorem Ypp(bl:Bl K w mg)(ub:Okf P w K mg base 1 2 "_law_mixed" ["cell","by"] Yao){a:Addr}{fd:FuncData}(F:Fun K "_law_hands" "_law_hands" Ydm a fd)(hm:mg "_law_hands"=some (.ref a)):Okf P w K mg base 2 2 "_law_hands" ["cell","many"] Ycb:=by
 refine Yam F (F.binds fun _ _ _ _ _ _ us hl=>by obtain⟨_,_,rfl⟩:=len2 hl;rfl) hm (Ys (k:=1) F sc_law_hands rfl rfl fun cdv A outer s H E hr=>?_)
 exact(Yk (y0 2 sc_law_hands.nd (Yo ub hr rfl (Yc (Yj 0) (Yc Yg Yl)) (Ye (Ye (fun _ _ h=>Yq h))))) (Yp (Yt (Yaw Yah Yc6 rfl bl.Tuple boot_tuple (Yr (Yb (Yae (Yal cs_law_hands_0 rfl (Yd2 rfl bl.Range (Yc (Yj 1) Yl)) (fun _ _ _ _ _=>(Yaa 0 cs_law_hands_0.nd)) (fun _ _ _ _ _=>Yaz) (fun _ _ _ _ _=>(Yi (Yb (Yae (Ygi (Yc Yx (Yc Yx Yl))))) (Yb (Ya4 (Yb (Yq5 (Yd 1) (Yd 0))) (Yb Yg))))) (Yaq (i:=0) rfl)))) Yu)))))
abbrev Yes:Stmt:=top 73
theorem sc_law_rule:FnScope ["kind","cell","start","many","left","size","picked","k"] ["kind","cell","start","many"] (defScope Yes):=⟨rfl,rfl,rfl,by decide +kernel,rfl,by decide +kernel,by decide +kernel⟩
theorem cs_law_rule_0:CompSc ["kind","cell","start","many","left","size","picked","k"] (defScope Yes) ["k","picked","left"] [none,some 6,some 4] (fsc [(".0",.local),("k",.local),("left",.free),("picked",.free)]):=y9 (by decide +kernel)
def Yb5:Ro→Option Out:=(sSeq (sIf (b2 (b2 (getC 2) (b2 (getC 4) (b2 (getC 3) (getC 2) subI) modI) addI) (getC 6) (inM true)) (sMut 6 (b2 (getC 2) (b2 (getC 4) (b2 (getC 3) (getC 2) subI) modI) addI) appD) sNil) (sSet 4 (b2 (getC 4) (b2 (getC 3) (getC 2) subI) divI)))
def Ycy:Ro→Option D:=(dTup (Yh (b2 (getC 1) (getC 0) ixD) (Yh (mB (b2 (b2 (b2 (getC 2) (getC 0) shrI) (kD (.int 2)) modI) (kD (.int 1)) (eqM false))) aNil)))
@[simp] def Ynh:Ro→Option Out:=(sRet (dTup (Yh (cC (Yh (lF (cF (Yh (getC 6) aNil) Yml)) aNil) tupC) (Yh (b2 (getC 2) (b2 (b2 (getC 4) (kD (.int 4)) divI) (b2 (getC 3) (getC 2) subI) modI) addI) aNil))))
@[simp] def Ypq:Ro→Option Out:=(sSeq (sIf (b2 (b2 (getC 4) (kD (.int 4)) modI) (kD (.int 1)) (eqM false)) (sOwn 6 (slF (getC 6) (some (kD (.int 1))) none)) sNil) Ynh)
@[simp] def Ypr:Ro→Option Out:=(sSeq (sIf (b2 (b2 (getC 4) (kD (.int 4)) modI) (kD (.int 0)) (eqM false)) (sRet (dTup (Yh (cC (Yh (lF (cF (Yh (getC 6) aNil) Yml)) aNil) tupC) (Yh (kD .non) aNil)))) sNil) Ypq)
@[simp] def Yps:Ro→Option Out:=(sSeq (sIf (b2 (getC 0) (kD (.str "sums")) (eqM false)) (sRet (dTup (Yh (cC (Yh (lF (cF (Yh (getC 6) aNil) Yml)) aNil) tupC) (Yh (mB (b2 (b2 (getC 4) (kD (.int 2)) modI) (kD (.int 1)) (eqM false))) aNil)))) sNil) Ypr)
@[simp] def Ypt:Ro→Option Out:=(sSeq (sIf (b2 (getC 0) (kD (.str "eithers")) (eqM false)) (wF [6] (sRet (cC (Yh (lF (cF (Yh (lF (Ybd (cF (Yh (cC (Yh (getC 6) aNil) lenC) aNil) rng1) [none,some 6,some 4] (gSet 0) tY (Ycy))) aNil) Yml)) aNil) tupC))) sNil) Yps)
@[simp] def Ypu:Ro→Option Out:=(sSeq (sFor (cF (Yh (getV 5) aNil) rng1) (gSet 7) Yb5) Ypt)
@[simp] def Ypv:Ro→Option Out:=(sSeq (sOwn 6 (dLst aNil)) Ypu)
@[simp] def Ypw:Ro→Option Out:=(sSeq (sSet 4 (b2 (getC 4) (kD (.int 8)) divI)) Ypv)
@[simp] def Ypx:Ro→Option Out:=(sSeq (sIf (b2 (getC 0) (kD (.str "eithers")) (eqM false)) (sSet 5 (cC (Yh (getC 5) (Yh (kD (.int 2)) aNil)) minC)) sNil) Ypw)
@[simp] def Ypy:Ro→Option Out:=(sSeq (sSet 5 (b2 (lF (Yjr [1,2,2,2,1,2,3,4])) (b2 (getC 4) (kD (.int 8)) modI) ixD)) Ypx)
def Yc1:Ro→Option Out:=(sSeq (sSet 4 (cC (Yh (getV 1) (Yh (kD (.int 1181783497276652981)) aNil)) Yao)) Ypy)
def Yd7:List D→Option D:=runB 4 8 Yc1
theorem Yrm(bl:Bl K w mg)(ub:Okf P w K mg base 1 2 "_law_mixed" ["cell","by"] Yao){a:Addr}{fd:FuncData}(F:Fun K "_law_rule" "_law_rule" Yes a fd)(hm:mg "_law_rule"=some (.ref a)):Okf P w K mg base 2 4 "_law_rule" ["kind","cell","start","many"] Yd7:=by
 refine Yam F (F.binds fun _ _ _ _ _ _ us hl=>by obtain⟨_,_,_,_,rfl⟩:=len4 hl;rfl) hm (Ys (k:=1) F sc_law_rule rfl rfl fun cdv A outer s H E hr=>?_)
 exact(Yk (y0 4 sc_law_rule.nd (Yo ub hr rfl (Yc (Yj 1) (Yc Yg Yl)) (Ye (Ye (fun _ _ h=>Yq h))))) (Yk (Yze _ _ _ _ _ _ 5 _ _ _ [1,2,2,2,1,2,3,4] sc_law_rule.nd (by decide +kernel) rfl (by first | exact Or.inl rfl | exact Or.inr rfl) (by first | exact .inl rfl | exact .inr rfl) (by intro _ _;rfl) (Yb (Ya4 (Yd 4) (Yb Yg)))) (Yk (Yak (Yav hr.units (Yd 0) (Yb Yx)) (Yp (y0 5 sc_law_rule.nd (Yag (Yn6 rfl) Ywb rfl bl.Min boot_min (Yr (Yd 5) (Yr (Yb Yg) Yu))))) Yab) (Yk (y0 4 sc_law_rule.nd (Yhu (Yd 4) (Yb Yg))) (Yk (Ymy 6 sc_law_rule.nd (Ygi Yl)) (Yk (Yhw PassesOwn.never rfl (Yd2 rfl bl.Range (Yc (Yj 5) Yl)) (Yaa 7 sc_law_rule.nd) (Yk (Yak (y2s hr.units (Yb (Yhx (Yd 2) (Yb (Ya4 (Yd 4) (Yb (Ymw (Yd 3) (Yd 2))))))) (Yd 6)) (Yp (Yt7 6 (Yhx (Yd 2) (Yb (Ya4 (Yd 4) (Yb (Ymw (Yd 3) (Yd 2)))))))) Yab) (Yp (y0 4 sc_law_rule.nd (Yhu (Yd 4) (Yb (Ymw (Yd 3) (Yd 2)))))))) (Yk (Yak (Yav hr.units (Yd 0) (Yb Yx)) (Yp (Ymx [6] (Yt (Yaw Yah Yc6 rfl bl.Tuple boot_tuple (Yr (Yb (Yae (Ye8 Ydg Yed rfl bl.Sorted boot_sorted (Yr (Yb (Yae (Yal cs_law_rule_0 rfl (Yd2 rfl bl.Range (Yc (Yag Ya1 Ye1 rfl bl.Len PySem.boot_len (Yr (Yd 6) Yu)) Yl)) (fun _ _ _ _ _=>(Yaa 0 cs_law_rule_0.nd)) (fun _ _ _ _ _=>Yaz) (fun _ _ _ _ _=>(Yad (Yc (Yi (Yd 1) (Yd 0)) (Yc (Yd0 hr.units (Yb (Ya4 (Yb (Yq5 (Yd 2) (Yd 0))) (Yb Yg))) (Yb Yg)) Yl)))) (Yaq (i:=0) rfl)))) Yu)))) Yu))))) Yab) (Yk (Yak (Yav hr.units (Yd 0) (Yb Yx)) (Yp (Yt (Yad (Yc (Yaw Yah Yc6 rfl bl.Tuple boot_tuple (Yr (Yb (Yae (Ye8 Ydg Yed rfl bl.Sorted boot_sorted (Yr (Yd 6) Yu)))) Yu)) (Yc (Yd0 hr.units (Yb (Ya4 (Yd 4) (Yb Yg))) (Yb Yg)) Yl))))) Yab) (Yk (Yak (Yav hr.units (Yb (Ya4 (Yd 4) (Yb Yg))) (Yb Yg)) (Yp (Yt (Yad (Yc (Yaw Yah Yc6 rfl bl.Tuple boot_tuple (Yr (Yb (Yae (Ye8 Ydg Yed rfl bl.Sorted boot_sorted (Yr (Yd 6) Yu)))) Yu)) (Yc Yee Yl))))) Yab) (Yk (Yak (Yav hr.units (Yb (Ya4 (Yd 4) (Yb Yg))) (Yb Yg)) (Yp (Ymy 6 sc_law_rule.nd (Yj0 (fl:=(some (kD (.int 1)))) (fh:=none) (Yd 6) (Yo4 (Yb Yg)) Ywm))) Yab) (Yp (Yt (Yad (Yc (Yaw Yah Yc6 rfl bl.Tuple boot_tuple (Yr (Yb (Yae (Ye8 Ydg Yed rfl bl.Sorted boot_sorted (Yr (Yd 6) Yu)))) Yu)) (Yc (Yhx (Yd 2) (Yb (Ya4 (Yb (Yhu (Yd 4) (Yb Yg))) (Yb (Ymw (Yd 3) (Yd 2)))))) Yl)))))))))))))))
abbrev Yco:Stmt:=top 74
theorem Ypz:FnScope ["part"] ["part"] (defScope Yco):=⟨rfl,rfl,rfl,by decide +kernel,rfl,by decide +kernel,by decide +kernel⟩
theorem cs_law_plain_0:CompSc ["part"] (defScope Yco) ["one"] [none] (fsc [(".0",.local),("one",.local),("_law_plain",.globalImplicit)]):=y9 (by decide +kernel)
def Ydw(rec:List D→Option D):Ro→Option D:=(cC (Yh (getV 0) aNil) rec)
def Ydd(rec:List D→Option D):Ro→Option Out:=(sSeq (sIf (b1 (mB (b1 (getC 0) (isiD "tuple"))) truD) (sRet (cC (Yh (lF (Ybd (b1 (getV 0) Yn) [none] (gSet 0) tY (Ydw rec))) aNil) allC)) sNil) (sRet (orV (mB (b2 (getC 0) (kD .non) (isN false))) (orV (mB (b1 (getC 0) (isiD "str"))) (mB (b1 (getC 0) (isiD "int")))))))
def y8:Nat→List D→Option D
 | 0=>fun _=>none
 | k+1=>runB 1 1 (Ydd (y8 k))
def Ycc:List D→Option D:=y8 12
theorem Yni(bl:Bl K w mg)  {k j:Nat} (rc:Okf P w K mg base k 1 "_law_plain" ["part"] (y8 j)) (hk:0≤k) {a:Addr} {fd:FuncData} (F:Fun K "_law_plain" "_law_plain" Yco a fd) (hm:mg "_law_plain"=some (.ref a)):Okf P w K mg base (k+1) 1 "_law_plain" ["part"] (y8 (j+1)):=by
 refine Yam F (F.binds fun _ _ _ _ _ _ us hl=>by obtain⟨_,rfl⟩:=len1 hl;rfl) hm (Ys (k:=k) F Ypz rfl rfl fun cdv A outer s H E hr=>?_)
 exact(Yk (Yak (Ybj (Yb (Ygj (Yd 0) rfl rfl bl.Isinstance bl.Tuple boot_tuple (Yjl)))) (Yp (Yt (Yag (Ych rfl) Ye2 rfl bl.All boot_all (Yr (Yb (Yae (Yal cs_law_plain_0 rfl (Yas (Yj 0)) (fun _ _ _ _ _=>(Yaa 0 cs_law_plain_0.nd)) (fun _ _ _ _ _=>Yaz) (fun _ _ _ _ _=>(Yo rc hr rfl (Yc (Yj 0) Yl) (Ye (fun _ _ h=>Yq h)))) (Yaq (i:=0) rfl)))) Yu)))) Yab) (Yp (Yt (Ywk (y2u (Yd 0) (Yb Yee)) (Ywk (Ygj (Yd 0) rfl rfl bl.Isinstance bl.Str boot_str (y15)) (Ywj (Ygj (Yd 0) rfl rfl bl.Isinstance bl.Int boot_int (y14))))))))
theorem Yp0(bl:Bl K w mg)  {a:Addr} {fd:FuncData} (F:Fun K "_law_plain" "_law_plain" Yco a fd) (hm:mg "_law_plain"=some (.ref a)):Okf P w K mg base 12 1 "_law_plain" ["part"] Ycc:=by
 have all:∀j,Okf P w K mg base (0+j) 1 "_law_plain" ["part"] (y8 j):=fun j=>by
  induction j with
  | zero=>exact Ymm F (F.binds fun _ _ _ _ _ _ us hl=>by obtain⟨_,rfl⟩:=len1 hl;rfl) hm rfl
  | succ j ih=>exact Yni bl  ih (Nat.le_add_right _ _) F hm
 exact all 12
abbrev Ya7:Stmt:=top 75
theorem Ynj:FnScope ["paper"] ["paper"] (defScope Ya7):=⟨rfl,rfl,rfl,by decide +kernel,rfl,by decide +kernel,by decide +kernel⟩
theorem cs_law_truths_0:CompSc ["paper"] (defScope Ya7) ["row"] [none] (fsc [(".0",.local),("row",.local),("isinstance",.globalImplicit),("bool",.globalImplicit)]):=y9 (by decide +kernel)
theorem cs_law_truths_1:CompSc ["paper"] (defScope Ya7) ["road"] [none] (fsc [(".0",.local),("road",.local),("all",.globalImplicit)]):=y9 (by decide +kernel)
theorem Ykr(env:Env)(h:env.scope=defScope Ya7):relabel (fsc [(".0",.local),("road",.local),("all",.globalImplicit)]) env=(fsc [(".0",.local),("road",.local),("all",.globalImplicit)]):=by unfold relabel Env.kindOf;rw[h];rfl
theorem Yks:(["saying"]:List Str).Nodup:=by decide +kernel
theorem Ykt(env:Env)(h:env.scope=defScope Ya7):CompSc ["road"] (relabel (fsc [(".0",.local),("road",.local),("all",.globalImplicit)]) env) ["saying"] [none] (fsc [(".0",.local),("saying",.local),("isinstance",.globalImplicit),("bool",.globalImplicit)]):=by rw[Ykr env h];exact y9 (by decide +kernel)
def Yde:Ro→Option D:=(mB (b1 (b2 (getC 0) (kD (.int 2)) ixD) (isiD "bool")))
def Yku:Ro→Option D:=(mB (b1 (b2 (getC 0) (kD (.int 1)) ixD) (isiD "bool")))
def Ykv:Ro→Option D:=(cC (Yh (lF (Ybd (b1 (getV 0) Yn) [none] (gSet 0) tY (Yku))) aNil) allC)
@[simp] def Ylk:Ro→Option Out:=(sRet (kD (.bl true)))
@[simp] def Yll:Ro→Option Out:=(sSeq (sIf (b2 (b2 (getC 0) (kD (.int 0)) ixD) (lF (dLst (Yh (kD (.str "clash")) (Yh (kD (.str "cross")) (Yh (kD (.str "late")) aNil))))) (inM false)) (sRet (cC (Yh (lF (Ybd (b1 (lF (slF (getC 0) (some (kD (.int 1))) none)) Yn) [none] (gSet 0) tY (Ykv))) aNil) allC)) sNil) Ylk)
def Yfi:Ro→Option Out:=(sSeq (sIf (orT (b2 (b2 (getC 0) (kD (.int 0)) ixD) (kD (.str "plan")) (eqM false)) (b2 (b2 (getC 0) (kD (.int 0)) ixD) (kD (.str "sums")) (eqM false))) (sRet (cC (Yh (lF (Ybd (b1 (b2 (getC 0) (kD (.int 1)) ixD) Yn) [none] (gSet 0) tY (Yde))) aNil) allC)) sNil) Yll)
def Ya2:List D→Option D:=runB 1 1 Yfi
theorem Ynk(bl:Bl K w mg)  {a:Addr} {fd:FuncData} (F:Fun K "_law_truths" "_law_truths" Ya7 a fd) (hm:mg "_law_truths"=some (.ref a)):Okf P w K mg base 1 1 "_law_truths" ["paper"] Ya2:=by
 refine Yam F (F.binds fun _ _ _ _ _ _ us hl=>by obtain⟨_,rfl⟩:=len1 hl;rfl) hm (Ys (k:=0) F Ynj rfl rfl fun cdv A outer s H E hr=>?_)
 exact(Yk (Yak (Ydj (Yio (Yav hr.units (Yb (Yi (Yd 0) (Yb Yg))) (Yb Yx)) (Yhv (Yav hr.units (Yb (Yi (Yd 0) (Yb Yg))) (Yb Yx))))) (Yp (Yt (Yag (Ych rfl) Ye2 rfl bl.All boot_all (Yr (Yb (Yae (Yal cs_law_truths_0 rfl (Yas (Yi (Yd 0) (Yb Yg))) (fun _ _ _ _ _=>(Yaa 0 cs_law_truths_0.nd)) (fun _ _ _ _ _=>Yaz) (fun _ _ _ _ _=>(Ygj (Yb (Yi (Yd 0) (Yb Yg))) rfl rfl bl.Isinstance bl.Bool boot_bool (Ysl))) (Yaq (i:=0) rfl)))) Yu)))) Yab) (Yk (Yak (y0k hr.units (Yb (Yi (Yd 0) (Yb Yg))) (Yb (Yae (Ygi (Yc Yx (Yc Yx (Yc Yx Yl))))))) (Yp (Yt (Yag (Ych rfl) Ye2 rfl bl.All boot_all (Yr (Yb (Yae (Yal cs_law_truths_1 rfl (Yas (Yae (Yj0 (fl:=(some (kD (.int 1)))) (fh:=none) (Yd 0) (Yo4 (Yb Yg)) Ywm))) (fun _ _ _ _ _=>(Yaa 0 cs_law_truths_1.nd)) (fun _ _ _ _ _=>Yaz) (fun _ _ _ _ _=>(Yag (Ych rfl) Ye2 rfl bl.All boot_all (Yr (Yb (Yae (Yal (Ykt _ rfl) rfl (Yas (Yj 0)) (fun _ _ _ _ _=>(Yaa 0 Yks)) (fun _ _ _ _ _=>Yaz) (fun _ _ _ _ _=>(Ygj (Yb (Yi (Yd 0) (Yb Yg))) rfl rfl bl.Isinstance bl.Bool boot_bool (Ysl))) (Yaq (i:=0) rfl)))) Yu))) (Yaq (i:=0) rfl)))) Yu)))) Yab) (Yp (Yt Ycq))))
abbrev Ygq:Stmt:=top 76
theorem Yrn:FnScope ["found","book","hands","start"] ["found","book","hands","start"] (defScope Ygq):=⟨rfl,rfl,rfl,by decide +kernel,rfl,by decide +kernel,by decide +kernel⟩
@[simp] def Yp1:Ro→Option Out:=(sRet (mB (b2 (cC (Yh (b2 (getC 0) (kD (.int 1)) ixD) (Yh (getV 1) (Yh (getV 2) (Yh (getV 3) (Yh (b2 (getC 0) (kD (.int 0)) ixD) aNil))))) Yko) (kD (.bl true)) (isB false))))
@[simp] def Yp2:Ro→Option Out:=(sSeq (sIf (orT (andT (b2 (b2 (getC 0) (kD (.int 0)) ixD) (kD (.str "keeper")) (eqM true)) (b2 (b2 (getC 0) (kD (.int 0)) ixD) (kD (.str "storm")) (eqM true))) (orT (notT (b1 (cC (Yh (b2 (getC 0) (kD (.int 1)) ixD) aNil) Ycc) truD)) (notT (b1 (cC (Yh (b2 (getC 0) (kD (.int 1)) ixD) aNil) Ya2) truD)))) (sRet (kD (.bl false))) sNil) Yp1)
def Yif:Ro→Option Out:=(sSeq (sIf (orT (notT (b1 (mB (b1 (getC 0) (isiD "tuple"))) truD)) (orT (b2 (cC (Yh (getC 0) aNil) lenC) (kD (.int 2)) (eqM true)) (notT (b1 (mB (b1 (b2 (getC 0) (kD (.int 1)) ixD) (isiD "tuple"))) truD)))) (sRet (kD (.bl false))) sNil) Yp2)
def Yba:List D→Option D:=runB 4 4 Yif
theorem Yro(bl:Bl K w mg)(uan:Okf P w K mg base 12 1 "_law_plain" ["part"] Ycc)(zq:Okf P w K mg base 1 1 "_law_truths" ["paper"] Ya2)(uc4:Okf P w K mg base 17 5 "good" ["paper","book","hands","start","hand"] Yko){a:Addr}{fd:FuncData}(F:Fun K "_law_good" "_law_good" Ygq a fd)(hm:mg "_law_good"=some (.ref a)):Okf P w K mg base 18 4 "_law_good" ["found","book","hands","start"] Yba:=by
 refine Yam F (F.binds fun _ _ _ _ _ _ us hl=>by obtain⟨_,_,_,_,rfl⟩:=len4 hl;rfl) hm (Ys (k:=17) F Yrn rfl rfl fun cdv A outer s H E hr=>?_)
 exact(Yk (Yak (Ydj (Yio (Ye7 (Ybj (Yb (Ygj (Yd 0) rfl rfl bl.Isinstance bl.Tuple boot_tuple (Yjl))))) (Yio (Ysv hr.units (Yb (Yag Ya1 Ye1 rfl bl.Len PySem.boot_len (Yr (Yd 0) Yu))) (Yb Yg)) (Yhv (Ye7 (Ybj (Yb (Ygj (Yb (Yi (Yd 0) (Yb Yg))) rfl rfl bl.Isinstance bl.Tuple boot_tuple (Yjl))))))))) (Yp (Yt Ycq)) Yab) (Yk (Yak (Ydj (Yio (Ydj (Ye6 (Ysv hr.units (Yb (Yi (Yd 0) (Yb Yg))) (Yb Yx)) (Ydi (Ysv hr.units (Yb (Yi (Yd 0) (Yb Yg))) (Yb Yx))))) (Yio (Ye7 (Ybj (Yb (Yo uan hr rfl (Yc (Yi (Yd 0) (Yb Yg)) Yl) (Ye (fun _ _ h=>Yq h)))))) (Yhv (Ye7 (Ybj (Yb (Yo zq hr rfl (Yc (Yi (Yd 0) (Yb Yg)) Yl) (Ye (fun _ _ h=>Yq h)))))))))) (Yp (Yt Ycq)) Yab) (Yp (Yt (y2v (Yb (Yo uc4 hr rfl (Yc (Yi (Yd 0) (Yb Yg)) (Yc (Yj 1) (Yc (Yj 2) (Yc (Yj 3) (Yc (Yi (Yd 0) (Yb Yg)) Yl))))) (Ye (Ye (Ye (Ye (Ye (fun _ _ h=>Yq h)))))))) (Yb Ycq))))))
abbrev Ycp:Stmt:=top 77
theorem sc_law_drawn:FnScope ["kind","script","many","start","hands","way","more","far","rules"] ["kind","script"] (defScope Ycp):=⟨rfl,rfl,rfl,by decide +kernel,rfl,by decide +kernel,by decide +kernel⟩
theorem cs_law_drawn_0:CompSc ["kind","script","many","start","hands","way","more","far","rules"] (defScope Ycp) ["k","hands","more"] [none,some 4,some 6] (fsc [(".0",.local),("k",.local),("int",.globalImplicit),("hands",.free),("more",.free)]):=y9 (by decide +kernel)
theorem cs_law_drawn_1:CompSc ["kind","script","many","start","hands","way","more","far","rules"] (defScope Ycp) ["cell","kind","start","far"] [none,some 0,some 3,some 7] (fsc [(".0",.local),("cell",.local),("_law_rule",.globalImplicit),("far",.free),("kind",.free),("start",.free)]):=y9 (by decide +kernel)
def Ydx:Ro→Option D:=(b2 (lF (dLst (Yh (kD (.str "storm")) (Yh (kD (.str "keeper")) aNil)))) (cC (Yh (orV (mB (b2 (b2 (getC 1) (getC 0) ixD) (kD (.str "keeper")) (eqM false))) (mB (b2 (b2 (getC 2) (getC 0) ixD) (kD (.str "keeper")) (eqM false)))) aNil) intC) ixD)
def Ydy:Ro→Option D:=(cC (Yh (getV 1) (Yh (getV 0) (Yh (getV 2) (Yh (getV 3) aNil)))) Yd7)
@[simp] def Ynl:Ro→Option Out:=(sRet (lF (dLst (Yh (dTup (Yh (getV 0) (Yh (cC (Yh (getC 8) aNil) tupC) aNil))) (Yh (getV 4) (Yh (getV 3) aNil))))))
@[simp] def Ynm:Ro→Option Out:=(sSeq (sOwn 8 (Ybd (b1 (lF (slF (getC 1) (some (kD (.int 4))) (some (b2 (kD (.int 4)) (b2 (b2 (getC 5) (kD (.int 32)) divI) (kD (.int 41)) modI) addI)))) Yn) [none,some 0,some 3,some 7] (gSet 0) tY (Ydy))) Ynl)
@[simp] def Ycz:Ro→Option Out:=(sSeq (sSet 7 (cC (Yh (getC 2) (Yh (b2 (getC 3) (b2 (lF (Yjr [60,60,60,3,6,12,6,12,6])) (b2 (b2 (getC 5) (kD (.int 3)) divI) (kD (.int 9)) modI) ixD) addI) aNil)) minC)) Ynm)
@[simp] def Ybi:Ro→Option Out:=(sSeq (sIf (b2 (b2 (getC 5) (kD (.int 3)) modI) (kD (.int 0)) (eqM false)) (sSeq (sSet 6 (cC (Yh (cC (Yh (getV 1) (Yh (kD (.int 3)) aNil)) Yax) (Yh (getV 2) aNil)) Ycb)) (sSet 4 (cC (Yh (lF (Ybd (cF (Yh (getV 2) aNil) rng1) [none,some 4,some 6] (gSet 0) tY (Ydx))) aNil) tupC))) sNil) Ycz)
@[simp] def Ynn:Ro→Option Out:=(sSeq (sSet 5 (cC (Yh (cC (Yh (getV 1) (Yh (kD (.int 2)) aNil)) Yax) (Yh (kD (.int 1865811235122147685)) aNil)) Yao)) Ybi)
@[simp] def Yno:Ro→Option Out:=(sSeq (sSet 4 (cC (Yh (cC (Yh (getV 1) (Yh (kD (.int 1)) aNil)) Yax) (Yh (getV 2) aNil)) Ycb)) Ynn)
@[simp] def Ynp:Ro→Option Out:=(sSeq (sSet 3 (b2 (b2 (cC (Yh (getV 1) (Yh (kD (.int 0)) aNil)) Yax) (kD (.int 60)) divI) (getC 2) modI)) Yno)
def Ygr:Ro→Option Out:=(sSeq (sSet 2 (b2 (kD (.int 1)) (b2 (cC (Yh (getV 1) (Yh (kD (.int 0)) aNil)) Yax) (kD (.int 60)) modI) addI)) Ynp)
def Ycd:List D→Option D:=runB 2 9 Ygr
theorem Yp3(bl:Bl K w mg)(uc:Okf P w K mg base 1 2 "_law_cell" ["script","k"] Yax)(u7:Okf P w K mg base 2 2 "_law_hands" ["cell","many"] Ycb)(ub:Okf P w K mg base 1 2 "_law_mixed" ["cell","by"] Yao)(ubk:Okf P w K mg base 2 4 "_law_rule" ["kind","cell","start","many"] Yd7){a:Addr}{fd:FuncData}(F:Fun K "_law_drawn" "_law_drawn" Ycp a fd)(hm:mg "_law_drawn"=some (.ref a)):Okf P w K mg base 3 2 "_law_drawn" ["kind","script"] Ycd:=by
 refine Yam F (F.binds fun _ _ _ _ _ _ us hl=>by obtain⟨_,_,rfl⟩:=len2 hl;rfl) hm (Ys (k:=2) F sc_law_drawn rfl rfl fun cdv A outer s H E hr=>?_)
 exact(Yk (y0 2 sc_law_drawn.nd (Yhx (Yb Yg) (Yb (Ya4 (Yb (Yo uc hr rfl (Yc (Yj 1) (Yc Yg Yl)) (Ye (Ye (fun _ _ h=>Yq h))))) (Yb Yg))))) (Yk (y0 3 sc_law_drawn.nd (Ya4 (Yb (Yhu (Yb (Yo uc hr rfl (Yc (Yj 1) (Yc Yg Yl)) (Ye (Ye (fun _ _ h=>Yq h))))) (Yb Yg))) (Yd 2))) (Yk (y0 4 sc_law_drawn.nd (Yo u7 hr rfl (Yc (Yo uc hr rfl (Yc (Yj 1) (Yc Yg Yl)) (Ye (Ye (fun _ _ h=>Yq h)))) (Yc (Yj 2) Yl)) (Ye (Ye (fun _ _ h=>Yq h))))) (Yk (y0 5 sc_law_drawn.nd (Yo ub hr rfl (Yc (Yo uc hr rfl (Yc (Yj 1) (Yc Yg Yl)) (Ye (Ye (fun _ _ h=>Yq h)))) (Yc Yg Yl)) (Ye (Ye (fun _ _ h=>Yq h))))) (Yk (Yak (Yav hr.units (Yb (Ya4 (Yd 5) (Yb Yg))) (Yb Yg)) (Yk (y0 6 sc_law_drawn.nd (Yo u7 hr rfl (Yc (Yo uc hr rfl (Yc (Yj 1) (Yc Yg Yl)) (Ye (Ye (fun _ _ h=>Yq h)))) (Yc (Yj 2) Yl)) (Ye (Ye (fun _ _ h=>Yq h))))) (Yp (y0 4 sc_law_drawn.nd (Yaw Yah Yc6 rfl bl.Tuple boot_tuple (Yr (Yb (Yae (Yal cs_law_drawn_0 rfl (Yd2 rfl bl.Range (Yc (Yj 2) Yl)) (fun _ _ _ _ _=>(Yaa 0 cs_law_drawn_0.nd)) (fun _ _ _ _ _=>Yaz) (fun _ _ _ _ _=>(Yi (Yb (Yae (Ygi (Yc Yx (Yc Yx Yl))))) (Yb (Yaw Yuw y1v rfl bl.Int boot_int (Yr (Yb (Ywk (Yd0 hr.units (Yb (Yi (Yd 1) (Yd 0))) (Yb Yx)) (Ywj (Yd0 hr.units (Yb (Yi (Yd 2) (Yd 0))) (Yb Yx))))) Yu))))) (Yaq (i:=0) rfl)))) Yu))))) Yab) (Yk (y0 7 sc_law_drawn.nd (Yag (Yn6 rfl) Ywb rfl bl.Min boot_min (Yr (Yd 2) (Yr (Yb (Yhx (Yd 3) (Yb (Yi (Yb (Yae (Yzd [60,60,60,3,6,12,6,12,6]))) (Yb (Ya4 (Yb (Yhu (Yd 5) (Yb Yg))) (Yb Yg))))))) Yu)))) (Yk (Ymz 8 sc_law_drawn.nd cs_law_drawn_1 rfl (Yas (Yae (Yj0 (fl:=(some (kD (.int 4)))) (fh:=(some (b2 (kD (.int 4)) (b2 (b2 (getC 5) (kD (.int 32)) divI) (kD (.int 41)) modI) addI))) (Yd 1) (Yo4 (Yb Yg)) (Yo4 (Yb (Yhx (Yb Yg) (Yb (Ya4 (Yb (Yhu (Yd 5) (Yb Yg))) (Yb Yg))))))))) (fun _ _ _ _ _=>(Yaa 0 cs_law_drawn_1.nd)) (fun _ _ _ _ _=>Yaz) (fun _ _ _ _ _=>(Yo ubk hr rfl (Yc (Yj 1) (Yc (Yj 0) (Yc (Yj 2) (Yc (Yj 3) Yl)))) (Ye (Ye (Ye (Ye (fun _ _ h=>Yq h))))))) (Yaq (i:=0) rfl)) (Yp (Yt (Yae (Ygi (Yc (Yad (Yc (Yj 0) (Yc (Yaw Yah Yc6 rfl bl.Tuple boot_tuple (Yr (Yd 8) Yu)) Yl))) (Yc (Yj 4) (Yc (Yj 3) Yl))))))))))))))
abbrev Yfv:Stmt:=top 78
theorem sc_law_sum:FnScope ["rules","which","beacons","odd","k"] ["rules","which"] (defScope Yfv):=⟨rfl,rfl,rfl,by decide +kernel,rfl,by decide +kernel,by decide +kernel⟩
theorem cs_law_sum_0:CompSc ["rules","which","beacons","odd","k"] (defScope Yfv) ["beacon","beacons"] [none,some 2] (fsc [(".0",.local),("beacon",.local),("beacons",.free)]):=y9 (by decide +kernel)
def Ydn:Ro→Option Out:=(sIf (b2 (b2 (b2 (getC 1) (getC 4) shrI) (kD (.int 3)) modI) (kD (.int 1)) (eqM false)) (sSeq (sOwn 2 (b2 (getC 2) (lF (cF (Yh (b2 (b2 (getC 0) (getC 4) ixD) (kD (.int 0)) ixD) aNil) Ymk)) catD)) (sSet 3 (mB (b2 (getC 3) (b2 (b2 (getC 0) (getC 4) ixD) (kD (.int 1)) ixD) (eqM true))))) sNil)
def Yfj:Ro→Option Bool:=(b2 (b2 (b2 (getC 1) (getV 0) cntD) (kD (.int 2)) modI) (kD (.int 1)) (eqM false))
def Yfk:Ro→Option D:=(getV 0)
@[simp] def Yrp:Ro→Option Out:=(wF [2] (sRet (dTup (Yh (cC (Yh (lF (Ybd (b1 (lF (Yfr (getC 2))) Yn) [none,some 2] (gSet 0) (Yfj) (Yfk))) aNil) tupC) (Yh (getV 3) aNil)))))
@[simp] def Yrq:Ro→Option Out:=(sSeq (sFor (cF (Yh (cC (Yh (getC 0) aNil) lenC) aNil) rng1) (gSet 4) Ydn) Yrp)
@[simp] def Yrr:Ro→Option Out:=(sSeq (sSet 3 (kD (.bl false))) Yrq)
def Yp4:Ro→Option Out:=(sSeq (sOwn 2 (dLst aNil)) Yrr)
def Yd8:List D→Option D:=runB 2 5 Yp4
theorem Yug(bl:Bl K w mg)  {a:Addr} {fd:FuncData} (F:Fun K "_law_sum" "_law_sum" Yfv a fd) (hm:mg "_law_sum"=some (.ref a)):Okf P w K mg base 1 2 "_law_sum" ["rules","which"] Yd8:=by
 refine Yam F (F.binds fun _ _ _ _ _ _ us hl=>by obtain⟨_,_,rfl⟩:=len2 hl;rfl) hm (Ys (k:=0) F sc_law_sum rfl rfl fun cdv A outer s H E hr=>?_)
 exact(Yk (Ymy 2 sc_law_sum.nd (Ygi Yl)) (Yk (y0 3 sc_law_sum.nd Ycq) (Yk (Yhw PassesOwn.never rfl (Yd2 rfl bl.Range (Yc (Yag Ya1 Ye1 rfl bl.Len PySem.boot_len (Yr (Yd 0) Yu)) Yl)) (Yaa 4 sc_law_sum.nd) (Yp (Yak (Yav hr.units (Yb (Ya4 (Yb (Yq5 (Yd 1) (Yd 4))) (Yb Yg))) (Yb Yg)) (Yk (Ymy 2 sc_law_sum.nd (Ywo (Yd 2) (Yb (Yae (Yd1 Ycg Ygz rfl bl.List boot_list (Yr (Yb (Yi (Yb (Yi (Yd 0) (Yd 4))) (Yb Yg))) Yu)))))) (Yp (y0 3 sc_law_sum.nd (Ysu hr.units (Yd 3) (Yb (Yi (Yb (Yi (Yd 0) (Yd 4))) (Yb Yg))))))) Yab))) (Yp (Ymx [2] (Yt (Yad (Yc (Yaw Yah Yc6 rfl bl.Tuple boot_tuple (Yr (Yb (Yae (Yal cs_law_sum_0 rfl (Yas (Yae (Yj1 rfl rfl bl.Sorted rfl bl.Set (Yd 2)))) (fun _ _ _ _ _=>(Yaa 0 cs_law_sum_0.nd)) (fun _ _ _ _ _=>(Yi7 (Yav hr.units (Yb (Ya4 (Yb (Yw5 (Yd 1) (Yj 0))) (Yb Yg))) (Yb Yg)))) (fun _ _ _ _ _=>(Yj 0)) (Yaq (i:=0) rfl)))) Yu)) (Yc (Yj 3) Yl)))))))))
abbrev Yhe:Stmt:=top 79
theorem sc_law:FnScope ["script","book","hands","start","found","which","turned","again"] ["script"] (defScope Yhe):=⟨rfl,rfl,rfl,by decide +kernel,rfl,by decide +kernel,by decide +kernel⟩
def Ynq:Ro→Option Out:=(sRet (andV (cC (Yh (getV 7) (Yh (getV 6) (Yh (getV 2) (Yh (getV 3) aNil)))) Yba) (mB (b2 (b2 (getC 7) (kD (.int 0)) ixD) (b2 (getC 4) (kD (.int 0)) ixD) (eqM false)))))
def Ynr:Ro→Option Out:=(sSeq (sSet 7 (cC (Yh (getV 6) (Yh (lF (cF (Yh (getC 2) aNil) Ymk)) (Yh (getV 3) aNil))) Yai)) Ynq)
def Yns:Ro→Option Out:=(sSeq (sSet 6 (dTup (Yh (kD (.str "sums")) (Yh (b1 (b2 (b2 (getC 1) (kD (.int 1)) ixD) (dTup (Yh (cC (Yh (b2 (getC 1) (kD (.int 1)) ixD) (Yh (getV 5) aNil)) Yd8) aNil)) Ywi) revT) aNil)))) Ynr)
def Ynt:Ro→Option Out:=(sSeq (sSet 5 (cC (Yh (cC (Yh (getV 0) (Yh (kD (.int 3)) aNil)) Yax) (Yh (kD (.int 2049848353892358983)) aNil)) Yao)) Yns)
def Ynu:Ro→Option Out:=(sSeq (sIf (notT (b1 (cC (Yh (getV 4) (Yh (getV 1) (Yh (getV 2) (Yh (getV 3) aNil)))) Yba) truD)) (sRet (kD (.bl false))) sNil) Ynt)
def Ynv:Ro→Option Out:=(sSeq (sSet 4 (cC (Yh (getV 1) (Yh (getV 2) (Yh (getV 3) aNil))) Yai)) Ynu)
def y3d:Ro→Option Out:=(sSeq (sAsg (cC (Yh (kD (.str "sums")) (Yh (getV 0) aNil)) Ycd) (Ys1 1 2 3)) Ynv)
def Yrs:List D→Option D:=runB 1 8 y3d
theorem y6p(bl:Bl K w mg)(uao:Okf P w K mg base 3 2 "_law_drawn" ["kind","script"] Ycd)(ur:Okf P w K mg base 5 3 "sum_outcome" ["book","hands","start"] Yai)(vt:Okf P w K mg base 18 4 "_law_good" ["found","book","hands","start"] Yba)(uc:Okf P w K mg base 1 2 "_law_cell" ["script","k"] Yax)(ub:Okf P w K mg base 1 2 "_law_mixed" ["cell","by"] Yao)(ucf:Okf P w K mg base 1 2 "_law_sum" ["rules","which"] Yd8){a:Addr}{fd:FuncData}(F:Fun K "law" "law" Yhe a fd):FnOk P w K mg base CX0 19 a fd ["script"] (spOf K 1 Yrs):=by
 refine Ys (k:=18) F sc_law rfl rfl fun cdv A outer s H E hr=>?_
 exact(Yk (y27 (Yw0 1 2 3 rfl sc_law.nd) (Yo uao hr rfl (Yc Yx (Yc (Yj 0) Yl)) (Ye (Ye (fun _ _ h=>Yq h))))) (Yk (y0 4 sc_law.nd (Yo ur hr rfl (Yc (Yj 1) (Yc (Yj 2) (Yc (Yj 3) Yl))) (Ye (Ye (Ye (fun _ _ h=>Yq h)))))) (Yk (Yak (Ye7 (Ybj (Yb (Yo vt hr rfl (Yc (Yj 4) (Yc (Yj 1) (Yc (Yj 2) (Yc (Yj 3) Yl)))) (Ye (Ye (Ye (Ye (fun _ _ h=>Yq h))))))))) (Yp (Yt Ycq)) Yab) (Yk (y0 5 sc_law.nd (Yo ub hr rfl (Yc (Yo uc hr rfl (Yc (Yj 0) (Yc Yg Yl)) (Ye (Ye (fun _ _ h=>Yq h)))) (Yc Yg Yl)) (Ye (Ye (fun _ _ h=>Yq h))))) (Yk (y0 6 sc_law.nd (Yad (Yc Yx (Yc (Yrb rfl rfl bl.Tuple rfl bl.Reversed (Yb (Yzf (Yb (Yi (Yd 1) (Yb Yg))) (Yb (Yad (Yc (Yo ucf hr rfl (Yc (Yi (Yd 1) (Yb Yg)) (Yc (Yj 5) Yl)) (Ye (Ye (fun _ _ h=>Yq h)))) Yl)))))) Yl)))) (Yk (y0 7 sc_law.nd (Yo ur hr rfl (Yc (Yj 6) (Yc (Yae (Yd1 Ycg Ygz rfl bl.List boot_list (Yr (Yd 2) Yu))) (Yc (Yj 3) Yl))) (Ye (Ye (Ye (fun _ _ h=>Yq h)))))) (Yp (Yt (Yjz (Yo vt hr rfl (Yc (Yj 7) (Yc (Yj 6) (Yc (Yj 2) (Yc (Yj 3) Yl)))) (Ye (Ye (Ye (Ye (fun _ _ h=>Yq h)))))) (Yg7 (Yd0 hr.units (Yb (Yi (Yd 7) (Yb Yg))) (Yb (Yi (Yd 4) (Yb Yg))))))))))))))
end
abbrev Ynw:Nat:=19
theorem all_mk{l:W.OpenLaw}{w:World}{K:W.Frag}{h:Heap}{mg:Str→Option Value}{fa uy ubg ut xt xu um u8 vv uz u0 xw uo u9 uh u3 vw ve uu uv uj vy uw vz v0 u4 ucg v5 vf vg v6 vh u5 v7 vi xx ubl:Addr}(X:K.In h)(G:h.Ns mainGlobals mg)(hfa:mg "law"=some (.ref fa))
 {uc5 uch:Option Addr} {uc6:Array (Option Value)} {uc7 uci ucj uck zr ucl:Value} {x4 ucy xi ubm ubn v8 zt uap x5 x6 ubo v9 zu u6 x8 uaq zv xj xk vm uar xl uas uat x9 uc0 uau zw zx uav zy za uaw zz ubp:FuncData}
 (z0:W.nsIn K mainGlobals "both_added"=some (some (.ref uy))) (z3:Fun K "both_added" "both_added" Yei uy x4)
 (uc1:W.nsIn K mainGlobals "added"=some (some (.ref ubg))) (uc2:Fun K "added" "added" Ym7 ubg ucy)
 (zb:W.nsIn K mainGlobals "pairs_added"=some (some (.ref ut))) (zc:Fun K "pairs_added" "pairs_added" Ydo ut xi)
 (ucm:W.nsIn K mainGlobals "cleared"=some (some (.ref xt))) (ucn:Fun K "cleared" "cleared" Yh7 xt ubm)
 (uco:W.nsIn K mainGlobals "reduced"=some (some (.ref xu))) (ucp:Fun K "reduced" "reduced" Yft xu ubn)
 (xm:W.nsIn K mainGlobals "either_holds"=some (some (.ref um))) (xn:Fun K "either_holds" "either_holds" Yby um v8)
 (uax:W.nsIn K mainGlobals "sum_holds"=some (some (.ref u8))) (uay:Fun K "sum_holds" "sum_holds" Ydk u8 zt)
 (ubq:W.nsIn K mainGlobals "if_holds"=some (some (.ref vv))) (ubr:Fun K "if_holds" "if_holds" Yej vv uap)
 (z4:W.nsIn K mainGlobals "rule_holds"=some (some (.ref uz))) (z7:Fun K "rule_holds" "rule_holds" Yel uz x5)
 (z9:W.nsIn K mainGlobals "beacons_in"=some (some (.ref u0))) (uaa:Fun K "beacons_in" "beacons_in" Ycu u0 x6)
 (ucq:W.nsIn K mainGlobals "is_void"=some (some (.ref xw))) (ucr:Fun K "is_void" "is_void" Yh8 xw ubo)
 (xo:W.nsIn K mainGlobals "beacons_with"=some (some (.ref uo))) (xp:Fun K "beacons_with" "beacons_with" Ybz uo v9)
 (uaz:W.nsIn K mainGlobals "is_rising"=some (some (.ref u9))) (ua0:Fun K "is_rising" "is_rising" Yff u9 zu)
 (vn:W.nsIn K mainGlobals "rows_by_beacon"=some (some (.ref uh))) (vo:Fun K "rows_by_beacon" "rows_by_beacon" Ybe uh u6)
 (uab:W.nsIn K mainGlobals "is_sum_row"=some (some (.ref u3))) (uac:Fun K "is_sum_row" "is_sum_row" Ycv u3 x8)
 (ubs:W.nsIn K mainGlobals "replaced"=some (some (.ref vw))) (ubt:Fun K "replaced" "replaced" Ygn vw uaq)
 (ua1:W.nsIn K mainGlobals "sums_good"=some (some (.ref ve))) (ua2:Fun K "sums_good" "sums_good" Ybr ve zv)
 (zd:W.nsIn K mainGlobals "keeper_good"=some (some (.ref uu))) (ze:Fun K "keeper_good" "keeper_good" Yce uu xj)
 (zf:W.nsIn K mainGlobals "last_beacon"=some (some (.ref uv))) (zg:Fun K "last_beacon" "last_beacon" Ydu uv xk)
 (xa:W.nsIn K mainGlobals "storms_places"=some (some (.ref uj))) (xb:Fun K "storms_places" "storms_places" Ybm uj vm)
 (ubu:W.nsIn K mainGlobals "sum_rows"=some (some (.ref vy))) (ubv:Fun K "sum_rows" "sum_rows" Ydc vy uar)
 (zh:W.nsIn K mainGlobals "sum_outcome"=some (some (.ref uw))) (zi:Fun K "sum_outcome" "sum_outcome" Ydv uw xl)
 (ubw:W.nsIn K mainGlobals "is_place"=some (some (.ref vz))) (ubx:Fun K "is_place" "is_place" Ygo vz uas)
 (uby:W.nsIn K mainGlobals "odd_good"=some (some (.ref v0))) (ubz:Fun K "odd_good" "odd_good" Yeq v0 uat)
 (uad:W.nsIn K mainGlobals "storm_good"=some (some (.ref u4))) (uae:Fun K "storm_good" "storm_good" Ycx u4 x9)
 (uc8:W.nsIn K mainGlobals "good"=some (some (.ref ucg))) (uc9:Fun K "good" "good" Yrj ucg uc0)
 (ub0:W.nsIn K mainGlobals "_law_cell"=some (some (.ref v5))) (ub1:Fun K "_law_cell" "_law_cell" Ygp v5 uau)
 (ua3:W.nsIn K mainGlobals "_law_mixed"=some (some (.ref vf))) (ua4:Fun K "_law_mixed" "_law_mixed" Yfh vf zw)
 (ua5:W.nsIn K mainGlobals "_law_hands"=some (some (.ref vg))) (ua6:Fun K "_law_hands" "_law_hands" Ydm vg zx)
 (ub2:W.nsIn K mainGlobals "_law_rule"=some (some (.ref v6))) (ub3:Fun K "_law_rule" "_law_rule" Yes v6 uav)
 (ua7:W.nsIn K mainGlobals "_law_plain"=some (some (.ref vh))) (ua8:Fun K "_law_plain" "_law_plain" Yco vh zy)
 (uaf:W.nsIn K mainGlobals "_law_truths"=some (some (.ref u5))) (uag:Fun K "_law_truths" "_law_truths" Ya7 u5 za)
 (ub4:W.nsIn K mainGlobals "_law_good"=some (some (.ref v7))) (ub5:Fun K "_law_good" "_law_good" Ygq v7 uaw)
 (ua9:W.nsIn K mainGlobals "_law_drawn"=some (some (.ref vi))) (uba:Fun K "_law_drawn" "_law_drawn" Ycp vi zz)
 (ucs:W.nsIn K mainGlobals "_law_sum"=some (some (.ref xx))) (uct:Fun K "_law_sum" "_law_sum" Yfv xx ubp)
 (udb:W.nsIn K mainGlobals "law"=some (some (.ref ubl))) (udc:K.lookup ubl=some ⟨uc7,uc5,.func (W.fnOf "law" "law" (defArgs Yhe) (defBody Yhe) (defScope Yhe) .none uci ucj uck uch zr ucl),uc6⟩) (udd:W.codeIn K zr "law"=true) (ude:W.keepIn K (.ref ubl)=true)
 (z_len:W.nsIn K mainGlobals "len"=some none)
 (z_range:W.nsIn K mainGlobals "range"=some none)
 (z_list:W.nsIn K mainGlobals "list"=some none)
 (z_tuple:W.nsIn K mainGlobals "tuple"=some none)
 (z_int:W.nsIn K mainGlobals "int"=some none)
 (z_bool:W.nsIn K mainGlobals "bool"=some none)
 (z_str:W.nsIn K mainGlobals "str"=some none)
 (z_sorted:W.nsIn K mainGlobals "sorted"=some none)
 (z_any:W.nsIn K mainGlobals "any"=some none)
 (z_all:W.nsIn K mainGlobals "all"=some none)
 (z_isinstance:W.nsIn K mainGlobals "isinstance"=some none)
 (z_enumerate:W.nsIn K mainGlobals "enumerate"=some none)
 (z_reversed:W.nsIn K mainGlobals "reversed"=some none)
 (z_set:W.nsIn K mainGlobals "set"=some none)
 (z_min:W.nsIn K mainGlobals "min"=some none)
 (z_dict:W.nsIn K mainGlobals "dict"=some none)
 : ∃fd:FuncData,(∀(s:Shared) (v:Value),BindsTo s fd ⟨[v],[]⟩ [("script",v)])∧∀base:Heap,K.In base→base.Ns mainGlobals mg→FnOk l.prog w K mg base CX0 Ynw fa fd ["script"] (spOf K 1 Yrs):=by
 have e:=hfa.symm.trans (W.mg_of X G udb)
 cases e
 have bl:Bl K w mg:=⟨W.mg_none_of X G z_len,W.mg_none_of X G z_range,W.mg_none_of X G z_list,W.mg_none_of X G z_tuple,W.mg_none_of X G z_int,W.mg_none_of X G z_bool,W.mg_none_of X G z_str,W.mg_none_of X G z_sorted,W.mg_none_of X G z_any,W.mg_none_of X G z_all,W.mg_none_of X G z_isinstance,W.mg_none_of X G z_enumerate,W.mg_none_of X G z_reversed,W.mg_none_of X G z_set,W.mg_none_of X G z_min,W.mg_none_of X G z_dict⟩
 have udf:=fun_mk (st:=Yhe) udc udd ude
 refine⟨W.fnOf "law" "law" (defArgs Yhe) (defBody Yhe) (defScope Yhe) .none uci ucj uck uch zr ucl,fun s v=>.of_eq rfl,fun base _ _=>?_⟩
 have ui:=Ym6 (P:=l.prog) (w:=w) (base:=base) bl  z3 (W.mg_of X G z0)
 have uc3:=Yzn (P:=l.prog) (w:=w) (base:=base) bl ui uc2 (W.mg_of X G uc1)
 have zj:=Yla (P:=l.prog) (w:=w) (base:=base) bl ui zc (W.mg_of X G zb)
 have ucu:=Yuc (P:=l.prog) (w:=w) (base:=base) bl zj ucn (W.mg_of X G ucm)
 have ucv:=Yud (P:=l.prog) (w:=w) (base:=base) bl ucu ucp (W.mg_of X G uco)
 have xq:=Ykc (P:=l.prog) (w:=w) (base:=base) bl  xn (W.mg_of X G xm)
 have ubb:=Ypc (P:=l.prog) (w:=w) (base:=base) bl  uay (W.mg_of X G uax)
 have ub6:=Yrd (P:=l.prog) (w:=w) (base:=base) bl  ubr (W.mg_of X G ubq)
 have uah:=Ym9 (P:=l.prog) (w:=w) (base:=base) bl xq ubb ub6 z7 (W.mg_of X G z4)
 have uai:=Ynb (P:=l.prog) (w:=w) (base:=base) bl  uaa (W.mg_of X G z9)
 have ucw:=Yuf (P:=l.prog) (w:=w) (base:=base) bl uai uah ucr (W.mg_of X G ucq)
 have ue:=Ykg (P:=l.prog) (w:=w) (base:=base) bl  xp (W.mg_of X G xo)
 have vj:=Ype (P:=l.prog) (w:=w) (base:=base) bl  ua0 (W.mg_of X G uaz)
 have vp:=Yia (P:=l.prog) (w:=w) (base:=base) bl  vo (W.mg_of X G vn)
 have uaj:=Ynd (P:=l.prog) (w:=w) (base:=base) bl vj uac (W.mg_of X G uab)
 have xc:=Yre (P:=l.prog) (w:=w) (base:=base) bl ui ubt (W.mg_of X G ubs)
 have ubc:=Yph (P:=l.prog) (w:=w) (base:=base) bl uaj vp xc ua2 (W.mg_of X G ua1)
 have zk:=Ylf (P:=l.prog) (w:=w) (base:=base) bl ue ubc ze (W.mg_of X G zd)
 have ux:=Ylh (P:=l.prog) (w:=w) (base:=base) bl  zg (W.mg_of X G zf)
 have xf:=Yi0 (P:=l.prog) (w:=w) (base:=base) bl ux xb (W.mg_of X G xa)
 have ub7:=Yrf (P:=l.prog) (w:=w) (base:=base) bl ux xc ubv (W.mg_of X G ubu)
 have zl:=Yli (P:=l.prog) (w:=w) (base:=base) bl ue ucv xf ub7 zi (W.mg_of X G zh)
 have ub8:=Yrh (P:=l.prog) (w:=w) (base:=base) bl  ubx (W.mg_of X G ubw)
 have ub9:=Yri (P:=l.prog) (w:=w) (base:=base) bl vj ub8 uc3 ucw ubz (W.mg_of X G uby)
 have uak:=Yng (P:=l.prog) (w:=w) (base:=base) bl ue ub9 uae (W.mg_of X G uad)
 have uda:=y3c (P:=l.prog) (w:=w) (base:=base) bl zk uak uc9 (W.mg_of X G uc8)
 have xg:=Yrl (P:=l.prog) (w:=w) (base:=base) bl  ub1 (W.mg_of X G ub0)
 have uf:=Ypo (P:=l.prog) (w:=w) (base:=base) bl  ua4 (W.mg_of X G ua3)
 have ubd:=Ypp (P:=l.prog) (w:=w) (base:=base) bl uf ua6 (W.mg_of X G ua5)
 have uca:=Yrm (P:=l.prog) (w:=w) (base:=base) bl uf ub3 (W.mg_of X G ub2)
 have ube:=Yp0 (P:=l.prog) (w:=w) (base:=base) bl  ua8 (W.mg_of X G ua7)
 have ual:=Ynk (P:=l.prog) (w:=w) (base:=base) bl  uag (W.mg_of X G uaf)
 have ucb:=Yro (P:=l.prog) (w:=w) (base:=base) bl ube ual uda ub5 (W.mg_of X G ub4)
 have ubf:=Yp3 (P:=l.prog) (w:=w) (base:=base) bl xg ubd uf uca uba (W.mg_of X G ua9)
 have ucx:=Yug (P:=l.prog) (w:=w) (base:=base) bl  uct (W.mg_of X G ucs)
 exact y6p bl ubf zl ucb xg uf ucx udf
theorem walk(hlaw:∀ns:List Int,ns.length≤63→Yrs [.scr ns]=some (.bl true)){l:W.OpenLaw}{q:Program}{loose:List Str}{XP:(Str→Option Value)→Heap→Prop}{YP:World→Heap→Prop}{d:DefRec}{K:Params→W.Frag}(hn:l.most=some 63)(hdf:d.params.defaults=[])
 (hY:∀(w:World) (h:Heap),YP w h→(K w.params).In h)
 (F:∀(w:World) (mg:Str→Option Value) (fa:Addr) (h:Heap),(K w.params).In h→h.Ns mainGlobals mg→mg d.name=some (.ref fa)→
  ∃fd:FuncData,(∀(s:Shared) (u:Value),BindsTo s fd ⟨[u],[]⟩ [("script",u)])∧∀base:Heap,(K w.params).In base→base.Ns mainGlobals mg→FnOk l.prog w (K w.params) mg base CX0 Ynw fa fd ["script"] (spOf (K w.params) 1 Yrs)) :
 W.WalkO q loose XP YP l.row.toRowW d [] (fun f vs=>PySem.call f vs):=
 L2.walk_of (n:=63) (k:=Ynw) (x:="script") (CX:=fun _=>CX0) (sp:=fun w=>spOf (K w.params) 1 Yrs) hn (by decide) hdf ⟨rfl,by decide,by decide⟩ hY F
  (fun w H a ns hl _ hS=>⟨rfl,[.scr ns],.bl true,H,Same.refl H,.one (by rw[Rp];exact⟨a,rfl,hS⟩),hlaw ns hl,fun v H' G' g r=>by rw[Rp]at r;exact r⟩) fun _ _ _ _ _ z=>z
end Lw
end
namespace Lw
open PySem L2 M Bk
theorem Ys2:∀(l acc:List Int) (x:Int),x∈ddup acc l↔x∈acc∨x∈l
 | [],acc,x=>by simp[ddup]
 | k::l,acc,x=>by
   rw[ddup,Ys2]
   by_cases h:k∈acc
   ·rw[if_pos h]
    simp
    constructor
    ·rintro(h1 | h1)
     ·exact .inl h1
     ·exact .inr (.inr h1)
    ·rintro(h1 | h1 | h1)
     ·exact .inl h1
     ·subst h1;exact .inl h
     ·exact .inr h1
   ·rw[if_neg h]
    simp[or_assoc]
theorem Yl1:∀(l acc:List Int),acc.Nodup→(ddup acc l).Nodup
 | [],_,h=>h
 | k::l,acc,h=>by
   rw[ddup]
   refine Yl1 l _ ?_
   by_cases hk:k∈acc
   ·rw[if_pos hk];exact h
   ·rw[if_neg hk,List.nodup_append]
    refine⟨h,by simp,fun x hx y hy z=>?_⟩
    simp at hy
    subst hy
    exact hk (z ▸ hx)
theorem Ys3{n:Nat}(hn:n < 64)(l:List Nat)(h:∀x∈l,x < n)(hl:l.length < 4000):∃l':List Nat,l'.Pairwise (· < ·)∧(∀x,x∈l'↔x∈l)∧Yt1 (l.map nD)=some (l'.map nD):=by
 have e1:l.map nD=(l.map Int.ofNat).map D.int:=by simp[nD,Function.comp_def]
 generalize hd:ddup [] (l.map Int.ofNat)=d
 have hnd:d.Nodup:=by rw[←hd];exact Yl1 _ _ .nil
 have hmem:∀x,x∈d↔∃y∈l,(y:Int)=x:=fun x=>by rw[←hd,Ys2];simp
 have hp:=Yan d
 have hs:=Yar d
 obtain⟨l',e2⟩:∃l':List Nat,Ybn d=l'.map Int.ofNat:=by
  refine⟨(Ybn d).map Int.toNat,?_⟩
  rw[Qj]
  refine(List.map_id _).symm.trans (List.map_congr_left fun x hx=>?_)
  obtain⟨y,_,rfl⟩:=(hmem x).mp (hp.mem_iff.mp hx)
  simp[Function.comp_def]
 have hm2:∀x,x∈l'↔x∈l:=fun x=>by
  have h1:x∈l'↔(x:Int)∈Ybn d:=by
   rw[e2]
   constructor
   ·exact fun h=>Qm (f:=Int.ofNat) h
   ·intro h
    obtain⟨y,hy,hyx⟩:=qx h
    have:y=x:=by simpa using hyx
    exact this ▸ hy
  rw[h1,hp.mem_iff,hmem]
  constructor
  ·rintro⟨y,hy,hyx⟩
   have:y=x:=by omega
   exact this ▸ hy
  ·exact fun h=>⟨x,h,rfl⟩
 have hpw:l'.Pairwise (· < ·):=by
  rw[e2]at hp hs
  have hn':l'.Nodup:=by
   have:=hp.nodup_iff.mpr hnd
   rw[List.nodup_iff_pairwise_ne,List.pairwise_map]at this
   exact this.imp fun h z=>h (by rw[z])
  have hs':l'.Pairwise (·≤·):=(List.pairwise_map.mp hs).imp fun h=>by simpa using h
  exact(hs'.and hn').imp fun h=>Nat.lt_of_le_of_ne h.1 h.2
 have hlen:d.length≤n:=by
  rw[←hp.length_eq,e2,qf]
  exact y6l hpw fun x hx=>h x ((hm2 x).mp hx)
 refine⟨l',hpw,hm2,?_⟩
 unfold Yt1
 rw[e1,Yj3]
 dsimp only
 rw[if_pos ⟨by rw[qf];exact hl,by rw[hd];omega⟩,hd,e2]
 simp[nD,Function.comp_def]
end Lw
namespace Lw
open PySem L2 M Bk
theorem Yp5(ns:List Int)(k:Nat):Yax [.scr ns,.int k]=some (.int (ns.getD k 0)):=by
 rw[Yax,Yac (by rfl)]
 by_cases h:k < ns.length
 ·have e:atI (ns.map D.int) (k:Int)=some (.int ns[k]):=by
   rw[Ye9,Yfs h]
   rfl
  simp[Yie,Yw,h,e]
 ·simp[Yie,Yw,h]
end Lw
namespace Lw
open PySem L2 M Bk
theorem y3e(ns:List Int)(a b:Nat):cutD (ns.map D.int) (some (a:Int)) (some (b:Int))=((ns.drop (min a ns.length)).take (min b ns.length - min a ns.length)).map D.int:=by
 unfold cutD
 rw[HT.sIx_nat,HT.sIx_nat]
 simp
theorem drawn{fe:Ro→Option D}{r:Ro}{P:Rl→Prop}(h:∀c:Int,∃x:Rl,P x∧fe (some (.sh (.int c))::r)=some (rlD x)):∀cells:List Int,∃R:List Rl,R.length=cells.length∧(∀x∈R,P x)∧Yg0 (gSet 0) tY fe (none::r) (cells.map D.int)=some (R.map rlD)
 | []=>⟨[],rfl,fun _ h=>(nomatch h),rfl⟩
 | c::cells=>by
   obtain⟨R,h1,h2,h3⟩:=drawn h cells
   obtain⟨x,hx,hr⟩:=h c
   refine⟨x::R,by simp[h1],fun y hy=>?_,?_⟩
   ·rcases qt hy with rfl | hy
    ·exact hx
    ·exact h2 y hy
   ·rw[Qd,Yg0,h3]
    simp[hr]
end Lw
namespace Lw
open PySem L2 M Bk
theorem Ynx(c m:Int):∃v:Int,0≤v∧Yao [.int c,.int m]=some (.int v):=by
 refine⟨c % 2305843009213693951 * m % 2305843009213693951,Int.emod_nonneg _ (by decide),?_⟩
 rw[Yao,Yac (by rfl)]
 have h1:0≤c % 2305843009213693951:=Int.emod_nonneg _ (by decide)
 have h2:c % 2305843009213693951 < 2305843009213693951:=Int.emod_lt_of_pos _ (by decide)
 have h3:mulI (.int (c % 2305843009213693951)) (.int m)=some (.int (c % 2305843009213693951 * m)):=Yzg ⟨by omega,by omega⟩
 simp[Ykp,Yw,h3]
end Lw
namespace Lw
open PySem L2 M Bk
section
variable {c:D} {ev:List Bool} (hc:Yn c=some (ev.map D.bl))
include hc
theorem Ylm{l:List Say}(hl:∀s∈l,s.1 < ev.length):Ybk [rlD (.ei l),c]=some (.bl (l.any fun s=>at' ev s.1==s.2)):=by
 have h:=Yfb (fe:=Yb8) (r:=[some (.sh c)]) (enc:=sayD) (fun s=>.bl (at' ev s.1==s.2)) (l:=l) (fun s hs=>by
  simp[Yb8,hc,Yzi (hl s hs)])
 rw[Ybk,Yac (by rfl)]
 simp[Yf4,Yw,capR,h,Function.comp_def]
theorem Yrt{b:List Nat}{o:Bool}(hl:∀x∈b,x < ev.length):Yda [rlD (.su b o),c]=some (.bl (decide ((b.filter (at' ev)).length % 2=1)==o)):=by
 have h:=Ys0 (fc:=Ydp) (fe:=Ydq) (r:=[some (.sh c)]) (enc:=nD) (at' ev) nD (l:=b) (fun s hs=>by
  simp[Ydp,hc,nD,Yzi (hl s hs)]) (fun s _ _=>by simp[Ydq])
 have e:∀n:Nat,decide (((n:Nat):Int) % 2=1)=decide (n % 2=1):=fun n=>by
  by_cases z:n % 2=1
  ·have:((n:Nat):Int) % 2=1:=by omega
   simp[z,this]
  ·have:¬((n:Nat):Int) % 2=1:=by omega
   simp[z,this]
 rw[Yda,Yac (by rfl)]
 simp[Ykd,Yw,capR,h,e]
theorem Yl2{b:List Nat}{h:Option Nat}{w:Bool}(hl:∀x∈b,x < ev.length)(hh:∀x,h=some x→x < ev.length):Yd4 [rlD (.im b h),c,.bl w]=some (.bl ((b.any fun x=>at' ev x != w)||hd ev w h)):=by
 have h1:=Yfb (fe:=Yek) (r:=[some (.sh c),some (.sh (.bl w))]) (enc:=nD) (fun x=>.bl (at' ev x != w)) (l:=b) (fun s hs=>by
  simp[Yek,hc,nD,Yzi (hl s hs),bne])
 rw[Yd4,Yac (by rfl)]
 cases hb:(b.any fun x=>at' ev x != w)with
 | true=>simp[Yfu,Yw,capR,h1,Function.comp_def,hb]
 | false=>
   cases h with
   | none=>simp[Yfu,Yw,capR,h1,Function.comp_def,hb,optD,hd]
   | some x=>simp[Yfu,Yw,capR,h1,Function.comp_def,hb,optD,hd,hc,Yzi (hh x rfl)]
theorem Yp6{k:Kd}{r:Rl}(hr:In k ev.length r):Yck [kdD k,rlD r,c]=some (.bl (so k ev r)):=by
 rw[Yck,Yac (by rfl)]
 cases r with
 | ei l=>
   obtain⟨rfl,hl⟩:=hr
   simp[Ycj,Yw,Ylm hc hl,so]
 | su b o=>
   obtain⟨rfl,hl⟩:=hr
   simp[Ycj,Yw,Yrt hc hl,so]
 | im b h=>
   obtain⟨hk,hl,hh⟩:=hr
   rcases hk with rfl | rfl
   ·simp[Ycj,Yw,Yl2 hc hl hh,so]
   ·simp[Ycj,Yw,Yl2 hc hl hh,so]
end
end Lw
namespace Lw
open PySem L2 M Bk
theorem Yp7{k:Kd}{n:Nat}{r:Rl}(hr:In k n r)(hs:sz r≤999999):Ycm [kdD k,rlD r]=some (.lst ((bcs r).map nD)):=by
 rw[Ycm,Yac (by rfl)]
 cases r with
 | ei l=>
   obtain⟨rfl,_⟩:=hr
   have h:=Yfb (fe:=Ydb) (r:=[]) (enc:=sayD) (fun s=>nD s.1) (l:=l) (fun s _=>by simp[Ydb])
   simp[Ycl,Yw,capR,h,bcs,Function.comp_def]
 | su b o=>
   obtain⟨rfl,_⟩:=hr
   simp[Ycl,Yw,bcs]
 | im b h=>
   obtain⟨hk,_⟩:=hr
   have hke:¬k=.e:=by rcases hk with rfl | rfl<;>decide
   have hks:¬k=.s:=by rcases hk with rfl | rfl<;>decide
   have hs':b.length+1≤1000000:=by simp[sz]at hs;omega
   cases h with
   | none=>simp[Ycl,Yw,bcs,hke,hks,optD]
   | some x=>simp[Ycl,Yw,bcs,hke,hks,optD,catD,hs']
end Lw
namespace Lw
open PySem L2 M Bk
end Lw
namespace Lw
open PySem L2 M Bk
theorem Yxa{k:Kd}{n:Nat}{r:Rl}(hr:In k n r)(hs:sz r≤999999):Yfe [kdD k,rlD r]=some (.bl (eqD (rlD r) (rlD (vd k)))):=by
 rw[Yfe,Yac (by rfl)]
 have hb:=Yp7 hr hs
 by_cases h0:bcs r=[]
 ·have hin:In k 0 r:=by
   cases r with
   | ei l=>
     simp[bcs]at h0
     subst h0
     exact⟨hr.1,by simp⟩
   | su l o=>
     simp[bcs]at h0
     subst h0
     exact⟨hr.1,by simp⟩
   | im l o=>
     cases o with
     | none=>
       simp[bcs]at h0
       subst h0
       exact⟨hr.1,by simp,by simp⟩
     | some x=>simp[bcs]at h0
  have hh:=Yp6 (c:=.tup []) (ev:=[]) rfl (k:=k) (r:=r) hin
  have he:eqD (rlD r) (rlD (vd k))=!so k [] r:=by
   cases r with
   | ei l=>
     obtain⟨rfl,_⟩:=hr
     simp[bcs]at h0
     subst h0
     simp[rlD,vd,so]
   | su l o=>
     obtain⟨rfl,_⟩:=hr
     simp[bcs]at h0
     subst h0
     cases o<;>simp[rlD,vd,so]
   | im l o=>
     cases o with
     | none=>
       simp[bcs]at h0
       subst h0
       have:eqD .non .non=true:=by simp[eqD,toPy,PyData.eqv]
       rcases hr.1 with rfl | rfl<;>simp[rlD,vd,so,optD,hd,this]
     | some x=>simp[bcs]at h0
  rw[h0]at hb
  simp at hb
  simp[Yke,Yw,hb,hh,he]
 ·have hlen:¬((bcs r).length:Int)=0:=by
   intro z
   exact h0 (List.length_eq_zero_iff.mp (by omega))
  have he:eqD (rlD r) (rlD (vd k))=false:=by
   cases r with
   | ei l=>
     obtain⟨rfl,_⟩:=hr
     cases l with
     | nil=>simp[bcs]at h0
     | cons s l=>simp[rlD,vd]
   | su l o=>
     obtain⟨rfl,_⟩:=hr
     cases l with
     | nil=>simp[bcs]at h0
     | cons s l=>simp[rlD,vd]
   | im l o=>
     have e1:∀x:Nat,eqD (.int (x:Int)) .non=false:=fun x=>by simp[eqD,toPy,PyData.eqv]
     cases l with
     | nil=>cases o with
       | none=>simp[bcs]at h0
       | some x=>rcases hr.1 with rfl | rfl<;>simp[rlD,vd,optD,e1]
     | cons s l=>rcases hr.1 with rfl | rfl<;>simp[rlD,vd]
  simp[Yke,Yw,hb,h0,he]
end Lw
namespace Lw
open PySem L2 M Bk
noncomputable abbrev fl(n:Nat)(P:Nat→Bool):List Nat:=(List.range n).filter P
theorem y3f{n:Nat}{l:List Nat}(hp:l.Pairwise (· < ·))(h:∀x∈l,x < n):l=fl n fun x=>decide (x∈l):=by
 have h1:(fl n fun x=>decide (x∈l)).Pairwise (· < ·):=List.pairwise_lt_range.filter _
 have nd:∀{m:List Nat},m.Pairwise (· < ·)→m.Nodup:=fun h=>h.imp qm
 have hperm:l.Perm (fl n fun x=>decide (x∈l)):=(List.perm_ext_iff_of_nodup (nd hp) (nd h1)).mpr fun x=>by
  rw[Ql,List.mem_range]
  constructor
  ·exact fun hx=>⟨h x hx,by simpa using hx⟩
  ·exact fun hx=>by simpa using hx.2
 exact hperm.eq_of_pairwise (le:=(· < ·)) (fun a b _ _ h1 h2=>absurd (Nat.lt_trans h1 h2) (Qg _)) hp h1
theorem Ykw(l:List Nat):intsD (l.map nD)=some (l.map fun x:Nat=>(x:Int)):=Yfa (fun x:Nat=>(x:Int)) l
theorem mem_castI{l:List Nat}{x:Nat}:(x:Int)∈l.map (fun y:Nat=>(y:Int))↔x∈l:=by
 constructor
 ·intro h
  obtain⟨y,hy,e⟩:=qx h
  have:y=x:=by omega
  exact this ▸ hy
 ·exact fun h=>Qm (f:=fun y:Nat=>(y:Int)) h
theorem Yis(n:Nat)(P:Nat→Bool):(fl n P).length≤n:=by
 have:=List.length_filter_le P (List.range n)
 simpa using this
theorem Ys4{n:Nat}{m:List Int}{R:Nat→Bool}(hn:m.Nodup)(h:∀x:Int,x∈m↔∃y:Nat,y∈fl n R∧(y:Int)=x):Ybn m=(fl n R).map fun y:Nat=>(y:Int):=by
 have hs:((fl n R).map fun y:Nat=>(y:Int)).Pairwise (·≤·):=by
  rw[List.pairwise_map]
  exact(List.pairwise_lt_range.filter R).imp fun h=>by omega
 have hnd:((fl n R).map fun y:Nat=>(y:Int)).Nodup:=by
  rw[List.nodup_iff_pairwise_ne,List.pairwise_map]
  exact(List.pairwise_lt_range.filter R).imp fun h=>by omega
 have hperm:m.Perm ((fl n R).map fun y:Nat=>(y:Int)):=(List.perm_ext_iff_of_nodup hn hnd).mpr fun x=>by
  rw[h,List.mem_map]
 exact W.ksm_same ((Yan m).trans hperm) (Yar m) hs
theorem Yxb{n:Nat}(hn:n < 64)(P Q:Nat→Bool):Ywg ((fl n P).map nD) ((fl n Q).map nD)=some ((fl n fun x=>P x != Q x).map nD):=by
 unfold Ywg
 rw[Ykw,Ykw,qd,qd]
 have lp:=Yis n P
 have lq:=Yis n Q
 generalize ha:((fl n P).map fun x:Nat=>(x:Int))=a
 generalize hb:((fl n Q).map fun x:Nat=>(x:Int))=b
 have la:a.length≤n:=by rw[←ha,qf];exact lp
 have lb:b.length≤n:=by rw[←hb,qf];exact lq
 have dlen:∀l:List Int,(ddup [] l).length≤l.length:=fun l=>by
  have:∀(r acc:List Int),(ddup acc r).length≤acc.length+r.length:=fun r=>by
   induction r with
   | nil=>intro acc;simp[ddup]
   | cons k r ih=>
     intro acc
     rw[ddup]
     refine Nat.le_trans (ih _) ?_
     split<;>simp<;>omega
  simpa using this l []
 have hmem:∀x:Int,x∈xorI a b↔∃y:Nat,y∈(fl n fun x=>P x != Q x)∧(y:Int)=x:=fun x=>by
  rw[Yst,←ha,←hb]
  constructor
  ·intro h
   by_cases h1:x∈(fl n P).map fun x:Nat=>(x:Int)
   ·obtain⟨y,hy,rfl⟩:=qx h1
    refine⟨y,?_,rfl⟩
    rw[mem_castI,mem_castI]at h
    rw[Ql]at hy h ⊢
    refine⟨hy.1,?_⟩
    cases hq:Q y
    ·rw[hy.2];rfl
    ·exact absurd ⟨fun _=>(List.mem_filter.mpr hy),fun _=>⟨hy.1,hq⟩⟩ h
   ·by_cases h2:x∈(fl n Q).map fun x:Nat=>(x:Int)
    ·obtain⟨y,hy,rfl⟩:=qx h2
     refine⟨y,?_,rfl⟩
     rw[mem_castI]at h1
     rw[Ql]at hy h1 ⊢
     refine⟨hy.1,?_⟩
     cases hq:P y
     ·rw[hy.2];rfl
     ·exact absurd ⟨hy.1,hq⟩ h1
    ·exact absurd ⟨fun z=>absurd z h2,fun z=>absurd z h1⟩ h
  ·rintro⟨y,hy,rfl⟩
   rw[mem_castI,mem_castI,Ql,Ql]
   rw[Ql]at hy
   obtain⟨h1,h2⟩:=hy
   intro h
   cases hp:P y<;>cases hq:Q y<;>simp[hp,hq,h1]at h h2<;>(have:=Qb h1;omega)
 have hlen:(xorI a b).length≤n:=by
  have e:=Ys4 (Ymv a b) hmem
  have:=(Yan (xorI a b)).length_eq
  rw[e,qf]at this
  rw[←this]
  exact Yis _ _
 have hall:(b.all fun k=>decide (0≤k∧k < 1024))=true:=by
  rw[List.all_eq_true]
  intro k hk
  rw[←hb]at hk
  obtain⟨y,hy,rfl⟩:=qx hk
  have:=Qb (Qc hy).1
  simp
  omega
 have d1:=dlen a
 have d2:=dlen b
 rw[if_pos ⟨by omega,by omega,by omega,by omega,hall,by omega⟩,Ys4 (Ymv a b) hmem,Qj]
 rfl
noncomputable abbrev sumD(P:Nat→Bool)(o:Bool):D:=.tup [.tup ((fl 60 P).map nD),.bl o]
theorem Yfl(P Q:Nat→Bool)(o o':Bool):Yaj [sumD P o,sumD Q o']=some (sumD (fun x=>P x != Q x) (o != o')):=by
 rw[Yaj,Yac (by rfl)]
 have h:=Yxb (n:=60) (by decide) P Q
 have hl:=Yis 60 fun x=>P x != Q x
 have hne:(!(o==o'))=(o != o'):=rfl
 have hst:Yw 2 [sumD P o,sumD Q o']=[some (.sh (sumD P o)),some (.sh (sumD Q o'))]:=rfl
 have hi1:Yn (sumD P o)=some [.tup ((fl 60 P).map nD),.bl o]:=rfl
 have hi2:Yn (sumD Q o')=some [.tup ((fl 60 Q).map nD),.bl o']:=rfl
 rw[hst]
 generalize sumD P o=S1 at *
 generalize sumD Q o'=S2 at *
 generalize (fl 60 P).map nD=A at *
 generalize (fl 60 Q).map nD=B at *
 simp[Yiq,h,hi1,hi2,hne]
end Lw
namespace Lw
open PySem L2 M Bk
noncomputable abbrev Sm:=(Nat→Bool) × Bool
noncomputable abbrev smD(r:Sm):D:=sumD r.1 r.2
noncomputable def rg(R:List Sm)(p:Nat):Sm:=R.getD p (fun _=>false,false)
noncomputable def oddP(R:List Sm)(ps:List Nat)(x:Nat):Nat:=(ps.filter fun p=>decide (x∈fl 60 (rg R p).1)).length
noncomputable def oddO(R:List Sm)(ps:List Nat):Bool:=ps.foldl (fun o p=>o != (rg R p).2) false
theorem Yi8(R:List Sm)(ps:List Nat)(p x:Nat):oddP R (ps++[p]) x=if x∈fl 60 (rg R p).1 then oddP R ps x+1 else oddP R ps x:=by
 unfold oddP
 rw[List.filter_append,qz]
 by_cases h:x∈fl 60 (rg R p).1
 ·rw[if_pos h,List.filter_cons_of_pos (by simpa using h)];rfl
 ·rw[if_neg h,List.filter_cons_of_neg (by simpa using h)];rfl
theorem Yny(R:List Sm)(ps:List Nat)(p:Nat):oddO R (ps++[p])=(oddO R ps != (rg R p).2):=by
 unfold oddO
 rw[List.foldl_append]
 rfl
theorem Yig{P Q:Nat→Bool}{o:Bool}(h:∀x,x < 60→P x=Q x):sumD P o=sumD Q o:=by
 have:fl 60 P=fl 60 Q:=List.filter_congr fun x hx=>h x (Qb hx)
 unfold sumD
 rw[this]
theorem y6q{R:List Sm}{p:Nat}(h:p < R.length):atI (R.map smD) (p:Int)=some (smD (rg R p)):=by
 rw[Ye9,Yfs h]
 simp[rg,h]
noncomputable abbrev totD(R:List Sm)(ps:List Nat):D:=sumD (fun x=>decide (oddP R ps x % 2=1)) (oddO R ps)
end Lw
namespace Lw
open PySem L2 M Bk
theorem Yzo(R:List Sm)(q:List Nat)(p:Nat):sumD (fun x=>decide (oddP R q x % 2=1) != (rg R p).1 x) (oddO R q != (rg R p).2)=totD R (q++[p]):=by
 unfold totD
 rw[Yny]
 refine Yig fun x hx=>?_
 rw[Yi8]
 by_cases h:(rg R p).1 x=true
 ·rw[if_pos (List.mem_filter.mpr ⟨List.mem_range.mpr hx,h⟩),h]
  by_cases z:oddP R q x % 2=1
  ·have z2:¬(oddP R q x+1) % 2=1:=by omega
   simp[z,z2]
  ·have z2:(oddP R q x+1) % 2=1:=by omega
   simp[z,z2]
 ·rw[if_neg fun z=>h (Qc z).2]
  simp[h]
theorem y3g{cp:D}{R:List Sm}{ps:List Nat}(hp:Yn cp=some (ps.map nD))(hlt:∀p∈ps,p < R.length):Yh6 [.tup [.str "sums",.tup (R.map smD)],cp]=some (totD R ps):=by
 rw[Yh6,Yac (by rfl)]
 generalize hb:D.tup [.str "sums",.tup (R.map smD)]=Bo
 have hbi:Yn Bo=some [.str "sums",.tup (R.map smD)]:=by rw[←hb];rfl
 have h0:totD R []=.tup [.tup [],.bl false]:=by
  have:(fl 60 fun x=>decide (oddP R [] x % 2=1))=[]:=by
   rw[List.filter_eq_nil_iff]
   intro x _
   simp[oddP]
  unfold totD sumD
  rw[this]
  rfl
 obtain⟨ρ1,e1,y3,rfl⟩:=Yeg (gt:=gSet 3) (fb:=Yh5) nD (fun pre ρ=>∃y3:Option B,ρ=[some (.sh Bo),some (.sh cp),some (.sh (totD R pre)),y3]) ps []
  [some (.sh Bo),some (.sh cp),some (.sh (.tup [.tup [],.bl false])),none] ⟨none,by rw[h0]⟩ (by
   rintro q p r ρ e ⟨y3,rfl⟩
   have hpl:p < R.length:=hlt p (by rw[Qn]at e;rw[e];simp)
   have hat:=y6q hpl
   have hba:=Yfl (fun x=>decide (oddP R q x % 2=1)) (rg R p).1 (oddO R q) (rg R p).2
   rw[Yzo]at hba
   refine⟨_,[some (.sh Bo),some (.sh cp),some (.sh (totD R (q++[p]))),some (.sh (nD p))],rfl,?_,_,rfl⟩
   have hpn:nD p=.int (p:Int):=rfl
   rw[hpn]
   generalize totD R (q++[p])=T2 at *
   generalize R.map smD=A at *
   have hat':atI A (p:Int)=some (sumD (rg R p).1 (rg R p).2):=hat
   generalize sumD (rg R p).1 (rg R p).2=S at *
   change Yaj [totD R q,S]=_ at hba
   generalize totD R q=T1 at *
   simp[Yh5,hbi,hat',hba])
 have hst:Yw 4 [Bo,cp]=[some (.sh Bo),some (.sh cp),none,none]:=rfl
 rw[hst]
 rw[Qn]at e1
 generalize totD R ps=T at *
 simp[Yw8,hp]at e1 ⊢
 rw[e1]
 simp
end Lw
namespace Lw
open PySem L2 M Bk
theorem y6r{l:List Nat}(hp:l.Pairwise (· < ·))(h:∀x∈l,x < 60)(o:Bool):D.tup [.tup (l.map nD),.bl o]=smD (fun x=>decide (x∈l),o):=by
 unfold smD sumD
 rw[←y3f hp h]
end Lw
namespace Lw
open PySem L2 M Bk
theorem Yxc(f g:Nat→Bool):∀l:List Nat,(l.filter fun p=>f p != g p).length+2 * (l.filter fun p=>f p&&g p).length=(l.filter f).length+(l.filter g).length
 | []=>rfl
 | a::l=>by
   have ih:=Yxc f g l
   cases hf:f a<;>cases hg:g a<;>simp[List.filter_cons,hf,hg]<;>omega
theorem Ynz(R:List Sm)(ps:List Nat):oddO R ps=decide ((ps.filter fun p=>(rg R p).2).length % 2=1):=by
 have key:∀(l:List Nat) (o:Bool),l.foldl (fun o p=>o != (rg R p).2) o=(o != decide ((l.filter fun p=>(rg R p).2).length % 2=1)):=fun l=>by
  induction l with
  | nil=>intro o;simp
  | cons a l ih=>
    intro o
    rw[List.foldl_cons,ih]
    cases h:(rg R a).2
    ·rw[List.filter_cons_of_neg (by simp[h])];simp
    ·rw[List.filter_cons_of_pos (p:=fun p=>(rg R p).2) h,qr]
     by_cases z:(l.filter fun p=>(rg R p).2).length % 2=1
     ·have z2:¬((l.filter fun p=>(rg R p).2).length+1) % 2=1:=by omega
      simp[z,z2]
     ·have z2:((l.filter fun p=>(rg R p).2).length+1) % 2=1:=by omega
      cases o<;>simp[z,z2]
 unfold oddO
 rw[key]
 simp
theorem y0m{a b c k:Nat}(h:a+2 * k=b+c):decide (a % 2=1)=(decide (b % 2=1) != decide (c % 2=1)):=by
 by_cases hb:b % 2=1<;>by_cases hc:c % 2=1
 ·have:¬a % 2=1:=by omega
  simp[this,hb,hc]
 ·have:a % 2=1:=by omega
  simp[this,hb,hc]
 ·have:a % 2=1:=by omega
  simp[this,hb,hc]
 ·have:¬a % 2=1:=by omega
  simp[this,hb,hc]
theorem Yru(R:List Sm)(W V:Nat→Bool):sumD (fun x=>decide (oddP R (fl 60 W) x % 2=1) != decide (oddP R (fl 60 V) x % 2=1)) (oddO R (fl 60 W) != oddO R (fl 60 V))=totD R (fl 60 fun p=>W p != V p):=by
 have hx:∀h:Nat→Bool,(((fl 60 fun p=>W p != V p).filter h).length+2 * ((List.range 60).filter fun p=>(W p&&h p)&&(V p&&h p)).length)=((fl 60 W).filter h).length+((fl 60 V).filter h).length:=fun h=>by
  have:=Yxc (fun p=>W p&&h p) (fun p=>V p&&h p) (List.range 60)
  rw[List.filter_filter,List.filter_filter,List.filter_filter]
  have e1:((List.range 60).filter fun p=>h p&&(W p != V p))=(List.range 60).filter fun p=>(W p&&h p) != (V p&&h p):=List.filter_congr fun p _=>by cases h p<;>cases W p<;>cases V p<;>rfl
  have e2:((List.range 60).filter fun p=>h p&&W p)=(List.range 60).filter fun p=>W p&&h p:=List.filter_congr fun p _=>by cases h p<;>cases W p<;>rfl
  have e3:((List.range 60).filter fun p=>h p&&V p)=(List.range 60).filter fun p=>V p&&h p:=List.filter_congr fun p _=>by cases h p<;>cases V p<;>rfl
  rw[e1,e2,e3]
  exact this
 unfold totD
 rw[Ynz,Ynz,Ynz,←y0m (hx fun p=>(rg R p).2)]
 refine Yig fun x _=>?_
 exact(y0m (hx fun p=>decide (x∈fl 60 (rg R p).1))).symm
noncomputable abbrev prD2(R:List Sm)(W:Nat→Bool):D:=.tup [.tup ((fl 60 W).map nD),totD R (fl 60 W)]
theorem Yn0(R:List Sm)(W V:Nat→Bool):Ybx [prD2 R W,prD2 R V]=some (prD2 R fun p=>W p != V p):=by
 rw[Ybx,Yac (by rfl)]
 have h:=Yxb (n:=60) (by decide) W V
 have hb:=Yfl (fun x=>decide (oddP R (fl 60 W) x % 2=1)) (fun x=>decide (oddP R (fl 60 V) x % 2=1)) (oddO R (fl 60 W)) (oddO R (fl 60 V))
 rw[Yru]at hb
 change Yaj [totD R (fl 60 W),totD R (fl 60 V)]=_ at hb
 have hst:Yw 2 [prD2 R W,prD2 R V]=[some (.sh (.tup [.tup ((fl 60 W).map nD),totD R (fl 60 W)])),some (.sh (.tup [.tup ((fl 60 V).map nD),totD R (fl 60 V)]))]:=rfl
 rw[hst]
 show _=some (D.tup [.tup ((fl 60 fun p=>W p != V p).map nD),totD R (fl 60 fun p=>W p != V p)])
 generalize totD R (fl 60 fun p=>W p != V p)=T3 at *
 generalize totD R (fl 60 W)=T1 at *
 generalize totD R (fl 60 V)=T2 at *
 generalize (fl 60 W).map nD=A at *
 generalize (fl 60 V).map nD=B at *
 generalize (fl 60 fun p=>W p != V p).map nD=C at *
 simp[Yhb,h,hb]
end Lw
namespace Lw
open PySem L2 M Bk
noncomputable def tP(R:List Sm)(W:Nat→Bool):Nat→Bool:=fun x=>decide (oddP R (fl 60 W) x % 2=1)
def Last(P:Nat→Bool)(b:Nat):Prop:=b < 60∧P b=true∧∀x,x < 60→P x=true→x≤b
theorem Yrv(P:Nat→Bool):fl 60 P=[]∨∃b,Last P b∧fl 60 P≠[]∧atI ((fl 60 P).map nD) (-1)=some (nD b):=by
 cases e:(fl 60 P).getLast? with
 | none=>exact .inl (List.getLast?_eq_none_iff.mp e)
 | some b=>
   right
   obtain⟨ys,hy⟩:=List.getLast?_eq_some_iff.mp e
   have hpw:(fl 60 P).Pairwise (· < ·):=List.pairwise_lt_range.filter _
   have hb:b∈fl 60 P:=by rw[hy];simp
   refine⟨b,⟨Qb (Qc hb).1,(Qc hb).2,fun x hx hp=>?_⟩,by rw[hy];simp,?_⟩
   ·have hm:x∈fl 60 P:=List.mem_filter.mpr ⟨List.mem_range.mpr hx,hp⟩
    rw[hy]at hm hpw
    rcases qv hm with hm | hm
    ·exact Nat.le_of_lt ((List.pairwise_append.mp hpw).2.2 x hm b (by simp))
    ·rw[List.mem_singleton.mp hm];exact qu _
   ·rw[hy,List.map_append]
    unfold atI ixN
    have hl:(ys.map nD++[b].map nD).length=ys.length+1:=by simp
    rw[hl,if_neg (by omega),if_pos (by omega)]
    have:((-1:Int)+((ys.length+1:Nat):Int)).toNat=ys.length:=by omega
    rw[this,qd]
    simp
theorem Last.uniq{P:Nat→Bool}{a b:Nat}(h:Last P a)(h':Last P b):a=b:=Nat.le_antisymm (h'.2.2 a h.1 h.2.1) (h.2.2 b h'.1 h'.2.1)
noncomputable abbrev Row:=Nat × (Nat→Bool)
noncomputable abbrev kyD(BL:List Row):List D:=(BL.map (·.1)).map nD
noncomputable abbrev rwD(R:List Sm)(BL:List Row):List D:=BL.map fun r=>prD2 R r.2
theorem Ys5{R:List Sm}{b:Nat}:∀{BL:List Row},b∈BL.map (·.1)→∃r∈BL,r.1=b∧Ya0 ((BL.map (·.1)).map fun x:Nat=>(x:Int)) (rwD R BL) (b:Int)=some (prD2 R r.2)
 | [],h=>(nomatch h)
 | r::BL,h=>by
   show ∃s∈r::BL,s.1=b∧Ya0 ((r.1:Int)::((BL.map (·.1)).map fun x:Nat=>(x:Int))) (prD2 R r.2::rwD R BL) (b:Int)=some (prD2 R s.2)
   rw[Ya0]
   by_cases e:r.1=b
   ·exact⟨r,qh,e,by rw[if_pos (by omega)]⟩
   ·have h':b∈BL.map (·.1):=by
     rcases qt h with z | z
     ·exact absurd z.symm e
     ·exact z
    obtain⟨s,h1,h2,h3⟩:=Ys5 (R:=R) h'
    exact⟨s,qg _ h1,h2,by rw[if_neg (by omega)];exact h3⟩
theorem y0n(R:List Sm)(W V:Nat→Bool)(x:Nat)(hx:x < 60):tP R (fun p=>W p != V p) x=(tP R W x != tP R V x):=by
 have h:=Yru R W V
 unfold totD sumD at h
 have h1:=congrArg (fun d=>match d with | D.tup [D.tup l,_]=>(M.intsD l) | _=>none) h
 dsimp only at h1
 rw[Ykw,Ykw]at h1
 have h2:((fl 60 fun x=>decide (oddP R (fl 60 W) x % 2=1) != decide (oddP R (fl 60 V) x % 2=1)).map fun x:Nat=>(x:Int))=((fl 60 fun x=>decide (oddP R (fl 60 fun p=>W p != V p) x % 2=1)).map fun x:Nat=>(x:Int)):=Option.some.inj h1
 have h3:x∈(fl 60 fun x=>decide (oddP R (fl 60 W) x % 2=1) != decide (oddP R (fl 60 V) x % 2=1))↔x∈(fl 60 fun x=>decide (oddP R (fl 60 fun p=>W p != V p) x % 2=1)):=by
  rw[←mem_castI,←mem_castI,h2]
 rw[Ql,Ql]at h3
 have hr:=List.mem_range.mpr hx
 show decide (oddP R (fl 60 fun p=>W p != V p) x % 2=1)=_
 cases e:decide (oddP R (fl 60 fun p=>W p != V p) x % 2=1)
 ·cases e2:(tP R W x != tP R V x)
  ·rfl
  ·exact absurd (h3.mp ⟨hr,e2⟩).2 (by rw[e];exact qi)
 ·exact(h3.mpr ⟨hr,e⟩).2.symm
theorem Yzp(R:List Sm)(W V:Nat→Bool):oddO R (fl 60 fun p=>W p != V p)=(oddO R (fl 60 W) != oddO R (fl 60 V)):=by
 have h:=Yru R W V
 unfold totD sumD at h
 have h1:=congrArg (fun d=>match d with | D.tup [_,.bl o]=>o | _=>false) h
 exact h1.symm
inductive Red (R:List Sm) (BL:List Row) (e:Bool):(Nat→Bool)→Bool→Prop
 | zero {T:Nat→Bool} {o:Bool}:(∀x,x < 60→T x=false)→(e=false→o=false)→Red R BL e T o
 | step {T:Nat→Bool} {o:Bool} (r:Row):r∈BL→Last T r.1→Red R BL e (fun x=>T x != tP R r.2 x) (o != oddO R (fl 60 r.2))→Red R BL e T o
theorem Last.congr{T T':Nat→Bool}{b:Nat}(h:Last T b)(e:∀x,x < 60→T x=T' x):Last T' b:=⟨h.1,by rw[←e b h.1];exact h.2.1,fun x hx hp=>h.2.2 x hx (by rw[e x hx];exact hp)⟩
theorem Red.congr{R:List Sm}{BL:List Row}{e:Bool}{T:Nat→Bool}{o:Bool}(h:Red R BL e T o):∀{T':Nat→Bool},(∀x,x < 60→T x=T' x)→Red R BL e T' o:=by
 induction h with
 | zero h0 h1=>exact fun ht=>.zero (fun x hx=>by rw[←ht x hx];exact h0 x hx) h1
 | step r hr hl _ ih=>exact fun ht=>.step r hr (hl.congr ht) (ih fun x hx=>by show(_ != _)=(_ != _);rw[ht x hx])
theorem Red.mono{R:List Sm}{BL BL':List Row}{e e':Bool}(hb:∀r∈BL,r∈BL')(he:e=true→e'=true){T:Nat→Bool}{o:Bool}(h:Red R BL e T o):Red R BL' e' T o:=by
 induction h with
 | zero h0 h1=>
   refine .zero h0 fun z=>h1 ?_
   cases e
   ·rfl
   ·rw[he rfl]at z;exact absurd z (by decide)
 | step r hr hl _ ih=>exact .step r (hb r hr) hl ih
theorem Yl3{R:List Sm}{BL:List Row}{n:Nat}(hB:∀r∈BL,Last (tP R r.2) r.1∧∀p,r.2 p=true→p < n)(d0:Option B):∀(k fuel:Nat) (W:Nat→Bool),(∀x,x < 60→tP R W x=true→x < k)→k < fuel→(∀p,W p=true→p < n)→
 ∃V:Nat→Bool,(∀p,V p=true→p < n)∧(fl 60 (tP R V)=[]∨∃b,Last (tP R V) b∧b∉BL.map (·.1))∧(∀(BL':List Row) (e:Bool),(∀r∈BL,r∈BL')→Red R BL' e (tP R V) (oddO R (fl 60 V))→Red R BL' e (tP R W) (oddO R (fl 60 W)))∧
  Yf1 (andT (b1 (b2 (b2 (getC 2) (kD (.int 1)) ixD) (kD (.int 0)) ixD) truD) (b2 (b2 (b2 (b2 (getC 2) (kD (.int 1)) ixD) (kD (.int 0)) ixD) (b1 (kD (.int 1)) negI) ixD) (getC 1) (hasN false))) Yfc fuel [d0,some (.sh (.dct false (kyD BL) (rwD R BL))),some (.sh (prD2 R W))] =
   some (.nx [d0,some (.sh (.dct false (kyD BL) (rwD R BL))),some (.sh (prD2 R V))])
 | k,0,W,_,h,_=>absurd h (Nat.not_lt_zero _)
 | k,fuel+1,W,hk,hf,hW=>by
   have hi:Yn (prD2 R W)=some [.tup ((fl 60 W).map nD),.tup [.tup ((fl 60 (tP R W)).map nD),.bl (oddO R (fl 60 W))]]:=rfl
   rw[Yf1]
   rcases Yrv (tP R W)with h0 | ⟨b,hb,hne,hat⟩
   ·refine⟨W,hW,.inl h0,fun _ _ _ z=>z,?_⟩
    rw[h0]at hi
    generalize prD2 R W=PW at *
    generalize kyD BL=K at *
    generalize rwD R BL=V at *
    simp[hi]
   ·have hemp:((fl 60 (tP R W)).map nD).isEmpty=false:=by
     cases e:fl 60 (tP R W)with
     | nil=>exact absurd e hne
     | cons a l=>rfl
    have hha:hasN false (.int (b:Int)) (.dct false (kyD BL) (rwD R BL))=some (decide (b∈BL.map (·.1))):=by
     rw[Yms,Ykw,Option.map_some]
     by_cases hm:b∈BL.map (·.1)
     ·rw[decide_eq_true hm,decide_eq_true (mem_castI.mpr hm)];rfl
     ·rw[decide_eq_false hm,decide_eq_false (fun z=>hm (mem_castI.mp z))];rfl
    have hnb:nD b=.int (b:Int):=rfl
    rw[hnb]at hat
    by_cases hm:b∈BL.map (·.1)
    ·obtain⟨r,hr,hrb,hfind⟩:=Ys5 (R:=R) hm
     have hg:getI (.dct false (kyD BL) (rwD R BL)) (.int (b:Int))=some (prD2 R r.2):=by
      rw[Yg2,Ykw,qd]
      exact hfind
     have hpa:=Yn0 R W r.2
     obtain⟨hrl,hrn⟩:=hB r hr
     rw[hrb]at hrl
     have hbk:b < k:=hk b hb.1 hb.2.1
     obtain⟨k',rfl⟩:∃k',k=k'+1:=⟨k - 1,by omega⟩
     obtain⟨V,v1,v2,v4,v3⟩:=Yl3 hB d0 k' fuel (fun p=>W p != r.2 p) (fun x hx hxt=>by
      rw[y0n R W r.2 x hx]at hxt
      have hxb:x≠b:=fun z=>by
       subst z
       rw[hb.2.1,hrl.2.1]at hxt
       exact qi hxt
      have hxl:x≤b:=by
       cases h1:tP R W x
       ·rw[h1]at hxt
        cases h2:tP R r.2 x
        ·rw[h2]at hxt;exact absurd hxt (by decide)
        ·exact hrl.2.2 x hx h2
       ·exact hb.2.2 x hx h1
      omega) (by omega) (fun p hp=>by
      cases h1:W p
      ·rw[h1]at hp
       cases h2:r.2 p
       ·rw[h2]at hp;exact absurd hp (by decide)
       ·exact hrn p h2
      ·exact hW p h1)
     refine⟨V,v1,v2,fun BL' e hs hv=>?_,?_⟩
     ·refine .step r (hs r hr) (hrb ▸ hb) ?_
      rw[←Yzp]
      exact(v4 BL' e hs hv).congr fun x hx=>y0n R W r.2 x hx
     rw[decide_eq_true hm]at hha
     have hi2:(fl 60 (tP R W)).map nD=(fl 60 (tP R W)).map nD:=rfl
     generalize hPW:prD2 R W=PW at *
     generalize hPX:prD2 R (fun p=>W p != r.2 p)=PX at *
     generalize prD2 R r.2=PR at *
     generalize kyD BL=K at *
     generalize rwD R BL=VV at *
     generalize (fl 60 (tP R W)).map nD=L at *
     simp[hi,hemp,hat,hha,Yfc,hg,hpa,-Yms,-Yg2]
     exact v3
    ·refine⟨W,hW,.inr ⟨b,hb,hm⟩,fun _ _ _ z=>z,?_⟩
     rw[decide_eq_false hm]at hha
     generalize prD2 R W=PW at *
     generalize kyD BL=K at *
     generalize rwD R BL=VV at *
     generalize (fl 60 (tP R W)).map nD=L at *
     simp[hi,hemp,hat,hha,-Yms]
theorem Yxd{R:List Sm}{BL:List Row}{n:Nat}(hB:∀r∈BL,Last (tP R r.2) r.1∧∀p,r.2 p=true→p < n)(W:Nat→Bool)(hW:∀p,W p=true→p < n) :
 ∃V:Nat→Bool,(∀p,V p=true→p < n)∧(fl 60 (tP R V)=[]∨∃b,Last (tP R V) b∧b∉BL.map (·.1))∧(∀(BL':List Row) (e:Bool),(∀r∈BL,r∈BL')→Red R BL' e (tP R V) (oddO R (fl 60 V))→Red R BL' e (tP R W) (oddO R (fl 60 W)))∧Yc9 [prD2 R W,.dct false (kyD BL) (rwD R BL)]=some (prD2 R V):=by
 obtain⟨V,h1,h2,h4,h3⟩:=Yl3 hB (some (.sh (prD2 R W))) 60 4000 W (fun x hx _=>hx) (by omega) hW
 refine⟨V,h1,h2,h4,?_⟩
 rw[Yc9,Yac (by rfl)]
 have hst:Yw 3 [prD2 R W,.dct false (kyD BL) (rwD R BL)]=[some (.sh (prD2 R W)),some (.sh (.dct false (kyD BL) (rwD R BL))),none]:=rfl
 rw[hst]
 generalize prD2 R W=PW at *
 generalize prD2 R V=PV at *
 generalize D.dct false (kyD BL) (rwD R BL)=DD at *
 rw[Ypa,Ygk]
 have e0:sSet 2 (getV 0) [some (.sh PW),some (.sh DD),none]=some (.nx [some (.sh PW),some (.sh DD),some (.sh PW)]):=rfl
 rw[e0,qd,Yef,Yj7,Ygk,h3,qd,Yef,Yj6]
 rfl
theorem Yxe(l:List Nat):plBL (l.map nD)=true:=by
 induction l with
 | nil=>rfl
 | cons a l ih=>
   rw[Qd,plBL,ih]
   rfl
theorem y6s(R:List Sm)(W:Nat→Bool):plB (prD2 R W)=true:=by
 have h1:=Yxe (fl 60 W)
 have h2:=Yxe (fl 60 (tP R W))
 show plB (.tup [.tup ((fl 60 W).map nD),.tup [.tup ((fl 60 (tP R W)).map nD),.bl (oddO R (fl 60 W))]])=true
 simp only[plB,plBL,h1,h2,Bool.and_self]
end Lw
namespace Lw
open PySem L2 M Bk
theorem Ys6{p:Nat}(hp:p < 60):fl 60 (fun x=>decide (x=p))=[p]:=by
 have h:=y3f (n:=60) (l:=[p]) (by simp) (by simpa using hp)
 have e:(fl 60 fun x=>decide (x∈[p]))=fl 60 fun x=>decide (x=p):=List.filter_congr fun x _=>by simp
 rw[←e]
 exact h.symm
theorem y3h(R:List Sm)(p:Nat):totD R [p]=smD (rg R p):=by
 have h0:oddO R [p]=(rg R p).2:=by
  unfold oddO
  rw[List.foldl_cons,List.foldl_nil]
  cases (rg R p).2<;>rfl
 unfold totD smD
 rw[h0]
 refine Yig fun x hx=>?_
 have:=Yi8 R [] p x
 rw[Qn]at this
 rw[this]
 have h1:oddP R [] x=0:=rfl
 rw[h1]
 cases e:(rg R p).1 x
 ·rw[if_neg fun z=>by rw[Ql,e]at z;exact qi z.2]
  rfl
 ·rw[if_pos (List.mem_filter.mpr ⟨List.mem_range.mpr hx,e⟩)]
  rfl
theorem y8l(R:List Sm){p:Nat}(hp:p < 60):D.tup [.tup [nD p],smD (rg R p)]=prD2 R fun x=>decide (x=p):=by
 show _=D.tup [.tup ((fl 60 fun x=>decide (x=p)).map nD),totD R (fl 60 fun x=>decide (x=p))]
 rw[Ys6 hp,y3h]
 rfl
noncomputable def voD:Option (Nat→Bool)→D
 | none=>.non
 | some U=>.tup ((fl 60 U).map nD)
def Yp8(R:List Sm)(n:Nat)(U:Option (Nat→Bool)):Prop:=∀U',U=some U'→fl 60 (tP R U')=[]∧oddO R (fl 60 U')=true∧∀p,U' p=true→p < n
def Yit(R:List Sm)(n:Nat)(BL:List Row):Prop:=(∀r∈BL,Last (tP R r.2) r.1∧∀p,r.2 p=true→p < n)∧(BL.map (·.1)).Nodup
theorem Yzq{R:List Sm}{n:Nat}(hn:n≤60){BL:List Row}{U:Option (Nat→Bool)}(hB:Yit R n BL)(hU:Yp8 R n U)(hl:BL.length≤1000){p:Nat}(hp:p < n)(d0 y5 y6:Option B) :
 ∃(BL':List Row) (U':Option (Nat→Bool)) (y5' y6':Option B),Yit R n BL'∧Yp8 R n U'∧BL'.length≤BL.length+1∧(∀r∈BL,r∈BL')∧(U.isSome=true→U'.isSome=true)∧Red R BL' U'.isSome (tP R fun x=>decide (x=p)) (oddO R (fl 60 fun x=>decide (x=p)))∧
  Yci [d0,some (.od false (kyD BL) (rwD R BL)),some (.sh (voD U)),some (.sh (nD p)),some (.sh (smD (rg R p))),y5,y6]=some (.nx [d0,some (.od false (kyD BL') (rwD R BL')),some (.sh (voD U')),some (.sh (nD p)),some (.sh (smD (rg R p))),y5',y6']):=by
 have h0:=y8l R (p:=p) (by omega)
 obtain⟨V,v1,v2,v4,v3⟩:=Yxd hB.1 (fun x=>decide (x=p)) (n:=n) (fun q hq=>by
  have:q=p:=by simpa using hq
  omega)
 rw[←h0]at v3
 have hpl:=y6s R V
 have hi:Yn (prD2 R V)=some [.tup ((fl 60 V).map nD),.tup [.tup ((fl 60 (tP R V)).map nD),.bl (oddO R (fl 60 V))]]:=rfl
 have hfz:frz [1] [d0,some (.od false (kyD BL) (rwD R BL)),some (.sh (voD U)),some (.sh (nD p)),some (.sh (smD (rg R p))),y5,y6]=[d0,some (.sh (.dct false (kyD BL) (rwD R BL))),some (.sh (voD U)),some (.sh (nD p)),some (.sh (smD (rg R p))),y5,y6]:=rfl
 have hlend:∀f:Ro→Option D,f [d0,some (.sh (.dct false (kyD BL) (rwD R BL))),some (.sh (voD U)),some (.sh (nD p)),some (.sh (smD (rg R p))),y5,y6]=some (prD2 R V)→Yk6 [1] f [d0,some (.od false (kyD BL) (rwD R BL)),some (.sh (voD U)),some (.sh (nD p)),some (.sh (smD (rg R p))),y5,y6]=some (prD2 R V):=fun f hf=>by
  unfold Yk6
  rw[hfz,hf,qd,if_pos hpl]
 have hcall:cC (Yh (dTup (Yh (dTup (Yh (getV 3) aNil)) (Yh (getV 4) aNil))) (Yh (getV 1) aNil)) Yc9 [d0,some (.sh (.dct false (kyD BL) (rwD R BL))),some (.sh (voD U)),some (.sh (nD p)),some (.sh (smD (rg R p))),y5,y6]=some (prD2 R V):=by
  generalize prD2 R V=PV at *
  generalize smD (rg R p)=S1 at *
  generalize nD p=P1 at *
  generalize D.dct false (kyD BL) (rwD R BL)=DD at *
  simp[v3]
 have hc5:sSet 5 (Yk6 [1] (cC (Yh (dTup (Yh (dTup (Yh (getV 3) aNil)) (Yh (getV 4) aNil))) (Yh (getV 1) aNil)) Yc9)) [d0,some (.od false (kyD BL) (rwD R BL)),some (.sh (voD U)),some (.sh (nD p)),some (.sh (smD (rg R p))),y5,y6]=some (.nx [d0,some (.od false (kyD BL) (rwD R BL)),some (.sh (voD U)),some (.sh (nD p)),some (.sh (smD (rg R p))),some (.sh (prD2 R V)),y6]):=by
  rw[y2y,hlend _ hcall]
  rfl
 rw[Yci,Ygk,hc5,qd,Yef]
 generalize hPV:prD2 R V=PV at hi ⊢
 generalize smD (rg R p)=S1
 generalize nD p=P1
 rcases Yrv (tP R V)with he | ⟨b,hb,hne,hat⟩
 ·rw[he]at hi
  have hz:∀x,x < 60→tP R V x=false:=fun x hx=>by
   cases h:tP R V x
   ·rfl
   ·have:x∈fl 60 (tP R V):=List.mem_filter.mpr ⟨List.mem_range.mpr hx,h⟩
    rw[he]at this
    exact nomatch this
  cases ho:oddO R (fl 60 V)with
  | false=>
    refine⟨BL,U,some (.sh PV),some (.sh (.tup [])),hB,hU,by omega,fun _ h=>h,fun h=>h,v4 BL _ (fun _ h=>h) (.zero hz fun _=>ho),?_⟩
    rw[ho]at hi
    generalize kyD BL=K
    generalize rwD R BL=VV
    simp[hi]
  | true=>
    cases U with
    | some U0=>
      refine⟨BL,some U0,some (.sh PV),some (.sh (.tup [])),hB,hU,by omega,fun _ h=>h,fun h=>h,v4 BL _ (fun _ h=>h) (.zero hz fun h=>nomatch h),?_⟩
      rw[ho]at hi
      generalize kyD BL=K
      generalize rwD R BL=VV
      simp[hi,voD]
    | none=>
      refine⟨BL,some V,some (.sh PV),some (.sh (.tup [])),hB,fun U' hU'=>?_,by omega,fun _ h=>h,fun _=>rfl,v4 BL _ (fun _ h=>h) (.zero hz fun h=>nomatch h),?_⟩
      ·cases hU'
       exact⟨he,ho,v1⟩
      ·rw[ho]at hi
       generalize kyD BL=K
       generalize rwD R BL=VV
       simp[hi,voD]
 ·have hbn:b∉BL.map (·.1):=by
   rcases v2 with z | ⟨c,hc,hcn⟩
   ·exact absurd z hne
   ·rw[hb.uniq hc];exact hcn
  refine⟨BL++[(b,V)],U,some (.sh PV),some (.sh (.tup ((fl 60 (tP R V)).map nD))),⟨fun r hr=>?_,?_⟩,hU,by simp,fun r hr=>List.mem_append_left _ hr,fun h=>h,v4 _ _ (fun r hr=>List.mem_append_left _ hr) (.step (b,V) (by simp) hb (.zero (fun x _=>by simp) fun _=>by simp)),?_⟩
  ·rcases qv hr with hr | hr
   ·exact hB.1 r hr
   ·rw[List.mem_singleton.mp hr];exact⟨hb,v1⟩
  ·rw[List.map_append]
   exact List.nodup_append.mpr ⟨hB.2,by simp,fun x hx y hy z=>by
    simp at hy
    subst hy
    exact hbn (z ▸ hx)⟩
  ·have hemp:((fl 60 (tP R V)).map nD).isEmpty=false:=by
    cases e:fl 60 (tP R V)with
    | nil=>exact absurd e hne
    | cons a l=>rfl
   have hput:Ytu (kyD BL) (rwD R BL) (.int (b:Int)) PV=some (kyD (BL++[(b,V)]),rwD R (BL++[(b,V)])):=by
    rw[Yg3,Ykw,qd,if_pos (show(rwD R BL).length < cap6 by rw[qf];show BL.length < 1000000;omega),if_neg (fun z=>hbn (mem_castI.mp z)),←hPV]
    simp[nD]
   have hnb:nD b=.int (b:Int):=rfl
   rw[hnb]at hat
   generalize kyD (BL++[(b,V)])=K2 at *
   generalize rwD R (BL++[(b,V)])=V2 at *
   generalize kyD BL=K at *
   generalize rwD R BL=VV at *
   generalize (fl 60 (tP R V)).map nD=L at *
   simp[hi,hemp,hat,hput,-Yg3]
end Lw
namespace Lw
open PySem L2 M Bk
theorem y6t(R:List Sm){p:Nat}(hp:p < 60)(x:Nat)(hx:x < 60):tP R (fun x=>decide (x=p)) x=(rg R p).1 x:=by
 unfold tP
 rw[Ys6 hp]
 have:=Yi8 R [] p x
 rw[Qn]at this
 rw[this]
 have h1:oddP R [] x=0:=rfl
 rw[h1]
 cases e:(rg R p).1 x
 ·rw[if_neg fun z=>by rw[Ql,e]at z;exact qi z.2]
  rfl
 ·rw[if_pos (List.mem_filter.mpr ⟨List.mem_range.mpr hx,e⟩)]
  rfl
theorem Yzr(R:List Sm){p:Nat}(hp:p < 60):oddO R (fl 60 fun x=>decide (x=p))=(rg R p).2:=by
 rw[Ys6 hp]
 unfold oddO
 rw[List.foldl_cons,List.foldl_nil]
 cases (rg R p).2<;>rfl
noncomputable def rwAt:List Row→Nat→Nat→Bool
 | [],_=>fun _=>false
 | r::BL,b=>if r.1=b then r.2 else rwAt BL b
theorem Yd9(f:(Nat→Bool)→D){b:Nat}:∀{BL:List Row},b∈BL.map (·.1)→(b,rwAt BL b)∈BL∧Ya0 ((BL.map (·.1)).map fun x:Nat=>(x:Int)) (BL.map fun r=>f r.2) (b:Int)=some (f (rwAt BL b))
 | [],h=>(nomatch h)
 | r::BL,h=>by
   show(b,rwAt (r::BL) b)∈r::BL∧Ya0 ((r.1:Int)::((BL.map (·.1)).map fun x:Nat=>(x:Int))) (f r.2::BL.map fun r=>f r.2) (b:Int)=some (f (rwAt (r::BL) b))
   rw[Ya0,rwAt]
   by_cases e:r.1=b
   ·rw[if_pos e,if_pos (by omega)]
    refine⟨?_,rfl⟩
    rw[←e]
    exact qh
   ·have h':b∈BL.map (·.1):=by
     rcases qt h with z | z
     ·exact absurd z.symm e
     ·exact z
    obtain⟨h1,h2⟩:=Yd9 f h'
    rw[if_neg e,if_neg (by omega)]
    exact⟨qg _ h1,h2⟩
theorem Ys7{BL:List Row}(h:(BL.map (·.1)).Nodup){r s:Row}(hr:r∈BL)(hs:s∈BL)(e:r.1=s.1):r=s:=by
 induction BL with
 | nil=>exact nomatch hr
 | cons a BL ih=>
   rw[Qd,List.nodup_cons]at h
   rcases qt hr with z1 | z1
   ·rcases qt hs with z2 | z2
    ·rw[z1,z2]
    ·exact absurd (show a.1∈BL.map (·.1) by rw[←z1,e];exact Qm (f:=(·.1)) z2) h.1
   ·rcases qt hs with z2 | z2
    ·exact absurd (show a.1∈BL.map (·.1) by rw[←z2,←e];exact Qm (f:=(·.1)) z1) h.1
    ·exact ih h.2 z1 z2
theorem Yi9{l:List Nat}(hn:l.Nodup)(hl:∀x∈l,x < 60):l.length≤60:=by
 have hp:l.Perm (fl 60 fun x=>decide (x∈l)):=(List.perm_ext_iff_of_nodup hn (List.nodup_range.filter _)).mpr fun x=>by
  rw[Ql,List.mem_range]
  exact⟨fun hx=>⟨hl x hx,by simpa using hx⟩,fun hx=>by simpa using hx.2⟩
 rw[hp.length_eq]
 exact Yis _ _
theorem Yxf(l:List Nat)(hn:l.Nodup):∃l':List Nat,l'.Perm l∧l'.Pairwise (· < ·)∧Ybn (l.map fun x:Nat=>(x:Int))=l'.map fun x:Nat=>(x:Int):=by
 have hp:=Yan (l.map fun x:Nat=>(x:Int))
 have hs:=Yar (l.map fun x:Nat=>(x:Int))
 have e2:∃l':List Nat,Ybn (l.map fun x:Nat=>(x:Int))=l'.map fun x:Nat=>(x:Int):=by
  refine⟨(Ybn (l.map fun x:Nat=>(x:Int))).map Int.toNat,?_⟩
  rw[Qj]
  refine(List.map_id _).symm.trans (List.map_congr_left fun x hx=>?_)
  obtain⟨y,_,rfl⟩:=qx (hp.mem_iff.mp hx)
  simp
 obtain⟨l',e2⟩:=e2
 rw[e2]at hp hs
 have hp':l'.Perm l:=by
  have:=hp.map Int.toNat
  simpa [Function.comp_def]using this
 have hn':l'.Nodup:=hp'.nodup_iff.mpr hn
 have hs':l'.Pairwise (·≤·):=(List.pairwise_map.mp hs).imp fun h=>by omega
 exact⟨l',hp',(hs'.and hn').imp fun h=>Nat.lt_of_le_of_ne h.1 h.2,e2⟩
theorem Yxg{R:List Sm}(hR:R.length≤60):∃(BL:List Row) (U:Option (Nat→Bool)),Yit R R.length BL∧Yp8 R R.length U∧BL.Pairwise (fun r s=>r.1 < s.1)∧
 (∀p,p < R.length→Red R BL U.isSome (rg R p).1 (rg R p).2)∧
 Yd3 [.tup [.str "sums",.tup (R.map smD)]]=some (.tup [.lst (rwD R BL),voD U]):=by
 generalize hb:D.tup [.str "sums",.tup (R.map smD)]=Bo
 have hbi:Yn Bo=some [.str "sums",.tup (R.map smD)]:=by rw[←hb];rfl
 obtain⟨ρ1,e1,BL,U,y3,y4,y5,y6,hB,hU,hL,hD,rfl⟩:=Yeg (gt:=Yvu 3 4) (fb:=Yci) (fun i:Nat=>D.tup [.int (i:Int),smD (rg R i)]) (fun pre ρ=>∃(BL:List Row) (U:Option (Nat→Bool)) (y3 y4 y5 y6:Option B),Yit R R.length BL∧Yp8 R R.length U∧BL.length≤pre.length∧(∀p∈pre,Red R BL U.isSome (tP R fun x=>decide (x=p)) (oddO R (fl 60 fun x=>decide (x=p))))∧
  ρ=[some (.sh Bo),some (.od false (kyD BL) (rwD R BL)),some (.sh (voD U)),y3,y4,y5,y6]) (List.range R.length) []
  [some (.sh Bo),some (.od false [] []),some (.sh .non),none,none,none,none] ⟨[],none,none,none,none,none,⟨by simp,by simp⟩,fun _ h=>(nomatch h),by simp,by simp,rfl⟩ (by
   rintro q p r ρ e ⟨BL,U,y3,y4,y5,y6,hB,hU,hL,hD,rfl⟩
   have hp:p < R.length:=by
    have:p∈List.range R.length:=by rw[Qn]at e;rw[e];simp
    exact Qb this
   have hq:q.length≤R.length:=by have:=congrArg List.length e;simp at this;omega
   obtain⟨BL',U',y5',y6',hB',hU',hL',hs,hu,hred,hst⟩:=Yzq hR hB hU (by omega) hp (some (.sh Bo)) y5 y6
   refine⟨_,_,rfl,hst,BL',U',_,_,y5',y6',hB',hU',by simp;omega,fun p' hp'=>?_,rfl⟩
   rcases qv hp' with z | z
   ·exact(hD p' z).mono hs hu
   ·rw[List.mem_singleton.mp z];exact hred)
 rw[Qn]at hL hD
 rw[List.length_range]at hL
 have hlast:∀x∈BL.map (·.1),x < 60:=fun x hx=>by
  obtain⟨r,hr,rfl⟩:=qx hx
  exact(hB.1 r hr).1.1
 obtain⟨l',hp',hpw,hso⟩:=Yxf (BL.map (·.1)) hB.2
 have hlen:=Yi9 hB.2 hlast
 have hin:∀b∈l',(b,rwAt BL b)∈BL:=fun b hb=>(Yd9 (prD2 R) (hp'.mem_iff.mp hb)).1
 have hkeys:(l'.map fun b=>(b,rwAt BL b)).map (·.1)=l':=by
  rw[Qj]
  exact List.map_id _
 have hsub:∀r∈BL,r∈l'.map fun b=>(b,rwAt BL b):=fun r hr=>by
  have h1:r.1∈l':=hp'.mem_iff.mpr (Qm (f:=(·.1)) hr)
  have h2:=Ys7 hB.2 hr (hin r.1 h1) rfl
  rw[h2]
  exact Qm (f:=fun b=>(b,rwAt BL b)) h1
 refine⟨l'.map fun b=>(b,rwAt BL b),U,⟨fun r hr=>?_,?_⟩,hU,?_,fun p hp=>?_,?_⟩
 ·obtain⟨b,hb,rfl⟩:=qx hr
  exact hB.1 _ (hin b hb)
 ·rw[hkeys];exact hp'.nodup_iff.mpr hB.2
 ·rw[List.pairwise_map];exact hpw
 ·have:=(hD p (List.mem_range.mpr hp)).mono hsub (fun h=>h)
  rw[Yzr R (by omega)]at this
  exact this.congr fun x hx=>y6t R (by omega) x hx
 ·rw[Yd3,Yac (by rfl)]
  have hst:Yw 7 [Bo]=[some (.sh Bo),none,none,none,none,none,none]:=rfl
  have hen:Ymo (R.map smD)=(List.range R.length).map fun i:Nat=>D.tup [.int (i:Int),smD (rg R i)]:=Ywv smD (fun _=>false,false) R
  have hsk:Yjs [.dct false (kyD BL) (rwD R BL)]=some (l'.map nD):=by
   rw[Yqx,Ykw,qd,if_pos (by rw[qf];omega),hso,Qj]
   rfl
  have hcm:=Yfb (fe:=Yfd) (r:=[some (.sh (.dct false (kyD BL) (rwD R BL)))]) (enc:=nD) (fun b=>prD2 R (rwAt BL b)) (l:=l') (fun b hb=>by
   have hg:getI (.dct false (kyD BL) (rwD R BL)) (.int (b:Int))=some (prD2 R (rwAt BL b)):=by
    rw[Yg2,Ykw,qd]
    exact(Yd9 (prD2 R) (hp'.mem_iff.mp hb)).2
   have hnb:nD b=.int (b:Int):=rfl
   rw[hnb]
   generalize prD2 R (rwAt BL b)=PB at *
   generalize D.dct false (kyD BL) (rwD R BL)=DD at *
   simp[Yfd,hg,-Yg2])
  have hrw:rwD R (l'.map fun b=>(b,rwAt BL b))=l'.map fun b=>prD2 R (rwAt BL b):=by
   unfold rwD
   rw[Qj]
   rfl
  rw[hrw]
  rw[hst,Ypb,Ygk]
  have e0:Yts 1 [some (.sh Bo),none,none,none,none,none,none]=some (.nx [some (.sh Bo),some (.od false [] []),none,none,none,none,none]):=rfl
  rw[e0,qd,Yef,Yka,Ygk]
  have e2:sSet 2 (kD .non) [some (.sh Bo),some (.od false [] []),none,none,none,none,none]=some (.nx [some (.sh Bo),some (.od false [] []),some (.sh .non),none,none,none,none]):=rfl
  rw[e2,qd,Yef,Yj9,Ygk]
  have e3:sFor (b1 (b2 (getC 0) (kD (.int 1)) ixD) Yv3) (Yvu 3 4) Yci [some (.sh Bo),some (.od false [] []),some (.sh .non),none,none,none,none]=some (.nx [some (.sh Bo),some (.od false (kyD BL) (rwD R BL)),some (.sh (voD U)),y3,y4,y5,y6]):=by
   rw[←e1,←hen]
   generalize R.map smD=A at *
   simp[hbi]
  rw[e3,qd,Yef,Yj8,y6g]
  have e4:frz [1] [some (.sh Bo),some (.od false (kyD BL) (rwD R BL)),some (.sh (voD U)),y3,y4,y5,y6]=[some (.sh Bo),some (.sh (.dct false (kyD BL) (rwD R BL))),some (.sh (voD U)),y3,y4,y5,y6]:=rfl
  rw[e4]
  generalize (l'.map fun b=>prD2 R (rwAt BL b))=RR at *
  generalize D.dct false (kyD BL) (rwD R BL)=DD at *
  generalize voD U=VU at *
  simp[hsk,capR,hcm]
end Lw
namespace Lw
open PySem L2 M Bk
theorem y3i{R:List Sm}{Q:(Nat→Bool)→Bool→Prop}(h0:Q (fun _=>false) false)(hx:∀{T S o u},Q T o→Q S u→Q (fun x=>T x != S x) (o != u))(hc:∀{T T' o},Q T o→(∀x,x < 60→T x=T' x)→Q T' o){ps:List Nat}(h:∀p∈ps,Q (rg R p).1 (rg R p).2):Q (fun x=>decide (oddP R ps x % 2=1)) (oddO R ps):=by
 have key:∀l:List Nat,(∀p∈l,Q (rg R p).1 (rg R p).2)→Q (fun x=>decide (oddP R l.reverse x % 2=1)) (oddO R l.reverse):=fun l=>by
  induction l with
  | nil=>exact fun _=>hc h0 fun x _=>rfl
  | cons p l ih=>
    intro hl
    have h1:=ih fun q hq=>hl q (qg _ hq)
    have h2:=hx h1 (hl p qh)
    rw[List.reverse_cons,Yny]
    refine hc h2 fun x hx=>?_
    rw[Yi8]
    cases hp:(rg R p).1 x
    ·rw[if_neg fun z=>by rw[Ql,hp]at z;exact qi z.2]
     cases decide (oddP R l.reverse x % 2=1)<;>rfl
    ·rw[if_pos (List.mem_filter.mpr ⟨List.mem_range.mpr hx,hp⟩)]
     by_cases z:oddP R l.reverse x % 2=1
     ·rw[decide_eq_true z,decide_eq_false (by omega)];rfl
     ·rw[decide_eq_false z,decide_eq_true (by omega)];rfl
 have:=key ps.reverse fun p hp=>h p (List.mem_reverse.mp hp)
 rwa [List.reverse_reverse]at this
end Lw
namespace Lw
open PySem L2 M Bk
noncomputable def hdD(b:Bool):D:=.str (if b=true then Str.ofString "keeper" else Str.ofString "storm")
theorem Ykx(c:Int)(n:Nat)(hn:n≤1000):∃hs:List Bool,hs.length=n∧Ycb [.int c,.int n]=some (.tup (hs.map hdD)):=by
 obtain⟨v,hv0,hv⟩:=Ynx c 1442695040888963407
 rw[Ycb,Yac (by rfl)]
 have hr:=Yhz (n:=(n:Int)) (by omega) (by omega)
 rw[Ygl]at hr
 have hc:=Yfb (fe:=Ycf) (r:=[some (.sh (.int v))]) (enc:=fun i:Nat=>D.int (0+(i:Nat))) (fun i:Nat=>hdD (decide (v / 2 ^ i % 2=0))) (l:=List.range ((n:Int) - 0).toNat) (fun i _=>by
  have h1:=Yqz v i
  have h2:v / 2 ^ i % 2=0∨v / 2 ^ i % 2=1:=by omega
  have e0:(0:Int)+(i:Int)=(i:Int):=by omega
  rw[e0]
  rcases h2 with h2 | h2
  ·simp[Ycf,h1,h2,hdD]
  ·simp[Ycf,h1,h2,hdD])
 refine⟨(List.range n).map fun i:Nat=>decide (v / 2 ^ i % 2=0),by simp,?_⟩
 simp[Ykq,Yw,hv,hr,capR]at hc ⊢
 rw[hc]
 simp[Function.comp_def]
end Lw
namespace Lw
open PySem L2 M Bk
theorem Yp9(l:List Nat)(hn:l.Nodup)(hl:l.length < 64):∃l':List Nat,l'.Perm l∧l'.Pairwise (· < ·)∧Yml [.lst (l.map nD)]=some (l'.map nD):=by
 have e1:l.map nD=(l.map Int.ofNat).map D.int:=by simp[nD,Function.comp_def]
 have hp:=Yan (l.map Int.ofNat)
 have hs:=Yar (l.map Int.ofNat)
 have e2:∃l':List Nat,Ybn (l.map Int.ofNat)=l'.map Int.ofNat:=by
  have hm:∀x∈Ybn (l.map Int.ofNat),0≤x:=fun x hx=>by
   obtain⟨y,_,rfl⟩:=qx (hp.mem_iff.mp hx)
   exact Int.natCast_nonneg y
  refine⟨(Ybn (l.map Int.ofNat)).map Int.toNat,?_⟩
  rw[Qj]
  refine(List.map_id _).symm.trans (List.map_congr_left fun x hx=>?_)
  have:=hm x hx
  simp[Function.comp_def]
  omega
 obtain⟨l',e2⟩:=e2
 rw[e2]at hp hs
 have hp':l'.Perm l:=by
  have:=hp.map Int.toNat
  simpa [Function.comp_def]using this
 refine⟨l',hp',?_,?_⟩
 ·have hn':l'.Nodup:=hp'.nodup_iff.mpr hn
  have hs':l'.Pairwise (·≤·):=by
   have:=List.pairwise_map.mp hs
   exact this.imp fun h=>by simpa using h
  exact(hs'.and hn').imp fun h=>Nat.lt_of_le_of_ne h.1 h.2
 ·show Yyq (l.map nD)=_
  rw[e1]
  unfold Yyq
  rw[Yj3]
  simp[hl,e2,nD,Function.comp_def]
theorem Yxh(l:List Say)(h:l.length≤2)(hn:(l.map (·.1)).Nodup):∃l':List Say,l'.Perm l∧l'.Pairwise slt∧Yml [.lst (l.map sayD)]=some (l'.map sayD):=by
 match l,h,hn with
 | [],_,_=>exact⟨[],.refl _,.nil,rfl⟩
 | [a],_,_=>exact⟨[a],.refl _,by simp,rfl⟩
 | [a,b],_,hn=>
   have hab:a.1≠b.1:=by simpa using hn
   have e:Yml [.lst ([a,b].map sayD)]=some (if plt b.1 b.2 a.1 a.2=true then [sayD b,sayD a]else [sayD a,sayD b]):=rfl
   obtain⟨x,p⟩:=a
   obtain⟨y,q⟩:=b
   have hxy:¬(y:Int)=(x:Int):=fun z=>hab (by simp;omega)
   cases hp:plt (y:Int) q (x:Int) p with
   | true=>
     refine⟨[(y,q),(x,p)],.swap _ _ [],?_,by rw[e];simp[hp]⟩
     unfold plt at hp
     rw[if_neg hxy]at hp
     simp at hp
     simp[slt,hp]
   | false=>
     refine⟨[(x,p),(y,q)],.refl _,?_,by rw[e];simp[hp]⟩
     unfold plt at hp
     rw[if_neg hxy]at hp
     simp at hp
     have:x < y:=by omega
     simp[slt,this]
theorem y3j(k:Kd)(c:Int)(st n:Nat)(h0:st < n)(hn:n≤1000):∃r:Rl,In k n r∧Srt r∧(∀x∈bcs r,st≤x)∧Yd7 [kdD k,.int c,.int st,.int n]=some (rlD r):=by
 obtain⟨v,hv0,hv⟩:=Ynx c 1181783497276652981
 have hd0:(0:Int) < (n:Int) - st:=by omega
 have hd1:(n:Int) - st < 1073741824:=by omega
 have hmod:∀x:Int,modI (.int x) (.int ((n:Int) - st))=some (.int (x % ((n:Int) - st))):=fun x=>Yo7 hd0
 have hdiv:∀x:Int,divI (.int x) (.int ((n:Int) - st))=some (.int (x / ((n:Int) - st))):=fun x=>Yzh hd0 hd1
 have hbe:∀x:Int,∃b:Nat,st≤b∧b < n∧(st:Int)+x % ((n:Int) - st)=(b:Int):=fun x=>by
  have h1:=Int.emod_nonneg x (show(n:Int) - st≠0 by omega)
  have h2:=Int.emod_lt_of_pos x hd0
  exact⟨((st:Int)+x % ((n:Int) - st)).toNat,by omega,by omega,by omega⟩
 have hst:Yw 8 [kdD k,.int c,.int st,.int n]=[some (.sh (kdD k)),some (.sh (.int c)),some (.sh (.int st)),some (.sh (.int n)),none,none,none,none]:=rfl
 rw[Yd7,Yac (by rfl),hst]
 obtain⟨sz0,hsm,hsa⟩:=Ywt (l:=([1,2,2,2,1,2,3,4]:List Int)) (i:=v % 8) (by omega) (by simp;omega)
 have hsz0:1≤sz0∧sz0≤4:=by
  simp at hsm
  omega
 have hix:atI [D.int 1,D.int 2,D.int 2,D.int 2,D.int 1,D.int 2,D.int 3,D.int 4] (v % 8)=some (.int sz0):=by
  rw[show[D.int 1,D.int 2,D.int 2,D.int 2,D.int 1,D.int 2,D.int 3,D.int 4]=([1,2,2,2,1,2,3,4]:List Int).map D.int from rfl,Ye9,hsa]
  rfl
 have hki:∀ρ:Ro,Yjr [1,2,2,2,1,2,3,4] ρ=some (([1,2,2,2,1,2,3,4]:List Int).map D.int):=fun ρ=>by
  unfold Yjr
  rw[if_pos (by decide)]
 have loop:∀(size:Int),0≤size→size≤4→∃(l:List Nat) (left:Int) (y:Option B),(l.length:Int)≤size∧l.Nodup∧(∀x∈l,st≤x∧x < n)∧
  M.forM (gSet 7) Yb5 ((List.range (size - 0).toNat).map fun i:Nat=>D.int (0+(i:Nat))) [some (.sh (kdD k)),some (.sh (.int c)),some (.sh (.int st)),some (.sh (.int n)),some (.sh (.int (v / 8))),some (.sh (.int size)),some (.ow []),none] =
   some (.nx [some (.sh (kdD k)),some (.sh (.int c)),some (.sh (.int st)),some (.sh (.int n)),some (.sh (.int left)),some (.sh (.int size)),some (.ow (l.map nD)),y]):=by
  intro size hs0 hs4
  obtain⟨ρ',e1,l,left,y,hl,hnd,hlt,rfl⟩:=Yeg (gt:=gSet 7) (fb:=Yb5) (fun i:Nat=>D.int (0+(i:Nat))) (fun pre ρ=>∃(l:List Nat) (left:Int) (y:Option B),l.length≤pre.length∧l.Nodup∧(∀s∈l,st≤s∧s < n)∧
   ρ=[some (.sh (kdD k)),some (.sh (.int c)),some (.sh (.int st)),some (.sh (.int n)),some (.sh (.int left)),some (.sh (.int size)),some (.ow (l.map nD)),y]) (List.range (size - 0).toNat) []
   [some (.sh (kdD k)),some (.sh (.int c)),some (.sh (.int st)),some (.sh (.int n)),some (.sh (.int (v / 8))),some (.sh (.int size)),some (.ow []),none] ⟨[],v / 8,none,qu _,.nil,by simp,rfl⟩ (by
    rintro q a r ρ e ⟨l,left,y,hl,hnd,hlt,rfl⟩
    have hq:q.length < 1000:=by have:=congrArg List.length e;simp at this;omega
    have hcap:l.length < 1000000:=by omega
    obtain⟨b,hb1,hb2,hb⟩:=hbe left
    have hin:=in_n (c:=.lst (l.map nD)) b l true rfl
    simp only[nD]at hin
    by_cases hm:b∈l
    ·refine⟨_,_,rfl,?_,l,left / ((n:Int) - st),some (.sh (.int (0+(a:Int)))),by simp;omega,hnd,hlt,rfl⟩
     simp[Yb5,hmod,hdiv,hb,hin,hm,nD]
    ·refine⟨_,_,rfl,?_,l++[b],left / ((n:Int) - st),some (.sh (.int (0+(a:Int)))),by simp;omega,?_,?_,rfl⟩
     ·simp[Yb5,hmod,hdiv,hb,hin,hm,appD,hcap,nD]
     ·rw[List.nodup_append]
      refine⟨hnd,by simp,?_⟩
      intro x hx y hy z
      simp at hy
      subst hy
      exact hm (z ▸ hx)
     ·intro s hs
      rcases qv hs with hs | hs
      ·exact hlt s hs
      ·simp at hs
       subst hs
       exact⟨hb1,hb2⟩)
  refine⟨l,left,y,?_,hnd,hlt,e1⟩
  simp at hl
  omega
 by_cases hk:k=.e
 ·subst hk
  obtain⟨size,hsz,hs0,hs2⟩:∃size:Int,(if (2:Int) < sz0 then 2 else sz0)=size∧0≤size∧size≤2:=⟨_,rfl,by split<;>omega,by split<;>omega⟩
  obtain⟨l,left,y,hl,hnd,hlt,e1⟩:=loop size hs0 (by omega)
  have hr:=Yhz (n:=size) (by omega) (by omega)
  rw[Ygl]at hr
  have hr2:=Yhz (n:=(l.length:Int)) (by omega) (by omega)
  rw[Ygl]at hr2
  have hc:=Yfb (fe:=Ycy) (r:=[some (.sh (.lst (l.map nD))),some (.sh (.int left))]) (enc:=fun i:Nat=>D.int (0+(i:Nat))) (fun i:Nat=>sayD (l.getD i 0,decide (left / 2 ^ i % 2=1))) (l:=List.range ((l.length:Int) - 0).toNat) (fun i hi=>by
   have hi':i < l.length:=by simpa using hi
   have h1:=Yqz left i
   have e0:(0:Int)+(i:Int)=(i:Int):=by omega
   have hat:atI (l.map nD) (i:Int)=some (.int (l.getD i 0:Nat)):=by
    rw[Ye9,Yfs hi']
    simp[hi',nD]
   rw[e0]
   simp[Ycy,h1,hat,sayD])
  generalize hsl:(List.range l.length).map (fun i:Nat=>((l.getD i 0,decide (left / 2 ^ i % 2=1)):Say))=sl
  have hsl1:sl.map (·.1)=l:=by
   rw[←hsl,Qj]
   refine List.ext_getElem (by simp) fun i h1 h2=>?_
   simp[h2]
  obtain⟨l',hp,hpw,hs⟩:=Yxh sl (by rw[←hsl];simp;omega) (by rw[hsl1];exact hnd)
  have hmem:∀s∈l',st≤s.1∧s.1 < n:=fun s hs=>hlt s.1 (by rw[←hsl1];exact Qm (hp.mem_iff.mp hs))
  refine⟨.ei l',⟨rfl,fun s hs=>(hmem s hs).2⟩,⟨by rw[hp.length_eq,←hsl];simp;omega,hpw⟩,fun x hx=>?_,?_⟩
  ·obtain⟨s,hs',rfl⟩:=qx hx
   exact(hmem s hs').1
  ·have hc':Yg0 (gSet 0) tY Ycy [none,some (.sh (.lst (l.map nD))),some (.sh (.int left))] ((List.range ((l.length:Int) - 0).toNat).map fun i:Nat=>D.int (0+(i:Nat)))=some (sl.map sayD):=by
    rw[hc,←hsl,Qj]
    simp[Function.comp_def]
   simp[Yc1,hv,hki,hix,hsz,hr]at e1 ⊢
   rw[e1]
   simp[hr2,capR]at hc' ⊢
   rw[hc']
   simp[hs,rlD]
 ·obtain⟨l,left,y,hl,hnd,hlt,e1⟩:=loop sz0 (by omega) hsz0.2
  have hr:=Yhz (n:=sz0) (by omega) (by omega)
  rw[Ygl]at hr
  obtain⟨l',hp,hpw,hs⟩:=Yp9 l hnd (by omega)
  have hmem:∀s∈l',st≤s∧s < n:=fun s hs=>hlt s (hp.mem_iff.mp hs)
  by_cases hks:k=.s
  ·subst hks
   refine⟨.su l' (decide (left % 2=1)),⟨rfl,fun s hs=>(hmem s hs).2⟩,hpw,fun x hx=>(hmem x hx).1,?_⟩
   simp[Yc1,hv,hki,hix,hr]at e1 ⊢
   rw[e1]
   simp[hs,rlD]
  ·have hki2:k=.i∨k=.n:=by cases k<;>simp at hk hks ⊢
   by_cases h4:left % 4=0
   ·refine⟨.im l' none,⟨hki2,fun s hs=>(hmem s hs).2,fun x hx=>by cases hx⟩,hpw,fun x hx=>(hmem x hx).1,?_⟩
    simp[Yc1,hv,hki,hix,hr,hk,hks]at e1 ⊢
    rw[e1]
    simp[hs,rlD,hks,h4,hk,optD]
   ·obtain⟨b,hb1,hb2,hb⟩:=hbe (left / 4)
    by_cases h1:left % 4=1
    ·have hcut:cutD (l.map nD) (some 1) none=(l.map nD).drop 1:=by
      have hm:=HT.sIx_nat (l.map nD).length 0 1
      unfold cutD
      simp at hm
      simp[hm,HT.sIx]
      cases l with
      | nil=>simp
      | cons a l=>simp;exact List.take_of_length_le (by simp)
     obtain⟨m,hpm,hpwm,hsm'⟩:=Yp9 (l.drop 1) (hnd.sublist (List.drop_sublist 1 l)) (by simp;omega)
     have hmm:∀s∈m,st≤s∧s < n:=fun s hs=>hlt s (List.mem_of_mem_drop (hpm.mem_iff.mp hs))
     refine⟨.im m (some b),⟨hki2,fun s hs=>(hmm s hs).2,fun x hx=>by cases hx;exact hb2⟩,hpwm,fun x hx=>?_,?_⟩
     ·simp[bcs]at hx
      rcases hx with hx | rfl
      ·exact(hmm x hx).1
      ·exact hb1
     ·simp[Yc1,hv,hki,hix,hr,hk,hks]at e1 ⊢
      rw[e1]
      simp at hsm'
      simp[hs,rlD,hks,h4,h1,hk,optD,hcut,hmod,hb,hsm']
    ·refine⟨.im l' (some b),⟨hki2,fun s hs=>(hmem s hs).2,fun x hx=>by cases hx;exact hb2⟩,hpw,fun x hx=>?_,?_⟩
     ·simp[bcs]at hx
      rcases hx with hx | rfl
      ·exact(hmem x hx).1
      ·exact hb1
     ·simp[Yc1,hv,hki,hix,hr,hk,hks]at e1 ⊢
      rw[e1]
      simp[hs,rlD,hks,h4,h1,hk,optD,hmod,hb]
end Lw
namespace Lw
open PySem L2 M Bk
theorem y6u(a b:Bool):eqM false (hdD a) (hdD b)=some (a==b):=by
 rw[Yip (by simp[hdD]) (by simp[hdD])]
 cases a<;>cases b<;>decide +kernel
noncomputable def ofH(hs:List Bool)(st:Nat)(b:Bool):List Nat:=(List.range hs.length).filter fun i=>decide (st≤i)&&(hs.getD i false==b)
theorem Ybb{c:D}(hs:List Bool)(hc:Yn c=some (hs.map hdD))(hl:hs.length≤1000)(st:Nat)(hst:st≤hs.length)(b:Bool):y7 [c,.int st,hdD b]=some (.lst ((ofH hs st b).map nD)):=by
 rw[y7,Yac (by rfl)]
 have hr:=y24 (a:=(st:Int)) (n:=(hs.length:Int)) (by omega) (by omega) (by omega) (by omega)
 rw[Ygl]at hr
 have hcm:=Ys0 (fc:=Yb9) (fe:=Yca) (r:=[some (.sh c),some (.sh (hdD b))]) (enc:=fun i:Nat=>D.int ((st:Int)+(i:Nat))) (fun i:Nat=>hs.getD (st+i) false==b) (fun i:Nat=>nD (st+i)) (l:=List.range ((hs.length:Int) - st).toNat) (fun i hi=>by
  have hi':st+i < hs.length:=by simp at hi;omega
  have e0:(st:Int)+(i:Int)=((st+i:Nat):Int):=by omega
  have hat:atI (hs.map hdD) ((st+i:Nat):Int)=some (hdD (hs.getD (st+i) false)):=by
   rw[Ye9,Yfs hi']
   simp[hi']
  rw[e0]
  simp only[Yb9,y8j,gCs,gC0,qd,y21,hc,hat,y6u]) (fun i _ _=>by simp[Yca,nD])
 have he:(((List.range ((hs.length:Int) - st).toNat).filter fun i:Nat=>hs.getD (st+i) false==b).map fun i:Nat=>nD (st+i))=(ofH hs st b).map nD:=by
  unfold ofH
  have h1:List.range hs.length=List.range st++(List.range (hs.length - st)).map (st+·):=by
   rw[←List.range_add]
   congr 1
   omega
  rw[h1,List.filter_append,List.filter_map]
  have h2:(List.range st).filter (fun i=>decide (st≤i)&&(hs.getD i false==b))=[]:=by
   rw[List.filter_eq_nil_iff]
   intro x hx
   have:=Qb hx
   simp
   omega
  have h3:((hs.length:Int) - st).toNat=hs.length - st:=by omega
  rw[h2,h3,Qn,Qj]
  simp[Function.comp_def]
 have h3:((hs.length:Int) - st).toNat=hs.length - st:=by omega
 rw[he,h3]at hcm
 rw[h3]at hr
 simp[Yf5,Yw,hc,hr,capR,hcm]
end Lw
namespace Lw
open PySem L2 M Bk
theorem Yxi(neg:Bool)(a b:List Nat):eqM neg (.lst (a.map nD)) (.lst (b.map nD))=some (if neg then !decide (a=b)else decide (a=b)):=by
 have h:∀l:List Nat,depL (l.map nD)≤1:=fun l=>Ywy (fun x=>by simp) l
 have h1:=h a
 have h2:=h b
 have e:eqD (.lst (a.map nD)) (.lst (b.map nD))=eqL (a.map nD) (b.map nD):=by simp
 rw[Yip (by simp;omega) (by simp;omega),e,Yq8 y26]
noncomputable def Yiu(l:List Nat):Bool:=decide (l.Pairwise (· < ·))
theorem Yrw:∀{a b:List Nat},a.Pairwise (· < ·)→b.Pairwise (· < ·)→(∀x,x∈a↔x∈b)→a=b
 | [],[],_,_,_=>rfl
 | [],y::b,_,_,h=>absurd ((h y).mpr qh) (by simp)
 | x::a,[],_,_,h=>absurd ((h x).mp qh) (by simp)
 | x::a,y::b,ha,hb,h=>by
   rw[List.pairwise_cons]at ha hb
   have hxy:x=y:=by
    have h1:=(h x).mp qh
    have h2:=(h y).mpr qh
    rcases qt h1 with e | m
    ·exact e
    ·rcases qt h2 with e | m2
     ·exact e.symm
     ·have:=hb.1 x m
      have:=ha.1 y m2
      omega
   subst hxy
   have:a=b:=Yrw ha.2 hb.2 fun z=>by
    have hz:=h z
    constructor
    ·intro hm
     have:=hz.mp (qg _ hm)
     rcases qt this with e | m
     ·subst e
      exact absurd (ha.1 z hm) (by omega)
     ·exact m
    ·intro hm
     have:=hz.mpr (qg _ hm)
     rcases qt this with e | m
     ·subst e
      exact absurd (hb.1 z hm) (by omega)
     ·exact m
   rw[this]
theorem y3k{l:List Nat}(h:∀x∈l,x < 60)(hl:l.length≤3700):∃l':List Nat,Yt1 (l.map nD)=some (l'.map nD)∧decide (l=l')=Yiu l:=by
 obtain⟨l',hpw,hmem,hss⟩:=Ys3 (n:=60) (by omega) l h (by omega)
 refine⟨l',hss,?_⟩
 unfold Yiu
 by_cases hp:l.Pairwise (· < ·)
 ·have:=Yrw hp hpw fun x=>(hmem x).symm
  simp[hp,←this]
 ·have:¬l=l':=fun e=>hp (e ▸ hpw)
  simp[hp,this]
theorem Yky{l:List Nat}(h:∀x∈l,x < 60)(hl:l.length≤3700):Ybo [.tup (l.map nD)]=some (.bl (Yiu l)):=by
 obtain⟨l',hss,e⟩:=y3k h hl
 have hq:=Yxi false l l'
 simp only[Qo,if_false,e]at hq
 rw[Ybo,Yac (by rfl)]
 generalize l'.map nD=L1 at *
 generalize l.map nD=L0 at *
 simp[Ykh,Yw,hss,hq]
end Lw
namespace Lw
open PySem L2 M Bk
noncomputable abbrev Srw:=Nat × List Nat × Bool
noncomputable def srwD(r:Srw):D:=.tup [.int r.1,.tup (r.2.1.map nD),.bl r.2.2]
@[simp] theorem Yfm(r:Srw):Yn (srwD r)=some [.int r.1,.tup (r.2.1.map nD),.bl r.2.2]:=nr rfl
theorem Yxj(a b c:D):atI [a,b,c] 1=some b:=rfl
theorem y0o(a b c:D):atI [a,b,c] 2=some c:=rfl
noncomputable def Yhf(S:List Nat)(r:Srw):Bool:=Yiu r.2.1&&r.2.1.all fun x=>decide (x∈S)&&decide (x < r.1)
theorem Yqa{r:Srw}(h:∀x∈r.2.1,x < 60)(hl:r.2.1.length≤3700)(S:List Nat):Ycn [srwD r,.lst (S.map nD)]=some (.bl (Yhf S r)):=by
 have hr:=Yfm r
 have hri:=Yky h hl
 have hc:=Yfb (fe:=Yb0) (r:=[some (.sh (.lst (S.map nD))),some (.sh (srwD r))]) (enc:=nD) (fun x=>.bl (decide (x∈S)&&decide (x < r.1))) (l:=r.2.1) (fun x _=>by
  have i2:=in_n (c:=.lst (S.map nD)) x S false rfl
  simp only[nD]at i2
  generalize (r.2.1.map nD)=R1 at *
  generalize srwD r=rr at *
  by_cases hm:x∈S
  ·simp[Yb0,hr,i2,hm]
  ·simp[Yb0,hr,i2,hm])
 have hb:blsD (r.2.1.map fun x=>D.bl (decide (x∈S)&&decide (x < r.1)))=some (r.2.1.map fun x=>decide (x∈S)&&decide (x < r.1)):=Yeh _ _
 have hall:(r.2.1.map fun x=>decide (x∈S)&&decide (x < r.1)).all id=r.2.1.all fun x=>decide (x∈S)&&decide (x < r.1):=by rw[List.all_map];rfl
 rw[Ycn,Yac (by rfl)]
 unfold Yhf
 rw[←hall]
 generalize (r.2.1.map fun x=>decide (x∈S)&&decide (x < r.1))=B1 at *
 generalize (r.2.1.map fun x=>D.bl (decide (x∈S)&&decide (x < r.1)))=B2 at *
 generalize Yiu r.2.1=ri at *
 generalize (r.2.1.map nD)=R1 at *
 generalize S.map nD=SS at *
 generalize srwD r=rr at *
 cases ri with
 | true=>simp[Yfg,Yw,hr,Yxj,hri,capR,hc,hb]
 | false=>simp[Yfg,Yw,hr,Yxj,hri]
noncomputable def Yet(rows:List Srw):D:=.dct false (rows.map fun r=>nD r.1) (rows.map srwD)
theorem Yiv:∀rows:List Srw,Ye4 (rows.map fun r=>.tup [.int r.1,srwD r])=some (rows.map fun r=>((r.1:Int),srwD r))
 | []=>rfl
 | r::l=>by rw[Qd,Ye4,Yiv l];rfl
theorem Ykz{α:Type}:∀(ps:List (Int × α)) (ns:List Int) (vs:List α),(ns++ps.map (·.1)).Nodup→dctG ns vs ps=(ns++ps.map (·.1),vs++ps.map (·.2))
 | [],ns,vs,_=>by simp[dctG]
 | p::ps,ns,vs,h=>by
   have hp:p.1∉ns:=fun hm=>by
    rw[List.nodup_append]at h
    exact h.2.2 _ hm p.1 (by simp) rfl
   rw[dctG,putG,if_neg hp]
   have h':((ns++[p.1])++ps.map (·.1)).Nodup:=by simpa using h
   rw[Ykz ps _ _ h']
   simp
theorem Yiw{l:List Nat}(h:l.Nodup):(l.map fun x:Nat=>(x:Int)).Nodup:=by
 induction l with
 | nil=>simp
 | cons a l ih=>
   rw[Qd,List.nodup_cons]
   rw[List.nodup_cons]at h
   refine⟨fun hm=>?_,ih h.2⟩
   obtain⟨b,hb,e⟩:=qx hm
   have:b=a:=by omega
   exact h.1 (this ▸ hb)
theorem Yih{rows:List Srw}(hl:rows.length≤1000)(hn:(rows.map (·.1)).Nodup):Ya8 [.tup (rows.map srwD)]=some (Yet rows):=by
 have hc:=Yfb (fe:=Ya5) (r:=[]) (enc:=srwD) (fun r=>.tup [.int r.1,srwD r]) (l:=rows) (fun r _=>by
  have hi:=Yfm r
  generalize srwD r=rr at *
  simp[Ya5,hi])
 have h1:pairsOf (.lst (rows.map fun r=>.tup [.int r.1,srwD r]))=some (rows.map fun r=>((r.1:Int),srwD r)):=Yiv rows
 have hn2:=Yiw hn
 have hd:=Ykz (rows.map fun r=>((r.1:Int),srwD r)) [] [] (by
  rw[Qn,Qj]
  rw[Qj]at hn2
  exact hn2)
 have hlen:(rows.map fun r=>((r.1:Int),srwD r)).length < 1000000:=by rw[qf];omega
 rw[Ya8,Yac (by rfl)]
 have hcomp:(lF (Ybd (b1 (getV 0) Yn) [none] (gSet 0) tY Ya5)) [some (.sh (.tup (rows.map srwD)))]=some (.lst (rows.map fun r=>.tup [.int r.1,srwD r])):=by
  simp[capR,hc]
 have hst:Yw 1 [D.tup (rows.map srwD)]=[some (.sh (.tup (rows.map srwD)))]:=rfl
 rw[Yev,hst,y2z,y29,hcomp,qd,h1,qd,Ywu,if_pos hlen,hd]
 simp[Yet,Function.comp_def]
theorem Yii(x:Nat):∀rows:List Srw,Ya0 (rows.map fun r=>((r.1:Nat):Int)) (rows.map srwD) (x:Int)=(rows.find? (fun r=>r.1==x)).map srwD
 | []=>rfl
 | r::l=>by
   rw[Qd,Qd,Ya0,Yii x l,List.find?_cons]
   by_cases h:r.1=x
   ·simp[h]
   ·have h':¬((r.1:Nat):Int)=(x:Int):=by omega
    have h2:(r.1==x)=false:=by simp[h]
    rw[if_neg h',h2]
noncomputable def Ybt(rows:List Srw)(x:Nat):Srw:=(rows.find? (fun r=>r.1==x)).getD (x,[x],false)
noncomputable def Ybl(rows:List Srw)(x:Nat):Sm:=(fun y=>decide (y∈(Ybt rows x).2.1),(Ybt rows x).2.2)
theorem Yzs{rows:List Srw}(h:∀r∈rows,r.2.1.Pairwise (· < ·)∧∀y∈r.2.1,y < 60){x:Nat}(hx:x < 60):(Ybt rows x).2.1.Pairwise (· < ·)∧∀y∈(Ybt rows x).2.1,y < 60:=by
 unfold Ybt
 cases e:rows.find? (fun r=>r.1==x)with
 | none=>exact⟨by simp,fun y hy=>by simp at hy;omega⟩
 | some r=>exact h r (List.mem_of_find?_eq_some e)
theorem Yzt(rows:List Srw)(x:Nat):Ymq (Yet rows) (.int (x:Int)) (.tup [.int (x:Int),.tup [.int (x:Int)],.bl false])=some (srwD (Ybt rows x)):=by
 have hi:intsD (rows.map fun r=>nD r.1)=some (rows.map fun r=>((r.1:Nat):Int)):=Yfa _ rows
 rw[Yet,Yjt,hi,Option.map_some,Yii]
 unfold Ybt
 cases rows.find? (fun r=>r.1==x)<;>rfl
end Lw
namespace Lw
open PySem L2 M Bk
theorem y6v{rows:List Srw}(h:∀r∈rows,r.2.1.Pairwise (· < ·)∧∀y∈r.2.1,y < 60){x:Nat}(hx:x < 60):D.tup [.tup ((Ybt rows x).2.1.map nD),.bl (Ybt rows x).2.2]=smD (Ybl rows x):=by
 obtain⟨h1,h2⟩:=Yzs h hx
 exact y6r h1 h2 _
noncomputable def accR(rows:List Srw)(a:Sm)(x:Nat):Sm:=(fun y=>a.1 y != (Ybl rows x).1 y,a.2 != (Ybl rows x).2)
noncomputable def accL(rows:List Srw)(l:List Nat):Sm:=l.foldl (accR rows) (fun _=>false,false)
theorem Yzu(rows:List Srw)(q:List Nat)(x:Nat):accL rows (q++[x])=accR rows (accL rows q) x:=by
 unfold accL
 rw[List.foldl_append]
 rfl
theorem Yl4{rows:List Srw}(h:∀r∈rows,r.2.1.Pairwise (· < ·)∧∀y∈r.2.1,y < 60)(ru:Sm):Ybf [smD ru,Yet rows]=some (smD (accL rows (fl 60 ru.1))):=by
 have hf:∀x∈fl 60 ru.1,x < 60:=fun x hx=>Qb (Qc hx).1
 have hit:Yn (smD ru)=some [.tup ((fl 60 ru.1).map nD),.bl ru.2]:=rfl
 generalize smD ru=sr at *
 generalize fl 60 ru.1=F at *
 obtain⟨ρ',e1,y3,y4,rfl⟩:=Yeg (gt:=gSet 3) (fb:=Yem) nD (fun pre ρ=>∃(y3 y4:Option B),ρ=[some (.sh sr),some (.sh (Yet rows)),some (.sh (smD (accL rows pre))),y3,y4]) F []
  [some (.sh sr),some (.sh (Yet rows)),some (.sh (smD (accL rows []))),none,none] ⟨none,none,rfl⟩ (by
   rintro q x r ρ e ⟨y3,y4,rfl⟩
   have hx:x < 60:=hf x (by rw[Qn]at e;rw[e];simp)
   have hg:=Yzt rows x
   have hrow:=Yfm (Ybt rows x)
   have hb:=Yfl (accL rows q).1 (Ybl rows x).1 (accL rows q).2 (Ybl rows x).2
   have hsm:=y6v h hx
   have hb':Yaj [smD (accL rows q),smD (Ybl rows x)]=some (smD (accL rows (q++[x]))):=by rw[Yzu];exact hb
   rw[←hsm]at hb'
   refine⟨_,[some (.sh sr),some (.sh (Yet rows)),some (.sh (smD (accL rows (q++[x])))),some (.sh (nD x)),some (.sh (srwD (Ybt rows x)))],rfl,?_,_,_,rfl⟩
   generalize smD (accL rows (q++[x]))=A2 at *
   generalize smD (accL rows q)=A1 at *
   generalize Yet rows=sd at *
   generalize (Ybt rows x).2.1.map nD=R1 at *
   generalize srwD (Ybt rows x)=rr at *
   simp[Yem,hg,hrow,Yxj,y0o,hb'])
 rw[Qn]at e1
 rw[Ybf,Yac (by rfl)]
 have h0:D.tup [.tup [],.bl false]=smD (accL rows []):=rfl
 generalize smD (accL rows [])=A0 at *
 generalize smD (accL rows F)=A1 at *
 generalize Yet rows=sd at *
 generalize F.map nD=FF at *
 simp[Yly,Yw,h0,hit,e1]
noncomputable def Yln(rows:List Srw)(ru:Sm):Bool:=decide (fl 60 (accL rows (fl 60 ru.1)).1=[])&&((accL rows (fl 60 ru.1)).2==ru.2)
theorem y6w(a:Sm)(o:Bool):eqM false (smD a) (.tup [.tup [],.bl o])=some (decide (fl 60 a.1=[])&&(a.2==o)):=by
 have hd:depL ((fl 60 a.1).map nD)≤1:=Ywy (fun x=>by simp) _
 have e:eqL ((fl 60 a.1).map nD) []=decide (fl 60 a.1=[]):=Yq8 y26 (fl 60 a.1) []
 rw[Yip (by simp;omega) (by simp)]
 simp only[smD,sumD,y22,Ysz,e,y0l,y23,Bool.and_true]
 simp
noncomputable def Yrx(rows:List Srw)(R:List Sm)(K S:List Nat):Bool:=decide (rows.map (·.1)=K)&&rows.all (Yhf S)&&R.all (Yln rows)
theorem Yry{rows:List Srw}(hl:rows.length≤1000)(hr:∀r∈rows,r.2.1.length≤3700∧∀y∈r.2.1,y < 60)(R:List Sm){K:List Nat}(hK:K.Nodup)(S:List Nat) :
 Ybp [.tup (rows.map srwD),.tup [.str "sums",.tup (R.map smD)],.lst (K.map nD),.lst (S.map nD)]=some (.bl (Yrx rows R K S)):=by
 have h0:=Yfb (fe:=Ydr) (r:=[]) (enc:=srwD) (fun r=>nD r.1) (l:=rows) (fun r _=>by
  have hi:=Yfm r
  generalize srwD r=rr at *
  simp[Ydr,hi])
 have e0:(rows.map fun r=>nD r.1)=(rows.map (·.1)).map nD:=by rw[Qj];rfl
 rw[e0]at h0
 have h1:=Yfb (fe:=Yds) (r:=[some (.sh (.lst (S.map nD)))]) (enc:=srwD) (fun r=>.bl (Yhf S r)) (l:=rows) (fun r hm=>by
  have h:=Yqa (hr r hm).2 (hr r hm).1 S
  generalize srwD r=rr at *
  generalize S.map nD=SS at *
  simp[Yds,h])
 have hq:=Yxi true (rows.map (·.1)) K
 rw[Ybp,Yac (by rfl)]
 have hall:blsD (rows.map fun r=>D.bl (Yhf S r))=some (rows.map (Yhf S)):=Yeh _ rows
 have hb:Yn (.tup [.str "sums",.tup (R.map smD)])=some [.str "sums",.tup (R.map smD)]:=rfl
 by_cases hk:rows.map (·.1)=K
 ·have hn:(rows.map (·.1)).Nodup:=by rw[hk];exact hK
  have hd:=Yih hl hn
  simp only[hk,decide_true]at hq
  have ep:Yrx rows R K S=(rows.all (Yhf S)&&R.all (Yln rows)):=by simp[Yrx,hk]
  rw[ep]
  rw[hk]at h0
  cases ha:rows.all (Yhf S)with
  | false=>
    generalize D.tup [.str "sums",.tup (R.map smD)]=bk at *
    generalize (rows.map fun r=>D.bl (Yhf S r))=RB at *
    generalize hrp:Yhf S=rp at *
    generalize rows.map srwD=RR at *
    generalize K.map nD=KK at *
    generalize S.map nD=SS at *
    simp[Yen,Yw,capR,h0,h1,hq,hall,ha,Function.comp_def]
  | true=>
    have hgood:∀r∈rows,r.2.1.Pairwise (· < ·)∧∀y∈r.2.1,y < 60:=fun r hm=>by
     have h:=List.all_eq_true.mp ha r hm
     unfold Yhf Yiu at h
     simp only[Qe,decide_eq_true_eq]at h
     exact⟨h.1,(hr r hm).2⟩
    have h2:=Yfb (fe:=Ydt) (r:=[some (.sh (Yet rows))]) (enc:=smD) (fun ru=>.bl (Yln rows ru)) (l:=R) (fun ru _=>by
     have h:=Yl4 hgood ru
     have hsi:Yn (smD ru)=some [.tup ((fl 60 ru.1).map nD),.bl ru.2]:=rfl
     have he:=y6w (accL rows (fl 60 ru.1)) ru.2
     unfold Yln
     generalize smD (accL rows (fl 60 ru.1))=A at *
     generalize smD ru=sr at *
     generalize (fl 60 ru.1).map nD=FF at *
     generalize Yet rows=sd at *
     simp[Ydt,h,hsi,he])
    have hall2:blsD (R.map fun ru=>D.bl (Yln rows ru))=some (R.map (Yln rows)):=Yeh _ R
    generalize D.tup [.str "sums",.tup (R.map smD)]=bk at *
    generalize Yet rows=sd at *
    generalize R.map smD=LL at *
    generalize (R.map fun ru=>D.bl (Yln rows ru))=KK2 at *
    generalize (rows.map fun r=>D.bl (Yhf S r))=RB at *
    generalize hrp:Yhf S=rp at *
    generalize hkp:Yln rows=kp at *
    generalize rows.map srwD=RR at *
    generalize K.map nD=KK at *
    generalize S.map nD=SS at *
    simp[Yen,Yw,capR,h0,h1,hq,hall,ha,Function.comp_def,hd,hb,h2,hall2]
 ·have ep:Yrx rows R K S=false:=by simp[Yrx,hk]
  rw[ep]
  simp only[hk,decide_false]at hq
  generalize D.tup [.str "sums",.tup (R.map smD)]=bk at *
  generalize (rows.map (·.1)).map nD=R1 at *
  generalize rows.map srwD=RR at *
  generalize K.map nD=KK at *
  generalize S.map nD=SS at *
  simp[Yen,Yw,capR,h0,hq]
end Lw
namespace Lw
open PySem L2 M Bk
end Lw
namespace Lw
open PySem L2 M Bk
noncomputable def od(l:List Nat)(E:Nat→Bool):Bool:=decide ((l.filter E).length % 2=1)
theorem Yxk(E:Nat→Bool):od [] E=false:=rfl
theorem Ygs(a:Nat)(l:List Nat)(E:Nat→Bool):od (a::l) E=(E a != od l E):=by
 unfold od
 rw[List.filter_cons]
 cases E a with
 | false=>
   rw[if_neg (by simp)]
   cases decide ((l.filter E).length % 2=1)<;>rfl
 | true=>
   rw[if_pos rfl,qr]
   by_cases h:(l.filter E).length % 2=1
   ·have h2:¬((l.filter E).length+1) % 2=1:=by omega
    simp[h,h2]
   ·have h2:((l.filter E).length+1) % 2=1:=by omega
    simp[h,h2]
theorem Yja{l:List Nat}{E F:Nat→Bool}(h:∀x∈l,E x=F x):od l E=od l F:=by
 unfold od
 rw[List.filter_congr h]
theorem Ys8{l:List Nat}{E:Nat→Bool}(h:∀x∈l,E x=false):od l E=false:=by
 unfold od
 rw[List.filter_eq_nil_iff.mpr fun x hx=>by rw[h x hx];exact qi]
 rfl
theorem y0p:∀{l:List Nat},l.Nodup→∀y:Nat,od l (fun x=>decide (y=x))=decide (y∈l)
 | [],_,y=>by simp[Yxk]
 | a::l,h,y=>by
   rw[List.nodup_cons]at h
   rw[Ygs,y0p h.2]
   by_cases e:y=a
   ·subst e
    simp[h.1]
   ·simp[e]
noncomputable def xr(T E:Nat→Bool):Bool:=od (List.range 60) (fun x=>T x&&E x)
theorem y0q(f g:Nat→Bool):∀l:List Nat,od l (fun x=>f x != g x)=(od l f != od l g)
 | []=>rfl
 | a::l=>by
   rw[Ygs,Ygs,Ygs,y0q f g l]
   cases f a<;>cases g a<;>cases od l f<;>cases od l g<;>rfl
theorem Yxl(T S E:Nat→Bool):xr (fun x=>T x != S x) E=(xr T E != xr S E):=by
 unfold xr
 rw[←y0q]
 exact Yja fun x _=>show((T x != S x)&&E x)=((T x&&E x) != (S x&&E x)) by cases T x<;>cases S x<;>cases E x<;>rfl
theorem y8m{a:Nat}(ha:a < 60)(E:Nat→Bool):xr (fun x=>decide (x=a)) E=E a:=by
 unfold xr
 have h:od (List.range 60) (fun x=>decide (x=a)&&E x)=od (List.range 60) (fun x=>decide (a=x)&&E a):=Yja fun x _=>by
  by_cases e:x=a
  ·subst e
   simp
  ·have e2:¬a=x:=fun z=>e z.symm
   simp[e,e2]
 rw[h]
 cases E a with
 | false=>exact Ys8 fun x _=>by simp
 | true=>
   have h2:od (List.range 60) (fun x=>decide (a=x)&&true)=od (List.range 60) (fun x=>decide (a=x)):=Yja fun x _=>by simp
   rw[h2,y0p List.nodup_range]
   simp[ha]
theorem y6x(f E:Nat→Bool):od (fl 60 f) E=xr f E:=by
 unfold od xr od fl
 rw[List.filter_filter]
 rw[List.filter_congr (q:=fun x=>f x&&E x) fun x _=>Bool.and_comm _ _]
theorem y0r(rows:List Srw):∀(l:List Nat) (a:Sm),(∀y,(l.foldl (accR rows) a).1 y=(a.1 y != od l (fun x=>(Ybl rows x).1 y)))∧(l.foldl (accR rows) a).2=(a.2 != od l (fun x=>(Ybl rows x).2))
 | [],a=>⟨fun y=>by rw[Yxk,List.foldl_nil];cases a.1 y<;>rfl,by rw[Yxk,List.foldl_nil];cases a.2<;>rfl⟩
 | x::l,a=>by
   obtain⟨h1,h2⟩:=y0r rows l (accR rows a x)
   refine⟨fun y=>?_,?_⟩
   ·rw[List.foldl_cons,h1 y,Ygs]
    show((a.1 y != (Ybl rows x).1 y) != _)=_
    cases a.1 y<;>cases (Ybl rows x).1 y<;>cases od l (fun x=>(Ybl rows x).1 y)<;>rfl
   ·rw[List.foldl_cons,h2,Ygs]
    show((a.2 != (Ybl rows x).2) != _)=_
    cases a.2<;>cases (Ybl rows x).2<;>cases od l (fun x=>(Ybl rows x).2)<;>rfl
def kp(rows:List Srw)(T:Nat→Bool)(o:Bool):Prop:=(∀y,y < 60→xr T (fun x=>(Ybl rows x).1 y)=false)∧xr T (fun x=>(Ybl rows x).2)=o
theorem Yfw{T S E F:Nat→Bool}(h:∀x,x < 60→(T x&&E x)=(S x&&F x)):xr T E=xr S F:=Yja fun x hx=>h x (Qb hx)
theorem Yxm(rows:List Srw)(T:Nat→Bool):(∀y,(accL rows (fl 60 T)).1 y=xr T (fun x=>(Ybl rows x).1 y))∧(accL rows (fl 60 T)).2=xr T (fun x=>(Ybl rows x).2):=by
 obtain⟨h1,h2⟩:=y0r rows (fl 60 T) (fun _=>false,false)
 refine⟨fun y=>?_,?_⟩
 ·show((fl 60 T).foldl (accR rows) (fun _=>false,false)).1 y=_
  rw[h1 y,y6x]
  show(false != _)=_
  cases xr T (fun x=>(Ybl rows x).1 y)<;>rfl
 ·show((fl 60 T).foldl (accR rows) (fun _=>false,false)).2=_
  rw[h2,y6x]
  show(false != _)=_
  cases xr T (fun x=>(Ybl rows x).2)<;>rfl
theorem fl_nil{T:Nat→Bool}:fl 60 T=[]↔∀x,x < 60→T x=false:=by
 rw[List.filter_eq_nil_iff]
 constructor
 ·intro h x hx
  cases hT:T x with
  | false=>rfl
  | true=>exact absurd hT (h x (List.mem_range.mpr hx))
 ·intro h x hx
  rw[h x (Qb hx)]
  exact qi
theorem kept_kp{rows:List Srw}{T:Nat→Bool}{o:Bool}:Yln rows (T,o)=true↔kp rows T o:=by
 obtain⟨h1,h2⟩:=Yxm rows T
 unfold Yln kp
 rw[Qe,decide_eq_true_eq,fl_nil,beq_iff_eq,h2]
 refine and_congr_left fun _=>⟨fun h y hy=>by rw[←h1 y];exact h y hy,fun h y hy=>by rw[h1 y];exact h y hy⟩
theorem y0s{rows:List Srw}{T S:Nat→Bool}{o u:Bool}(h:kp rows T o)(h':kp rows S u):kp rows (fun x=>T x != S x) (o != u):=
 ⟨fun y hy=>by rw[Yxl,h.1 y hy,h'.1 y hy];rfl,by rw[Yxl,h.2,h'.2]⟩
theorem Ys9{rows:List Srw}{T S:Nat→Bool}{o:Bool}(h:kp rows T o)(e:∀x,x < 60→T x=S x):kp rows S o:=
 ⟨fun y hy=>by rw[←h.1 y hy];exact Yfw fun x hx=>by rw[e x hx],by rw[←h.2];exact Yfw fun x hx=>by rw[e x hx]⟩
theorem Yrz{T E:Nat→Bool}(h:∀x,x < 60→T x=false):xr T E=false:=Ys8 fun x hx=>by
 rw[h x (Qb hx)]
 rfl
theorem Yxn{rows:List Srw}{T:Nat→Bool}(h:∀x,x < 60→T x=false):kp rows T false:=⟨fun _ _=>Yrz h,Yrz h⟩
theorem Red.kp{R:List Sm}{BL:List Row}{rows:List Srw}(hB:∀r∈BL,kp rows (tP R r.2) (oddO R (fl 60 r.2))){T:Nat→Bool}{o:Bool}(h:Red R BL false T o):Lw.kp rows T o:=by
 induction h with
 | zero h0 h1=>
   rw[h1 rfl]
   exact Yxn h0
 | step r hr hl _ ih=>
   have:=y0s ih (hB r hr)
   rename_i T o _
   have e:((o != oddO R (fl 60 r.2)) != oddO R (fl 60 r.2))=o:=by cases o<;>cases oddO R (fl 60 r.2)<;>rfl
   rw[e]at this
   exact Ys9 this fun x _=>by cases T x<;>cases tP R r.2 x<;>rfl
theorem y0t{R:List Sm}{rows:List Srw}{ps:List Nat}(h:∀p∈ps,kp rows (rg R p).1 (rg R p).2):kp rows (fun x=>decide (oddP R ps x % 2=1)) (oddO R ps):=
 y3i (Q:=kp rows) (Yxn fun _ _=>rfl) (fun h1 h2=>y0s h1 h2) (fun h1 h2=>Ys9 h1 h2) h
theorem Yxo{rows:List Srw}{r:Srw}{x:Nat}(h:x≠r.1):Ybt (rows++[r]) x=Ybt rows x:=by
 unfold Ybt
 rw[List.find?_append]
 have e:([r].find? fun q=>q.1==x)=none:=by
  rw[List.find?_eq_none]
  intro q hq
  rw[Qi]at hq
  subst hq
  simpa using fun z=>h z.symm
 rw[e,Option.or_none]
theorem Yuh{rows:List Srw}{r:Srw}(h:r.1∉rows.map (·.1)):Ybt (rows++[r]) r.1=r:=by
 unfold Ybt
 rw[List.find?_append]
 have e:(rows.find? fun q=>q.1==r.1)=none:=by
  rw[List.find?_eq_none]
  intro q hq z
  exact h (List.mem_map.mpr ⟨q,hq,by simpa using z⟩)
 rw[e]
 simp
theorem Yk0{rows:List Srw}{x:Nat}(h:x∉rows.map (·.1)):Ybt rows x=(x,[x],false):=by
 unfold Ybt
 have e:(rows.find? fun q=>q.1==x)=none:=by
  rw[List.find?_eq_none]
  intro q hq z
  exact h (List.mem_map.mpr ⟨q,hq,by simpa using z⟩)
 rw[e]
 rfl
theorem Yl5{rows:List Srw}{x:Nat}(h:x∈rows.map (·.1)):Ybt rows x∈rows∧(Ybt rows x).1=x:=by
 unfold Ybt
 cases e:rows.find? (fun q=>q.1==x)with
 | none=>
   rw[List.find?_eq_none]at e
   obtain⟨q,hq,rfl⟩:=qx h
   exact absurd (by simp) (e q hq)
 | some q=>exact⟨List.mem_of_find?_eq_some e,by simpa using List.find?_some e⟩
noncomputable def wl(T:Nat→Bool)(k:Nat):Nat→Bool:=fun x=>T x&&!decide (x=k)
theorem y3l{T:Nat→Bool}{k:Nat}(hk:k < 60)(hT:T k=true)(E:Nat→Bool):xr T E=(xr (wl T k) E != E k):=by
 rw[←y8m hk E,←Yxl]
 refine Yfw fun x _=>?_
 unfold wl
 by_cases e:x=k
 ·subst e
  simp[hT]
 ·simp[e]
noncomputable def Ygt(rows:List Srw)(k:Nat)(T:Nat→Bool)(o:Bool):Srw:=(k,fl 60 (accL rows (fl 60 (wl T k))).1,(accL rows (fl 60 (wl T k))).2 != o)
inductive Mk (S:List Nat) (Tf:Nat→Nat→Bool) (of:Nat→Bool):List Srw→Prop
 | nil:Mk S Tf of []
 | snoc {rows:List Srw} {k:Nat}:Mk S Tf of rows→(∀r∈rows,r.1 < k)→Last (Tf k) k→(∀x,x < k→Tf k x=true→x∈S∨x∈rows.map (·.1))→Mk S Tf of (rows++[Ygt rows k (Tf k) (of k)])
theorem y6y{Tf:Nat→Nat→Bool}{of:Nat→Bool}{S:List Nat}{rows:List Srw}(h:Mk S Tf of rows):∀r∈rows,∀x,x < 60→Tf r.1 x=true→x≤r.1:=by
 induction h with
 | nil=>exact fun r hr=>(nomatch hr)
 | snoc h1 h2 hL hS ih=>
   intro r hr
   rcases qv hr with hr | hr
   ·exact ih r hr
   ·rw[Qi]at hr
    subst hr
    exact hL.2.2
theorem y8n{Tf:Nat→Nat→Bool}{of:Nat→Bool}{S:List Nat}{rows:List Srw}(h:Mk S Tf of rows):∀r∈rows,kp rows (Tf r.1) (of r.1):=by
 induction h with
 | nil=>exact fun r hr=>(nomatch hr)
 | snoc h1 h2 hL hS ih=>
   rename_i rows k
   have hne:∀x,x < k→Ybt (rows++[Ygt rows k (Tf k) (of k)]) x=Ybt rows x:=fun x hx=>Yxo (fun z=>by have z':x=k:=z;omega)
   have hni:k∉rows.map (·.1):=fun z=>by
    obtain⟨q,hq,e⟩:=qx z
    have:=h2 q hq
    omega
   have hla:Ybt (rows++[Ygt rows k (Tf k) (of k)]) k=Ygt rows k (Tf k) (of k):=Yuh (r:=Ygt rows k (Tf k) (of k)) hni
   intro r hr
   rcases qv hr with hr | hr
   ·have hk:=h2 r hr
    obtain⟨g1,g2⟩:=ih r hr
    have hlt:∀x,x < 60→Tf r.1 x=true→x < k:=fun x hx hT=>by
     exact Nat.lt_of_le_of_lt (y6y h1 r hr x hx hT) hk
    refine⟨fun y hy=>?_,?_⟩
    ·rw[←g1 y hy]
     refine Yfw fun x hx=>?_
     cases hT:Tf r.1 x with
     | false=>rfl
     | true=>
       unfold Ybl
       rw[hne x (hlt x hx hT)]
    ·rw[←g2]
     refine Yfw fun x hx=>?_
     cases hT:Tf r.1 x with
     | false=>rfl
     | true=>
       unfold Ybl
       rw[hne x (hlt x hx hT)]
   ·rw[Qi]at hr
    subst hr
    show kp _ (Tf k) (of k)
    obtain⟨a1,a2⟩:=Yxm rows (wl (Tf k) k)
    have hlt:∀x,x < 60→wl (Tf k) k x=true→x < k:=fun x hx hw=>by
     unfold wl at hw
     rw[Qe]at hw
     have:=hL.2.2 x hx hw.1
     have h3:¬x=k:=by simpa using hw.2
     omega
    have hsame:∀f:Srw→Bool,xr (wl (Tf k) k) (fun x=>f (Ybt (rows++[Ygt rows k (Tf k) (of k)]) x))=xr (wl (Tf k) k) (fun x=>f (Ybt rows x)):=fun f=>Yfw fun x hx=>by
     cases hw:wl (Tf k) k x with
     | false=>rfl
     | true=>rw[hne x (hlt x hx hw)]
    refine⟨fun y hy=>?_,?_⟩
    ·rw[y3l hL.1 hL.2.1]
     have e1:(Ybl (rows++[Ygt rows k (Tf k) (of k)]) k).1 y=(accL rows (fl 60 (wl (Tf k) k))).1 y:=by
      unfold Ybl
      rw[hla]
      show decide (y∈fl 60 (accL rows (fl 60 (wl (Tf k) k))).1)=_
      cases hz:(accL rows (fl 60 (wl (Tf k) k))).1 y with
      | false=>exact decide_eq_false fun z=>by rw[Ql,hz]at z;exact qi z.2
      | true=>exact decide_eq_true (List.mem_filter.mpr ⟨List.mem_range.mpr hy,hz⟩)
     have e2:=hsame fun r=>decide (y∈r.2.1)
     have e3:xr (wl (Tf k) k) (fun x=>(Ybl (rows++[Ygt rows k (Tf k) (of k)]) x).1 y)=(accL rows (fl 60 (wl (Tf k) k))).1 y:=by
      rw[a1 y]
      exact e2
     rw[e3,e1]
     cases (accL rows (fl 60 (wl (Tf k) k))).1 y<;>rfl
    ·rw[y3l hL.1 hL.2.1]
     have e1:(Ybl (rows++[Ygt rows k (Tf k) (of k)]) k).2=((accL rows (fl 60 (wl (Tf k) k))).2 != of k):=by
      unfold Ybl
      rw[hla]
      rfl
     have e2:=hsame fun r=>r.2.2
     have e3:xr (wl (Tf k) k) (fun x=>(Ybl (rows++[Ygt rows k (Tf k) (of k)]) x).2)=(accL rows (fl 60 (wl (Tf k) k))).2:=by
      rw[a2]
      exact e2
     rw[e3,e1]
     cases (accL rows (fl 60 (wl (Tf k) k))).2<;>cases of k<;>rfl
end Lw
namespace Lw
open PySem L2 M Bk
theorem Yxp:∀{l:List Nat} {E:Nat→Bool},od l E=true→∃x∈l,E x=true
 | [],_,h=>by cases h
 | a::l,E,h=>by
   rw[Ygs]at h
   cases ha:E a with
   | true=>exact⟨a,by simp,ha⟩
   | false=>
     rw[ha]at h
     have h2:od l E=true:=by cases hz:od l E<;>rw[hz]at h<;>first | rfl | cases h
     obtain⟨x,hx,e⟩:=Yxp h2
     exact⟨x,by simp[hx],e⟩
theorem Yxq{T E:Nat→Bool}(h:xr T E=true):∃x,x < 60∧T x=true∧E x=true:=by
 obtain⟨x,hx,e⟩:=Yxp h
 rw[Qe]at e
 exact⟨x,Qb hx,e.1,e.2⟩
theorem y6z{Tf:Nat→Nat→Bool}{of:Nat→Bool}{S:List Nat}{rows:List Srw}(h:Mk S Tf of rows):∀r∈rows,r.1 < 60∧r.2.1.Pairwise (· < ·)∧∀y∈r.2.1,y∈S∧y < r.1:=by
 induction h with
 | nil=>exact fun r hr=>(nomatch hr)
 | snoc h1 h2 hL hS ih=>
   rename_i rows k
   intro r hr
   rcases qv hr with hr | hr
   ·exact ih r hr
   ·rw[Qi]at hr
    subst hr
    refine⟨hL.1,List.Pairwise.filter _ List.pairwise_lt_range,fun y hy=>?_⟩
    have hy2:(accL rows (fl 60 (wl (Tf k) k))).1 y=true:=(Qc hy).2
    rw[(Yxm rows (wl (Tf k) k)).1 y]at hy2
    obtain⟨x,hx,hw,he⟩:=Yxq hy2
    unfold wl at hw
    rw[Qe]at hw
    have hxk:x < k:=by
     have:=hL.2.2 x hx hw.1
     have h3:¬x=k:=by simpa using hw.2
     omega
    have he2:y∈(Ybt rows x).2.1:=of_decide_eq_true he
    by_cases hin:x∈rows.map (·.1)
    ·obtain⟨g1,g2⟩:=Yl5 hin
     obtain⟨_,_,g3⟩:=ih _ g1
     obtain⟨g4,g5⟩:=g3 y he2
     exact⟨g4,by show y < k;omega⟩
    ·rw[Yk0 hin]at he2
     have hyx:y=x:=by simpa using he2
     subst hyx
     exact⟨(hS y hxk hw.1).resolve_right hin,hxk⟩
def Bad(S:List Nat)(T:Nat→Bool)(o:Bool):Prop:=(fl 60 T=[]∧o=true)∨∃l∈S,Last T l
theorem never{rows:List Srw}{K S:List Nat}(hk:rows.map (·.1)=K)(hr:∀r∈rows,∀y∈r.2.1,y < r.1)(hSK:∀x∈S,x∉K){T:Nat→Bool}{o:Bool}(h:kp rows T o):¬Bad S T o:=fun hb=>by
 rcases hb with⟨h0,rfl⟩ | ⟨l,hl,hL⟩
 ·have:=h.2
  rw[Yrz (fl_nil.mp h0)]at this
  cases this
 ·have h1:=h.1 l hL.1
  rw[y3l hL.1 hL.2.1]at h1
  have e1:(Ybl rows l).1 l=true:=by
   unfold Ybl
   rw[Yk0 (by rw[hk];exact hSK l hl)]
   simp
  have e2:xr (wl T l) (fun x=>(Ybl rows x).1 l)=false:=by
   cases hz:xr (wl T l) (fun x=>(Ybl rows x).1 l)with
   | false=>rfl
   | true=>
     obtain⟨x,hx,hw,he⟩:=Yxq hz
     unfold wl at hw
     rw[Qe]at hw
     have hxk:x < l:=by
      have:=hL.2.2 x hx hw.1
      have h3:¬x=l:=by simpa using hw.2
      omega
     have he2:l∈(Ybt rows x).2.1:=of_decide_eq_true he
     by_cases hin:x∈rows.map (·.1)
     ·obtain⟨g1,g2⟩:=Yl5 hin
      have:=hr _ g1 l he2
      omega
     ·rw[Yk0 hin]at he2
      have:l=x:=by simpa using he2
      omega
  rw[e1,e2]at h1
  cases h1
end Lw
namespace Lw
open PySem L2 M Bk
theorem Yn1(R:List Sm)(W:Nat→Bool):Yn (prD2 R W)=some [.tup ((fl 60 W).map nD),.tup [.tup ((fl 60 (tP R W)).map nD),.bl (oddO R (fl 60 W))]]:=rfl
theorem Yhg{R:List Sm}{W:Nat→Bool}{b:Nat}(h:Last (tP R W) b):Ya6 [prD2 R W]=some (.int (b:Int)):=by
 have hi:=Yn1 R W
 rcases Yrv (tP R W)with h0 | ⟨c,hc,_,ha⟩
 ·have:=fl_nil.mp h0 b h.1
  rw[h.2.1]at this
  cases this
 ·have e:=h.uniq hc
  subst e
  rw[Ya6,Yac (by rfl)]
  generalize (fl 60 (tP R W)).map nD=L at *
  generalize prD2 R W=PW at *
  simp[Yhd,Yw,hi,ha]
def BadW(R:List Sm)(S:List Nat)(W:Nat→Bool):Prop:=(∀p,W p=true→p < R.length)∧Bad S (tP R W) (oddO R (fl 60 W))
theorem Yk1{R:List Sm}{BL:List Row}{U:Option (Nat→Bool)}(hB:Yit R R.length BL)(hU:Yp8 R R.length U)(S:List Nat) :
 ∃V:Option (Nat→Bool),(V=none→U=none∧∀r∈BL,r.1∉S)∧(∀W,V=some W→BadW R S W)∧Yat [.lst (rwD R BL),voD U,.lst (S.map nD)]=some (voD V):=by
 cases U with
 | some U'=>
   refine⟨some U',fun h=>(nomatch h),fun W hW=>?_,?_⟩
   ·cases hW
    obtain⟨g1,g2,g3⟩:=hU U' rfl
    exact⟨g3,.inl ⟨g1,g2⟩⟩
   ·rw[Yat,Yac (by rfl)]
    generalize rwD R BL=RB
    generalize S.map nD=SS
    simp[Yb3,Yw,voD]
 | none=>
   have hc:=Ys0 (fc:=Yb1) (fe:=Yb2) (r:=[some (.sh (.lst (S.map nD)))]) (enc:=fun r:Row=>prD2 R r.2) (fun r=>decide (r.1∈S)) (fun r=>.tup ((fl 60 r.2).map nD)) (l:=BL) (fun r hr=>by
    have hl:=Yhg (hB.1 r hr).1
    have hin:=in_n (c:=.lst (S.map nD)) r.1 S false rfl
    generalize prD2 R r.2=PW at *
    generalize S.map nD=SS at *
    simp[Yb1,hl,hin]) (fun r hr _=>by
    have hi:=Yn1 R r.2
    generalize prD2 R r.2=PW at *
    simp[Yb2,hi])
   have hrw:(BL.map fun r:Row=>prD2 R r.2)=rwD R BL:=rfl
   rw[hrw]at hc
   cases hL:BL.filter fun r=>decide (r.1∈S)with
   | nil=>
     rw[hL,List.map_nil]at hc
     refine⟨none,fun _=>⟨rfl,fun r hr z=>?_⟩,fun W hW=>(nomatch hW),?_⟩
     ·have:r∈BL.filter fun r=>decide (r.1∈S):=List.mem_filter.mpr ⟨hr,decide_eq_true z⟩
      rw[hL]at this
      cases this
     ·rw[Yat,Yac (by rfl)]
      generalize rwD R BL=RB at *
      generalize S.map nD=SS at *
      simp[Yb3,Yw,voD,capR,hc]
   | cons r L=>
     rw[hL,Qd]at hc
     have hr:r∈BL∧decide (r.1∈S)=true:=Qc (by rw[hL];exact qh)
     refine⟨some r.2,fun h=>(nomatch h),fun W hW=>?_,?_⟩
     ·cases hW
      exact⟨(hB.1 r hr.1).2,.inr ⟨r.1,of_decide_eq_true hr.2,(hB.1 r hr.1).1⟩⟩
     ·rw[Yat,Yac (by rfl)]
      have hv:voD (some r.2)=.tup ((fl 60 r.2).map nD):=rfl
      rw[hv]
      have a0:∀(a:D) (l:List D),atI (a::l) 0=some a:=fun a l=>by unfold atI ixN;simp
      generalize D.tup ((fl 60 r.2).map nD)=TT at *
      generalize (L.map fun r:Row=>D.tup ((fl 60 r.2).map nD))=LL at *
      generalize rwD R BL=RB at *
      generalize S.map nD=SS at *
      simp[Yb3,Yw,voD,capR,hc,a0]
theorem y60{T:Nat→Bool}{k:Nat}(h:Last T k):fl 60 T=fl 60 (wl T k)++[k]:=by
 refine Yrw (List.Pairwise.filter _ List.pairwise_lt_range) ?_ fun x=>?_
 ·rw[List.pairwise_append]
  refine⟨List.Pairwise.filter _ List.pairwise_lt_range,by simp,fun a ha b hb=>?_⟩
  rw[Qi]at hb
  subst hb
  obtain⟨g1,g2⟩:=Qc ha
  unfold wl at g2
  rw[Qe]at g2
  have:=h.2.2 a (Qb g1) g2.1
  have h3:¬a=b:=by simpa using g2.2
  omega
 ·rw[List.mem_append,Qi,Ql,Ql,List.mem_range]
  unfold wl
  constructor
  ·rintro⟨g1,g2⟩
   by_cases e:x=k
   ·exact .inr e
   ·exact .inl ⟨g1,by simp[g2,e]⟩
  ·rintro(⟨g1,g2⟩ | rfl)
   ·rw[Qe]at g2
    exact⟨g1,g2.1⟩
   ·exact⟨h.1,h.2.1⟩
theorem y61{T:Nat→Bool}{k:Nat}(h:Last T k):cutD ((fl 60 T).map nD) none (some (-1))=(fl 60 (wl T k)).map nD:=by
 have e:HT.sIx ((fl 60 T).map nD).length ((fl 60 T).map nD).length (some (-1))=(fl 60 T).length - 1:=by
  rw[qf]
  unfold HT.sIx
  simp
  omega
 unfold cutD
 rw[e,HT.sIx_none,y60 h]
 simp
noncomputable def tfB(R:List Sm)(BL:List Row)(k:Nat):Nat→Bool:=if k∈BL.map (·.1)then tP R (rwAt BL k)else fun x=>decide (x=k)
noncomputable def ofB(R:List Sm)(BL:List Row)(k:Nat):Bool:=if k∈BL.map (·.1)then oddO R (fl 60 (rwAt BL k))else false
theorem Yqb(f:(Nat→Bool)→D){b:Nat}:∀{BL:List Row},b∉BL.map (·.1)→Ya0 ((BL.map (·.1)).map fun x:Nat=>(x:Int)) (BL.map fun r=>f r.2) (b:Int)=none
 | [],_=>rfl
 | r::BL,h=>by
   show Ya0 ((r.1:Int)::((BL.map (·.1)).map fun x:Nat=>(x:Int))) (f r.2::BL.map fun r=>f r.2) (b:Int)=none
   have e:¬r.1=b:=fun z=>h (by rw[←z];exact qh)
   rw[Ya0,if_neg (by omega)]
   exact Yqb f fun z=>h (qg _ z)
noncomputable abbrev tlD(R:List Sm)(BL:List Row):List D:=BL.map fun r=>totD R (fl 60 r.2)
theorem Yzv(R:List Sm)(BL:List Row){k:Nat}(hk:k < 60):Ymq (.dct false (kyD BL) (tlD R BL)) (.int (k:Int)) (.tup [.tup [.int (k:Int)],.bl false])=some (smD (tfB R BL k,ofB R BL k)):=by
 rw[Yjt,Ykw,Option.map_some]
 unfold tfB ofB
 by_cases h:k∈BL.map (·.1)
 ·have:=(Yd9 (fun W=>totD R (fl 60 W)) h).2
  rw[this,if_pos h,if_pos h]
  rfl
 ·have:=Yqb (fun W=>totD R (fl 60 W)) h
  rw[this,if_neg h,if_neg h]
  have e:=Ys6 hk
  show some (D.tup [.tup [.int (k:Int)],.bl false])=some (D.tup [.tup ((fl 60 fun x=>decide (x=k)).map nD),.bl false])
  rw[e]
  rfl
theorem Yxr{R:List Sm}{BL:List Row}(hB:Yit R R.length BL){k:Nat}(hk:k < 60):Last (tfB R BL k) k:=by
 unfold tfB
 by_cases h:k∈BL.map (·.1)
 ·rw[if_pos h]
  exact(hB.1 _ (Yd9 (fun _=>D.non) h).1).1
 ·rw[if_neg h]
  exact⟨hk,by simp,fun x _ hx=>by have:x=k:=by simpa using hx
                                  omega⟩
theorem Yqc(R:List Sm):∀BL:List Row,Ye4 (BL.map fun r=>.tup [.int r.1,totD R (fl 60 r.2)])=some (BL.map fun r=>((r.1:Int),totD R (fl 60 r.2)))
 | []=>rfl
 | r::l=>by rw[Qd,Ye4,Yqc R l];rfl
theorem y62(a:Sm):plB (smD a)=true:=by
 have h1:=Yxe (fl 60 a.1)
 show plB (.tup [.tup ((fl 60 a.1).map nD),.bl a.2])=true
 simp only[plB,plBL,h1,Bool.and_self]
theorem Yr0{R:List Sm}{BL:List Row}(hB:Yit R R.length BL){k:Nat}(hk:k < 60){rows:List Srw}(hl:rows.length≤1000)(hr:∀r∈rows,r.1 < k∧r.2.1.Pairwise (· < ·)∧∀y∈r.2.1,y < 60)(a0 a1 y5 y6:Option B) :
 ∃z5 z6:Option B,Ycw [a0,a1,some (.od false (kyD BL) (tlD R BL)),some (.od false (rows.map fun r=>nD r.1) (rows.map srwD)),some (.sh (nD k)),y5,y6] =
  some (.nx [a0,a1,some (.od false (kyD BL) (tlD R BL)),some (.od false ((rows++[Ygt rows k (tfB R BL k) (ofB R BL k)]).map fun r=>nD r.1) ((rows++[Ygt rows k (tfB R BL k) (ofB R BL k)]).map srwD)),some (.sh (nD k)),z5,z6]):=by
 have hL:=Yxr hB hk
 have hg:=Yzv R BL hk
 have hru:Yn (smD (tfB R BL k,ofB R BL k))=some [.tup ((fl 60 (tfB R BL k)).map nD),.bl (ofB R BL k)]:=rfl
 have hcut:=y61 hL
 have hrep:=Yl4 (rows:=rows) (fun r hm=>(hr r hm).2) (wl (tfB R BL k) k,false)
 have hre:smD (wl (tfB R BL k) k,false)=.tup [.tup ((fl 60 (wl (tfB R BL k) k)).map nD),.bl false]:=rfl
 rw[hre]at hrep
 have hai:Yn (smD (accL rows (fl 60 (wl (tfB R BL k) k))))=some [.tup ((fl 60 (accL rows (fl 60 (wl (tfB R BL k) k))).1).map nD),.bl (accL rows (fl 60 (wl (tfB R BL k) k))).2]:=rfl
 have hpl:=y62 (accL rows (fl 60 (wl (tfB R BL k) k)))
 have hni:k∉rows.map (·.1):=fun z=>by
  obtain⟨q,hq,e⟩:=qx z
  have:=(hr q hq).1
  omega
 have hky:(rows.map fun r=>nD r.1)=(rows.map (·.1)).map nD:=by rw[Qj];rfl
 have hput:∀d:D,Ytu (rows.map fun r=>nD r.1) (rows.map srwD) (.int (k:Int)) d=some ((rows.map fun r=>nD r.1)++[.int (k:Int)],rows.map srwD++[d]):=fun d=>by
  rw[Yg3,hky,Ykw,qd,if_pos (show(rows.map srwD).length < cap6 by rw[qf];show rows.length < 1000000;omega),if_neg (fun z=>hni (mem_castI.mp z))]
 have hap1:((rows++[Ygt rows k (tfB R BL k) (ofB R BL k)]).map fun r=>nD r.1)=(rows.map fun r=>nD r.1)++[.int (k:Int)]:=by rw[List.map_append];rfl
 have hap2:(rows++[Ygt rows k (tfB R BL k) (ofB R BL k)]).map srwD=rows.map srwD++[.tup [.int (k:Int),.tup ((fl 60 (accL rows (fl 60 (wl (tfB R BL k) k))).1).map nD),.bl ((accL rows (fl 60 (wl (tfB R BL k) k))).2 != ofB R BL k)]]:=by rw[List.map_append];rfl
 rw[hap1,hap2]
 have hsd:Yet rows=.dct false (rows.map fun r=>nD r.1) (rows.map srwD):=rfl
 rw[hsd]at hrep
 refine⟨some (.sh (smD (tfB R BL k,ofB R BL k))),some (.sh (smD (accL rows (fl 60 (wl (tfB R BL k) k))))),?_⟩
 generalize (accL rows (fl 60 (wl (tfB R BL k) k))).2=ao at *
 generalize (fl 60 (accL rows (fl 60 (wl (tfB R BL k) k))).1).map nD=AF at *
 generalize smD (accL rows (fl 60 (wl (tfB R BL k) k)))=AS at *
 generalize (fl 60 (wl (tfB R BL k) k)).map nD=WF at *
 generalize (fl 60 (tfB R BL k)).map nD=TF at *
 generalize smD (tfB R BL k,ofB R BL k)=RU at *
 generalize ofB R BL k=oo at *
 clear hky hap1 hap2 hsd hr hni
 generalize (rows.map fun r=>nD r.1)=RK at *
 generalize rows.map srwD=RS at *
 generalize kyD BL=KB at *
 generalize tlD R BL=TB at *
 have hs6:Yk6 [3] (cC (Yh (dTup (Yh (slD (b2 (getC 5) (kD (.int 0)) ixD) none (some (b1 (kD (.int 1)) negI))) (Yh (kD (.bl false)) aNil))) (Yh (getV 3) aNil)) Ybf) [a0,a1,some (.od false KB TB),some (.od false RK RS),some (.sh (nD k)),some (.sh RU),y6]=some AS:=by
  unfold Yk6
  have hf:frz [3] [a0,a1,some (.od false KB TB),some (.od false RK RS),some (.sh (nD k)),some (.sh RU),y6]=[a0,a1,some (.od false KB TB),some (.sh (.dct false RK RS)),some (.sh (nD k)),some (.sh RU),y6]:=rfl
  rw[hf]
  have hx:cC (Yh (dTup (Yh (slD (b2 (getC 5) (kD (.int 0)) ixD) none (some (b1 (kD (.int 1)) negI))) (Yh (kD (.bl false)) aNil))) (Yh (getV 3) aNil)) Ybf [a0,a1,some (.od false KB TB),some (.sh (.dct false RK RS)),some (.sh (nD k)),some (.sh RU),y6]=some AS:=by
   simp[hru,hcut,hrep]
  rw[hx,qd,if_pos hpl]
 simp[Ycw,hg,hs6,hai,hru,hput,-Yjt,-Yg3]
 cases ao<;>cases oo<;>rfl
theorem Yzw{rows:List Srw}(hn:(rows.map (·.1)).Nodup){r:Srw}(hr:r∈rows):getI (Yet rows) (.int (r.1:Int))=some (srwD r):=by
 have hi:intsD (rows.map fun r=>nD r.1)=some (rows.map fun r=>((r.1:Nat):Int)):=Yfa _ rows
 rw[Yet,Yg2,hi,qd,Yii]
 have h2:rows.find? (fun q=>q.1==r.1)=some r:=by
  cases e:rows.find? (fun q=>q.1==r.1)with
  | none=>
    rw[List.find?_eq_none]at e
    exact absurd (by simp) (e r hr)
  | some q=>
    have hq:=List.mem_of_find?_eq_some e
    have hqe:q.1=r.1:=by simpa using List.find?_some e
    congr 1
    clear e hi
    induction rows with
    | nil=>cases hr
    | cons a l ih=>
      rw[Qd,List.nodup_cons]at hn
      rcases qt hr with e1 | hr2
      ·rcases qt hq with e2 | hq2
       ·rw[e1,e2]
       ·exact absurd (show a.1∈l.map (·.1) by rw[←e1,←hqe];exact Qm (f:=(·.1)) hq2) hn.1
      ·rcases qt hq with e2 | hq2
       ·exact absurd (show a.1∈l.map (·.1) by rw[←e2,hqe];exact Qm (f:=(·.1)) hr2) hn.1
       ·exact ih hn.2 hr2 hq2
 rw[h2]
 rfl
theorem Yui{R:List Sm}{BL:List Row}(hB:Yit R R.length BL)(hBl:BL.length≤1000){K S:List Nat}(hK:K.Pairwise (· < ·))(hK60:∀k∈K,k < 60)(hS60:∀x∈S,x < 60)(hT:∀k∈K,∀x,x < 60→tfB R BL k x=true→x∈S∨x∈K) :
 ∃rows:List Srw,Mk S (tfB R BL) (ofB R BL) rows∧rows.map (·.1)=K∧Yd5 [.lst (rwD R BL),.lst (K.map nD)]=some (.tup (rows.map srwD)):=by
 have hKl:K.length≤60:=Yi9 (hK.imp fun h=>qm h) hK60
 have hc:=Yfb (fe:=Yb4) (r:=[]) (enc:=fun r:Row=>prD2 R r.2) (fun r=>.tup [.int r.1,totD R (fl 60 r.2)]) (l:=BL) (fun r hr=>by
  have hl:=Yhg (hB.1 r hr).1
  have hi:=Yn1 R r.2
  have ht:totD R (fl 60 r.2)=.tup [.tup ((fl 60 (tP R r.2)).map nD),.bl (oddO R (fl 60 r.2))]:=rfl
  rw[←ht]at hi
  generalize totD R (fl 60 r.2)=TT at *
  generalize prD2 R r.2=PW at *
  simp[Yb4,hl,hi])
 have hrw:(BL.map fun r:Row=>prD2 R r.2)=rwD R BL:=rfl
 rw[hrw]at hc
 have h1:pairsOf (.lst (BL.map fun r=>.tup [.int r.1,totD R (fl 60 r.2)]))=some (BL.map fun r=>((r.1:Int),totD R (fl 60 r.2))):=Yqc R BL
 have hn2:=Yiw hB.2
 have hd:=Ykz (BL.map fun r=>((r.1:Int),totD R (fl 60 r.2))) [] [] (by
  rw[Qn,Qj]
  rw[Qj]at hn2
  exact hn2)
 have hlen:(BL.map fun r=>((r.1:Int),totD R (fl 60 r.2))).length < 1000000:=by rw[qf];omega
 obtain⟨ρ',e1,rows,y4,y5,y6,hM,hrk,rfl⟩:=Yeg (gt:=gSet 4) (fb:=Ycw) nD (fun pre ρ=>∃(rows:List Srw) (y4 y5 y6:Option B),Mk S (tfB R BL) (ofB R BL) rows∧rows.map (·.1)=pre∧
  ρ=[some (.sh (.lst (rwD R BL))),some (.sh (.lst (K.map nD))),some (.od false (kyD BL) (tlD R BL)),some (.od false (rows.map fun r=>nD r.1) (rows.map srwD)),y4,y5,y6]) K []
  [some (.sh (.lst (rwD R BL))),some (.sh (.lst (K.map nD))),some (.od false (kyD BL) (tlD R BL)),some (.od false [] []),none,none,none] ⟨[],none,none,none,.nil,rfl,rfl⟩ (by
   rintro q k r ρ e ⟨rows,y4,y5,y6,hM,hrk,rfl⟩
   rw[Qn]at e
   have hkK:k∈K:=by rw[e];simp
   have hk60:=hK60 k hkK
   have hpw:=hK
   rw[e,List.pairwise_append]at hpw
   have hlt:∀r∈rows,r.1 < k:=fun r hr=>hpw.2.2 r.1 (by rw[←hrk];exact Qm (f:=(·.1)) hr) k (by simp)
   have hok:=y6z hM
   have hrl:rows.length≤1000:=by
    have g1:=congrArg List.length hrk
    have g2:=congrArg List.length e
    simp at g1 g2
    omega
   obtain⟨z5,z6,hst⟩:=Yr0 hB hk60 (rows:=rows) hrl (fun r hr=>⟨hlt r hr,(hok r hr).2.1,fun y hy=>hS60 y ((hok r hr).2.2 y hy).1⟩) (some (.sh (.lst (rwD R BL)))) (some (.sh (.lst (K.map nD)))) y5 y6
   refine⟨_,_,rfl,hst,rows++[Ygt rows k (tfB R BL k) (ofB R BL k)],_,_,_,.snoc hM hlt (Yxr hB hk60) fun x hx hTx=>?_,?_,rfl⟩
   ·rcases hT k hkK x (by omega) hTx with h | h
    ·exact .inl h
    ·right
     rw[hrk]
     rw[e]at h
     rcases qv h with h | h
     ·exact h
     ·rcases qt h with h | h
      ·omega
      ·have h3:=hpw.2.1
       rw[List.pairwise_cons]at h3
       have:=h3.1 x h
       omega
   ·rw[List.map_append,hrk]
    rfl)
 rw[Qn]at hrk
 have hn:(rows.map (·.1)).Nodup:=by rw[hrk];exact hK.imp fun h=>qm h
 have hc1:=Yfb (fe:=Yeo) (r:=[some (.sh (Yet rows))]) (enc:=fun r:Srw=>nD r.1) srwD (l:=rows) (fun r hr=>by
  have hg:=Yzw hn hr
  generalize Yet rows=sd at *
  generalize srwD r=rr at *
  simp[Yeo,hg])
 have hkk:(rows.map fun r:Srw=>nD r.1)=K.map nD:=by rw[←hrk,Qj];rfl
 rw[hkk]at hc1
 refine⟨rows,hM,hrk,?_⟩
 have hdct:sDct 2 (lF (Ybd (b1 (getV 0) Yn) [none] (gSet 0) tY (Yb4))) [some (.sh (.lst (rwD R BL))),some (.sh (.lst (K.map nD))),none,none,none,none,none]=some (.nx [some (.sh (.lst (rwD R BL))),some (.sh (.lst (K.map nD))),some (.od false (kyD BL) (tlD R BL)),none,none,none,none]):=by
  have hcomp:(lF (Ybd (b1 (getV 0) Yn) [none] (gSet 0) tY Yb4)) [some (.sh (.lst (rwD R BL))),some (.sh (.lst (K.map nD))),none,none,none,none,none]=some (.lst (BL.map fun r=>.tup [.int r.1,totD R (fl 60 r.2)])):=by
   generalize rwD R BL=RB at *
   simp[capR,hc]
  rw[y2h,hcomp,qd,h1,qd,Ywu,if_pos hlen,hd]
  simp[Function.comp_def,kyD,tlD]
 have hsd:Yet rows=.dct false (rows.map fun r=>nD r.1) (rows.map srwD):=rfl
 rw[hsd]at hc1
 rw[Yd5,Yac (by rfl)]
 have hst0:Yw 7 [.lst (rwD R BL),.lst (K.map nD)]=[some (.sh (.lst (rwD R BL))),some (.sh (.lst (K.map nD))),none,none,none,none,none]:=rfl
 rw[hst0,Ylz,Ygk,hdct,qd,Yef]
 clear hdct hd hc h1 hn2 hlen hrw hsd hkk hn hrk hM
 generalize (rows.map fun r=>nD r.1)=RK at *
 generalize rows.map srwD=RS at *
 generalize kyD BL=KB at *
 generalize tlD R BL=TB at *
 generalize rwD R BL=RB at *
 generalize K.map nD=KK at *
 have h3:Ydl [some (.sh (.lst RB)),some (.sh (.lst KK)),some (.od false KB TB),some (.od false RK RS),y4,y5,y6]=some (.rt (.tup RS)):=by
  have hfz:frz [3] [some (.sh (.lst RB)),some (.sh (.lst KK)),some (.od false KB TB),some (.od false RK RS),y4,y5,y6]=[some (.sh (.lst RB)),some (.sh (.lst KK)),some (.od false KB TB),some (.sh (.dct false RK RS)),y4,y5,y6]:=rfl
  rw[Ydl,y6g,hfz]
  simp[capR,hc1]
 simp[e1,h3,-Ydl]
end Lw
namespace Lw
open PySem L2 M Bk
noncomputable abbrev bkS(R:List Sm):D:=.tup [.str "sums",.tup (R.map smD)]
theorem Yr1(R:List Sm)(i:Nat)(h:i < R.length):Yd6 [bkS R,.int (i:Int)]=some (.bl true):=by
 rw[Yd6,Yac (by rfl)]
 have hlen:((R.map smD).length:Int)=(R.length:Int):=by simp
 have h1:(0:Int)≤(i:Int):=by omega
 have h2:(i:Int) < (R.length:Int):=by omega
 generalize R.map smD=RR at *
 simp[Yl0,Yw,hlen,h,h1,h2]
theorem Yxs{l:List Nat}(x:Nat):atI ((l++[x]).map nD) (-1)=some (.int (x:Int)):=by
 unfold atI ixN
 rw[qf,if_neg (by omega),if_pos (by simp;omega)]
 simp
 have e:(-1+((l.length:Int)+1)).toNat=l.length:=by omega
 rw[e]
 simp
theorem y8o{R:List Sm}{W:Nat→Bool}{x:Nat}(h:tP R W x=true):∃p,(rg R p).1 x=true:=by
 have h1:oddP R (fl 60 W) x % 2=1:=by simpa [tP]using h
 unfold oddP at h1
 cases e:(fl 60 W).filter fun p=>decide (x∈fl 60 (rg R p).1)with
 | nil=>rw[e]at h1;exact absurd h1 (by decide)
 | cons p l=>
   have:p∈(fl 60 W).filter fun p=>decide (x∈fl 60 (rg R p).1):=by rw[e];simp
   have:=(Qc this).2
   exact⟨p,(Qc (of_decide_eq_true this)).2⟩
theorem y63{R:List Sm}{p x:Nat}(h:(rg R p).1 x=true):rg R p∈R∧p < R.length:=by
 by_cases hp:p < R.length
 ·unfold rg
  rw[List.getD_eq_getElem?_getD,qq hp]
  exact⟨qy hp,hp⟩
 ·unfold rg at h
  rw[List.getD_eq_getElem?_getD,List.getElem?_eq_none (by omega)]at h
  cases h
theorem Yr2{S:List Nat}{R:List Sm}{W:Nat→Bool}(hR:R.length≤60)(h:BadW R S W):Yc0 [.tup ((fl 60 W).map nD),bkS R,.lst (S.map nD)]=some (.bl true):=by
 have hps60:∀x∈fl 60 W,x < 60:=fun x hx=>Qb (Qc hx).1
 have hlt:∀x∈fl 60 W,x < R.length:=fun x hx=>h.1 x (Qc hx).2
 have hpl:(fl 60 W).length≤3700:=by have:=Yis 60 W;omega
 have hri:=Yky hps60 hpl
 have hr1:Yiu (fl 60 W)=true:=decide_eq_true (List.Pairwise.filter _ List.pairwise_lt_range)
 rw[hr1]at hri
 have hadd:Yh6 [bkS R,.tup ((fl 60 W).map nD)]=some (totD R (fl 60 W)):=y3g rfl hlt
 have hti:Yn (totD R (fl 60 W))=some [.tup ((fl 60 (tP R W)).map nD),.bl (oddO R (fl 60 W))]:=rfl
 have hbad:=h.2
 clear h
 have hc:=Yfb (fe:=Yer) (r:=[some (.sh (bkS R))]) (enc:=nD) (fun _=>.bl true) (l:=fl 60 W) (fun p hp=>by
  have hpl:=Yr1 R p (hlt p hp)
  generalize bkS R=bk at *
  simp[Yer,hpl])
 have hb:blsD ((fl 60 W).map fun _=>D.bl true)=some ((fl 60 W).map fun _=>true):=Yeh _ _
 have hall:((fl 60 W).map fun _=>true).all id=true:=by rw[List.all_map];exact List.all_eq_true.mpr fun _ _=>rfl
 rw[Yc0,Yac (by rfl)]
 have hst:Yw 4 [.tup ((fl 60 W).map nD),bkS R,.lst (S.map nD)]=[some (.sh (.tup ((fl 60 W).map nD))),some (.sh (bkS R)),some (.sh (.lst (S.map nD))),none]:=rfl
 rw[hst]
 have hbi:Yn (bkS R)=some [.str "sums",.tup (R.map smD)]:=rfl
 rcases hbad with⟨hfl,ho⟩ | ⟨l,hl,hL⟩
 ·have hv:=Yxa (k:=.s) (n:=60) (r:=.su [] true) ⟨rfl,by simp⟩ (by decide)
  have hsv:totD R (fl 60 W)=rlD (.su [] true):=by
   show D.tup [.tup ((fl 60 (tP R W)).map nD),.bl (oddO R (fl 60 W))]=_
   rw[hfl,ho]
   rfl
  have hvt:eqD (rlD (.su [] true)) (rlD (vd .s))=true:=by decide +kernel
  rw[hvt]at hv
  have hks:kdD .s=.str "sums":=rfl
  rw[hks]at hv
  rw[hsv]at hadd hti
  rw[hfl,List.map_nil,ho]at hti
  generalize rlD (.su [] true)=vr at *
  clear hsv
  generalize ((fl 60 W).map fun _=>true)=B1 at *
  generalize ((fl 60 W).map fun _=>D.bl true)=B2 at *
  generalize (fl 60 W).map nD=PP at *
  generalize bkS R=bk at *
  generalize R.map smD=RR at *
  generalize S.map nD=SS at *
  simp[Yid,hri,capR,hc,hb,hall,hadd,hti,hbi,hv]
 ·have hF:=y60 hL
  have ha:=Yxs (l:=fl 60 (wl (tP R W) l)) l
  have n1:=in_n (c:=.lst (S.map nD)) l S false rfl
  simp only[nD,hl,decide_true,Qo,if_false]at n1
  rw[hF]at hti
  have htr:truD (.tup ((fl 60 (wl (tP R W) l)++[l]).map nD))=some true:=by simp
  generalize totD R (fl 60 W)=wh at *
  generalize oddO R (fl 60 W)=oo at *
  generalize (fl 60 (wl (tP R W) l)++[l]).map nD=FF at *
  generalize ((fl 60 W).map fun _=>true)=B1 at *
  generalize ((fl 60 W).map fun _=>D.bl true)=B2 at *
  generalize (fl 60 W).map nD=PP at *
  generalize bkS R=bk at *
  generalize S.map nD=SS at *
  simp[Yid,hri,capR,hc,hb,hall,hadd,hti,ha,n1,htr]
theorem Yxt{hs:List Bool}{st:Nat}{b:Bool}{x:Nat}(h:x∈ofH hs st b):x < hs.length:=Qb (Qc h).1
def InB(R:List Sm)(st n:Nat):Prop:=∀q∈R,∀x,x < 60→q.1 x=true→st≤x∧x < n
theorem Yxu{hs:List Bool}{st x:Nat}(h1:st≤x)(h2:x < hs.length):x∈ofH hs st false∨x∈ofH hs st true:=by
 have hm:∀b,hs.getD x false=b→x∈ofH hs st b:=fun b hb=>by
  unfold ofH
  rw[Ql,List.mem_range]
  exact⟨h2,by simp[h1,←hb]⟩
 cases hb:hs.getD x false with
 | false=>exact .inl (hm _ hb)
 | true=>exact .inr (hm _ hb)
theorem Yzx{hs:List Bool}{st:Nat}:∀x∈ofH hs st false,x∉ofH hs st true:=fun x h1 h2=>by
 unfold ofH at h1 h2
 have g1:=(Qc h1).2
 have g2:=(Qc h2).2
 simp at g1 g2
 have e1:=g1.2
 have e2:=g2.2
 rw[e1]at e2
 cases e2
structure GoodW(R:List Sm)(K S:List Nat)(rows:List Srw):Prop where
 ks:rows.map (·.1)=K
 row:∀r∈rows,r.1 < 60∧r.2.1.Pairwise (· < ·)∧∀y∈r.2.1,y∈S∧y < r.1
 kept:∀p,p < R.length→kp rows (rg R p).1 (rg R p).2
noncomputable def outD(storm:Bool)(pp:D):D:=.tup [.str (if storm=true then Str.ofString "storm" else Str.ofString "keeper"),pp]
theorem Yn2{R:List Sm}(hR:R.length≤60){c:D}{hs:List Bool}(hc:Yn c=some (hs.map hdD))(hl:hs.length≤60){st:Nat}(hst:st≤hs.length)(hin:InB R st hs.length) :
 (∃W:Nat→Bool,BadW R (ofH hs st false) W∧Yai [bkS R,c,.int st]=some (outD true (.tup [.str "odd",.tup ((fl 60 W).map nD)])))∨
 (∃rows:List Srw,GoodW R (ofH hs st true) (ofH hs st false) rows∧Yai [bkS R,c,.int st]=some (outD false (.tup [.str "sums",.tup (rows.map srwD)]))):=by
 have b1:=Ybb hs hc (by omega) st hst true
 have b2:=Ybb hs hc (by omega) st hst false
 simp only[hdD,if_true,Qo,if_false]at b1 b2
 obtain⟨BL,U,hB,hU,hpw,hred,hrun0⟩:=Yxg hR
 have hrun:Yd3 [bkS R]=some (.tup [.lst (rwD R BL),voD U]):=hrun0
 clear hrun0
 obtain⟨V,hV0,hV1,hpl⟩:=Yk1 hB hU (ofH hs st false)
 have hbd:∀W x,x < 60→tP R W x=true→st≤x∧x < hs.length:=fun W x hx hT=>by
  obtain⟨p,hp⟩:=y8o hT
  exact hin _ (y63 hp).1 x hx hp
 have hBl:BL.length≤60:=by
  have:=Yi9 hB.2 (fun x hx=>by
   obtain⟨r,hr,rfl⟩:=qx hx
   exact(hB.1 r hr).1.1)
  simpa using this
 cases V with
 | some W=>
   refine .inl ⟨W,hV1 W rfl,?_⟩
   have hv:voD (some W)=.tup ((fl 60 W).map nD):=rfl
   rw[hv]at hpl
   rw[Yai,Yac (by rfl)]
   clear hred hB hU hV0 hV1 hpw hbd
   generalize (ofH hs st true).map nD=KK at *
   generalize (ofH hs st false).map nD=SS at *
   generalize rwD R BL=RB at *
   generalize voD U=UU at *
   generalize (fl 60 W).map nD=WW at *
   generalize bkS R=bk at *
   simp[Yep,Yw,b1,b2,hrun,hpl,outD]
 | none=>
   obtain⟨hU0,hnS⟩:=hV0 rfl
   subst hU0
   have hKpw:(ofH hs st true).Pairwise (· < ·):=List.Pairwise.filter _ List.pairwise_lt_range
   have hT:∀k∈ofH hs st true,∀x,x < 60→tfB R BL k x=true→x∈ofH hs st false∨x∈ofH hs st true:=fun k hk x hx hTx=>by
    unfold tfB at hTx
    by_cases h:k∈BL.map (·.1)
    ·rw[if_pos h]at hTx
     obtain⟨g1,g2⟩:=hbd _ x hx hTx
     exact Yxu g1 g2
    ·rw[if_neg h]at hTx
     have:x=k:=by simpa using hTx
     rw[this]
     exact .inr hk
   obtain⟨rows,hM,hrk,hrows⟩:=Yui hB (by omega) (K:=ofH hs st true) (S:=ofH hs st false) hKpw (fun k hk=>Qh (Yxt hk) hl) (fun k hk=>Qh (Yxt hk) hl) hT
   refine .inr ⟨rows,⟨hrk,y6z hM,fun p hp=>?_⟩,?_⟩
   ·refine Red.kp (R:=R) (BL:=BL) (fun r hr=>?_) (hred p hp)
    have hLr:=(hB.1 r hr).1
    obtain⟨g1,g2⟩:=hbd _ r.1 hLr.1 hLr.2.1
    have hrK:r.1∈ofH hs st true:=(Yxu g1 g2).resolve_left (hnS r hr)
    rw[←hrk]at hrK
    obtain⟨q,hq,e⟩:=qx hrK
    have hkp:=y8n hM q hq
    rw[e]at hkp
    have hkey:r.1∈BL.map (·.1):=Qm (f:=(·.1)) hr
    have hat:=(Yd9 (fun _=>D.non) hkey).1
    have hun:=Ys7 hB.2 hat hr rfl
    have he:rwAt BL r.1=r.2:=congrArg Prod.snd hun
    unfold tfB ofB at hkp
    rw[if_pos hkey,if_pos hkey,he]at hkp
    exact hkp
   ·rw[Yai,Yac (by rfl)]
    clear hred hB hU hV0 hV1 hpw hbd hM hT hrk hnS
    generalize (ofH hs st true).map nD=KK at *
    generalize (ofH hs st false).map nD=SS at *
    generalize rwD R BL=RB at *
    generalize rows.map srwD=WW at *
    generalize bkS R=bk at *
    have hvn:voD none=.non:=rfl
    rw[hvn]at hpl hrun
    simp[Yep,Yw,b1,b2,hrun,hpl,hrows,outD]
end Lw
namespace Lw
open PySem L2 M Bk
theorem Yf6{a b:String}(h:(Str.ofString a==Str.ofString b)=false)(neg:Bool):eqM neg (.str (Str.ofString a)) (.str (Str.ofString b))=some neg:=by
 rw[Yip (by simp) (by simp),Yq6,h]
 cases neg<;>rfl
theorem Yhh(a:String)(neg:Bool):eqM neg (.str (Str.ofString a)) (.str (Str.ofString a))=some (!neg):=by
 rw[Yip (by simp) (by simp),Yq6]
 cases neg<;>simp
theorem Yqd{j:Nat}{l:List D}(h:∀d∈l,y8 j [d]=some (.bl true)):y8 (j+1) [.tup l]=some (.bl true):=by
 have hc:=Yfb (fe:=Ydw (y8 j)) (r:=[]) (enc:=fun d:D=>d) (fun _=>.bl true) (l:=l) (fun d hd=>by simp[Ydw,h d hd])
 rw[List.map_id']at hc
 have hb:blsD (l.map fun _=>D.bl true)=some (l.map fun _=>true):=Yeh (fun _:D=>true) l
 have hall:(l.map fun _=>true).all id=true:=by rw[List.all_map];exact List.all_eq_true.mpr fun _ _=>rfl
 rw[y8,Yac (by rfl)]
 generalize (l.map fun _=>D.bl true)=B2 at *
 generalize (l.map fun _=>true)=B1 at *
 simp[Ydd,Yw,isiD,Yc7,Yk5,capR,hc,hb,hall]
theorem y0u(j:Nat)(i:Int):y8 (j+1) [.int i]=some (.bl true):=by
 rw[y8,Yac (by rfl)]
 simp[Ydd,Yw,isiD,Yc7,Yk5,isN,Ymj]
theorem y8p(j:Nat)(b:Bool):y8 (j+1) [.bl b]=some (.bl true):=by
 rw[y8,Yac (by rfl)]
 simp[Ydd,Yw,isiD,Yc7,Yk5,isN,Ymj]
theorem y0v(j:Nat)(s:Str):y8 (j+1) [.str s]=some (.bl true):=by
 rw[y8,Yac (by rfl)]
 simp[Ydd,Yw,isiD,Yc7,Yk5,isN,Ymj]
theorem y64(j:Nat)(l:List Nat):y8 (j+2) [.tup (l.map nD)]=some (.bl true):=Yqd fun d hd=>by
 obtain⟨x,_,rfl⟩:=qx hd
 exact y0u j x
theorem Yxv(W:List Nat):Ycc [.tup [.str "odd",.tup (W.map nD)]]=some (.bl true):=by
 refine Yqd (j:=11) fun d hd=>?_
 rcases qt hd with rfl | hd
 ·exact y0v 10 _
 ·rw[Qi]at hd
  subst hd
  exact y64 9 W
theorem Yuj(rows:List Srw):Ycc [.tup [.str "sums",.tup (rows.map srwD)]]=some (.bl true):=by
 refine Yqd (j:=11) fun d hd=>?_
 rcases qt hd with rfl | hd
 ·exact y0v 10 _
 ·rw[Qi]at hd
  subst hd
  refine Yqd (j:=10) fun d hd=>?_
  obtain⟨r,_,rfl⟩:=qx hd
  refine Yqd (j:=9) fun d hd=>?_
  rcases qt hd with rfl | hd
  ·exact y0u 8 _
  ·rcases qt hd with rfl | hd
   ·exact y64 7 r.2.1
   ·rw[Qi]at hd
    subst hd
    exact y8p 8 _
theorem Yuk(x:D):Ya2 [.tup [.str "odd",x]]=some (.bl true):=by
 have e1:=Yf6 (a:="odd") (b:="plan") (by decide +kernel) false
 have e2:=Yf6 (a:="odd") (b:="sums") (by decide +kernel) false
 have e3:inM false (.str "odd") (.lst [.str "clash",.str "cross",.str "late"])=some false:=by decide +kernel
 rw[Ya2,Yac (by rfl)]
 simp[Yfi,Yw,e1,e2,e3]
theorem Yr3(rows:List Srw):Ya2 [.tup [.str "sums",.tup (rows.map srwD)]]=some (.bl true):=by
 have e1:=Yf6 (a:="sums") (b:="plan") (by decide +kernel) false
 have e2:=Yhh "sums" false
 simp only[Bool.not_false]at e2
 have hc:=Yfb (fe:=Yde) (r:=[]) (enc:=srwD) (fun _=>.bl true) (l:=rows) (fun r _=>by
  have hi:=Yfm r
  generalize srwD r=rr at *
  simp[Yde,hi,y0o,isiD,Yc7,Yk5])
 have hb:blsD (rows.map fun _=>D.bl true)=some (rows.map fun _=>true):=Yeh (fun _:Srw=>true) rows
 have hall:(rows.map fun _=>true).all id=true:=by rw[List.all_map];exact List.all_eq_true.mpr fun _ _=>rfl
 rw[Ya2,Yac (by rfl)]
 generalize (rows.map fun _=>D.bl true)=B2 at *
 generalize (rows.map fun _=>true)=B1 at *
 generalize rows.map srwD=RS at *
 simp[Yfi,Yw,e1,e2,capR,hc,hb,hall]
theorem Yr4{R:List Sm}{c:D}{hs:List Bool}(hc:Yn c=some (hs.map hdD))(hl:hs.length≤60){st:Nat}(hst:st≤hs.length){rows:List Srw}(h:GoodW R (ofH hs st true) (ofH hs st false) rows) :
 Ybg [.tup [.str "sums",.tup (rows.map srwD)],bkS R,c,.int st]=some (.bl true):=by
 have b1:=Ybb hs hc (by omega) st hst true
 have b2:=Ybb hs hc (by omega) st hst false
 simp only[hdD,if_true,Qo,if_false]at b1 b2
 have hKpw:(ofH hs st true).Pairwise (· < ·):=List.Pairwise.filter _ List.pairwise_lt_range
 have hKn:(ofH hs st true).Nodup:=hKpw.imp fun h=>qm h
 have hrl:rows.length≤1000:=by
  have g:=congrArg List.length h.ks
  have g2:(ofH hs st true).length≤60:=Nat.le_trans (List.length_filter_le _ _) (by simpa using hl)
  simp at g
  omega
 have h60:∀r∈rows,∀y∈r.2.1,y < 60:=fun r hr y hy=>Qh (Yxt ((h.row r hr).2.2 y hy).1) hl
 have hg:=Yry hrl (fun r hr=>⟨by
  have:=Yi9 ((h.row r hr).2.1.imp fun h=>qm h) (h60 r hr)
  omega,h60 r hr⟩) R hKn (ofH hs st false)
 have hsb:Yrx rows R (ofH hs st true) (ofH hs st false)=true:=by
  unfold Yrx
  rw[Qe,Qe,decide_eq_true_eq,List.all_eq_true,List.all_eq_true]
  refine⟨⟨h.ks,fun r hr=>?_⟩,fun q hq=>?_⟩
  ·obtain⟨_,g1,g2⟩:=h.row r hr
   unfold Yhf Yiu
   rw[Qe,List.all_eq_true]
   refine⟨decide_eq_true g1,fun y hy=>?_⟩
   obtain⟨k1,k2⟩:=g2 y hy
   simp[k1,k2]
  ·obtain⟨p,hp,rfl⟩:=List.mem_iff_getElem.mp hq
   have e:rg R p=R[p]:=by
    unfold rg
    rw[List.getD_eq_getElem?_getD,qq hp]
    rfl
   have:=h.kept p hp
   rw[e]at this
   exact kept_kp.mpr this
 rw[hsb]at hg
 have hg':Ybp [.tup (rows.map srwD),bkS R,.lst ((ofH hs st true).map nD),.lst ((ofH hs st false).map nD)]=some (.bl true):=hg
 clear hg hsb h60 h
 rw[Ybg,Ya9,Yac (by rfl)]
 have e1:=Yf6 (a:="sums") (b:="plan") (by decide +kernel) false
 have e3:=Yhh "sums" false
 have k1:=Yf6 (a:="sums") (b:="nots") (by decide +kernel) false
 have hib:Yn (bkS R)=some [.str "sums",.tup (R.map smD)]:=rfl
 generalize (ofH hs st true).map nD=KK at *
 generalize (ofH hs st false).map nD=SS at *
 generalize rows.map srwD=WW at *
 generalize R.map smD=RR at *
 generalize bkS R=bk at *
 simp only[Bool.not_false]at e3
 simp[Yhc,Yw,hib,b1,b2,e1,e3,k1,hg']
theorem Yxw{R:List Sm}(hR:R.length≤60){c:D}{hs:List Bool}(hc:Yn c=some (hs.map hdD))(hl:hs.length≤60){st:Nat}(hst:st≤hs.length){W:Nat→Bool}(h:BadW R (ofH hs st false) W) :
 Ybs [.tup [.str "odd",.tup ((fl 60 W).map nD)],bkS R,c,.int st]=some (.bl true):=by
 have hg:=Yr2 hR h
 have b1:=Ybb hs hc (by omega) st hst true
 have b2:=Ybb hs hc (by omega) st hst false
 simp only[hdD,if_true,Qo,if_false]at b1 b2
 rw[Ybs,Ybh,Yac (by rfl)]
 have e1:=Yf6 (a:="odd") (b:="broken") (by decide +kernel) false
 have e3:=Yhh "odd" false
 have k1:=Yf6 (a:="sums") (b:="nots") (by decide +kernel) false
 have k2:=Yf6 (a:="sums") (b:="eithers") (by decide +kernel) false
 have k3:=Yhh "sums" false
 have hib:Yn (bkS R)=some [.str "sums",.tup (R.map smD)]:=rfl
 clear h
 generalize (ofH hs st true).map nD=KK at *
 generalize (ofH hs st false).map nD=SS at *
 generalize (fl 60 W).map nD=WW at *
 generalize R.map smD=RR at *
 generalize bkS R=bk at *
 simp only[Bool.not_false]at e3 k3
 simp[Yir,Yw,hib,b1,b2,e1,e3,k1,k2,k3,hg]
theorem Yl6{pl:List D}{bk c:D}{st:Int}(w:Bool)(hpl:Ycc [.tup pl]=some (.bl true))(htr:Ya2 [.tup pl]=some (.bl true))(hg:(w=true→Ybs [.tup pl,bk,c,.int st]=some (.bl true))∧(w=false→Ybg [.tup pl,bk,c,.int st]=some (.bl true))) :
 Yba [outD w (.tup pl),bk,c,.int st]=some (.bl true):=by
 have e1:=Yf6 (a:="storm") (b:="keeper") (by decide +kernel) false
 have e2:=Yf6 (a:="storm") (b:="keeper") (by decide +kernel) true
 have e3:=Yhh "storm" true
 have e4:=Yhh "keeper" true
 have e5:=Yhh "keeper" false
 simp only[Bool.not_false,Bool.not_true]at e3 e4 e5
 cases w with
 | true=>
   have h:=hg.1 rfl
   have hgd:Yko [.tup pl,bk,c,.int st,.str "storm"]=some (.bl true):=by
    rw[Yko,Yac (by rfl)]
    simp[Yw9,Yw,e1,h]
   rw[Yba,Yac (by rfl)]
   simp[Yif,Yw,outD,isiD,Yc7,Yk5,e2,e3,hpl,htr,hgd,isBl]
 | false=>
   have h:=hg.2 rfl
   have hgd:Yko [.tup pl,bk,c,.int st,.str "keeper"]=some (.bl true):=by
    rw[Yko,Yac (by rfl)]
    simp[Yw9,Yw,e5,h]
   rw[Yba,Yac (by rfl)]
   simp[Yif,Yw,outD,isiD,Yc7,Yk5,e4,hpl,htr,hgd,isBl]
end Lw
namespace Lw
open PySem L2 M Bk
noncomputable def catS(R:List Sm)(ps:List Nat):List Nat:=ps.flatMap fun p=>fl 60 (rg R p).1
theorem y0w:∀{l:List Nat} {x:Nat},l.Nodup→x∈l→l.count x=1
 | [],_,_,h=>by simp at h
 | y::l,x,hn,h=>by
   obtain⟨h1,h2⟩:=List.nodup_cons.mp hn
   rw[List.count_cons]
   by_cases e:y=x
   ·subst e
    rw[List.count_eq_zero_of_not_mem h1]
    simp
   ·have hm:x∈l:=(qt h).elim (fun z=>absurd z.symm e) id
    rw[y0w h2 hm]
    simp[e]
theorem Yk2(R:List Sm)(x:Nat):∀ps:List Nat,(catS R ps).count x=oddP R ps x
 | []=>rfl
 | p::ps=>by
   have ih:=Yk2 R x ps
   unfold catS oddP at *
   rw[List.flatMap_cons,List.count_append,ih,List.filter_cons]
   have hnd:(fl 60 (rg R p).1).Nodup:=(List.nodup_range).filter _
   by_cases h:x∈fl 60 (rg R p).1
   ·rw[y0w hnd h]
    simp only[h,decide_true,if_true,qr]
    omega
   ·rw[List.count_eq_zero_of_not_mem h]
    simp only[h,decide_false,Qo,if_false]
    omega
theorem Yl7(x:Nat):∀l:List Nat,(l.map fun y:Nat=>(y:Int)).count (x:Int)=l.count x
 | []=>rfl
 | y::l=>by
   rw[Qd,List.count_cons,List.count_cons,Yl7 x l]
   by_cases h:y=x
   ·simp[h]
   ·have h':¬(y:Int)=(x:Int):=by omega
    simp[h,h']
theorem Yr5(R:List Sm):∀ps:List Nat,(catS R ps).length≤60 * ps.length
 | []=>qu _
 | p::ps=>by
   have ih:=Yr5 R ps
   have:=Yis 60 (rg R p).1
   unfold catS at *
   rw[List.flatMap_cons,qz,qr]
   omega
theorem Yul{R:List Sm}(hR:R.length≤60)(v:Int):∃ps:List Nat,(∀p∈ps,p < R.length)∧Yd8 [.tup (R.map smD),.int v]=some (totD R ps):=by
 have hg:=Yhz (n:=(R.length:Int)) (by omega) (by omega)
 rw[Ygl]at hg
 have el:((R.length:Int) - 0).toNat=R.length:=by omega
 rw[el]at hg
 simp only[Int.zero_add]at hg
 obtain⟨ρ1,e1,ps,y4,hlt,hl,rfl⟩:=Yeg (gt:=gSet 4) (fb:=Ydn) (fun i:Nat=>D.int ((i:Nat):Int)) (fun pre ρ=>∃(ps:List Nat) (y4:Option B),(∀p∈ps,p < R.length)∧ps.length≤pre.length∧ρ=[some (.sh (.tup (R.map smD))),some (.sh (.int v)),some (.ow ((catS R ps).map nD)),some (.sh (.bl (oddO R ps))),y4]) (List.range R.length) []
  [some (.sh (.tup (R.map smD))),some (.sh (.int v)),some (.ow []),some (.sh (.bl false)),none] ⟨[],none,fun p hp=>(nomatch hp),qu _,rfl⟩ (by
   rintro q p r ρ e ⟨ps,y4,hlt,hl,rfl⟩
   rw[Qn]at e
   have hpl:p < R.length:=Qb (by rw[e];simp)
   have hq:q.length≤60:=by have:=congrArg List.length e;simp at this;omega
   have hat:=y6q hpl
   have hcl:=Yr5 R ps
   have hfl:=Yis 60 (rg R p).1
   have hcat:=y25 (a:=(catS R ps).map nD) (b:=(fl 60 (rg R p).1).map nD) (by rw[qf,qf];omega)
   have hap:(catS R ps).map nD++(fl 60 (rg R p).1).map nD=(catS R (ps++[p])).map nD:=by unfold catS;rw[List.flatMap_append,List.map_append];simp
   rw[hap]at hcat
   have hsh:=Yqz v p
   have hoa:=Yny R ps p
   by_cases hv:v / 2 ^ p % 3=1
   ·refine⟨_,[some (.sh (.tup (R.map smD))),some (.sh (.int v)),some (.ow ((catS R (ps++[p])).map nD)),some (.sh (.bl (oddO R (ps++[p])))),some (.sh (.int (p:Int)))],rfl,?_,ps++[p],_,fun x hx=>?_,by simp;omega,rfl⟩
    ·rw[hoa]
     have hsi:Yn (smD (rg R p))=some [.tup ((fl 60 (rg R p).1).map nD),.bl (rg R p).2]:=rfl
     have hlf:Ymk [.tup ((fl 60 (rg R p).1).map nD)]=some ((fl 60 (rg R p).1).map nD):=rfl
     have hbx:∀a b:Bool,(!(a==b))=(a != b):=fun a b=>rfl
     generalize smD (rg R p)=sp at *
     generalize (fl 60 (rg R p).1).map nD=ff at *
     generalize (catS R (ps++[p])).map nD=C2 at *
     generalize (catS R ps).map nD=C1 at *
     generalize R.map smD=RR at *
     generalize oddO R ps=oq at *
     generalize (rg R p).2=op at *
     simp[Ydn,hsh,hv,hat,hsi,hlf,hcat,hbx]
    ·rcases qv hx with hx | hx
     ·exact hlt x hx
     ·rw[Qi]at hx
      omega
   ·refine⟨_,[some (.sh (.tup (R.map smD))),some (.sh (.int v)),some (.ow ((catS R ps).map nD)),some (.sh (.bl (oddO R ps))),some (.sh (.int (p:Int)))],rfl,?_,ps,_,hlt,by simp;omega,rfl⟩
    generalize (catS R ps).map nD=C1 at *
    generalize R.map smD=RR at *
    generalize oddO R ps=oq at *
    simp[Ydn,hsh,hv])
 rw[Qn,List.length_range]at hl
 refine⟨ps,hlt,?_⟩
 have hlt60:∀x∈catS R ps,x < 60:=fun x hx=>by
  obtain⟨p,_,h⟩:=List.mem_flatMap.mp hx
  exact Qb (Qc h).1
 obtain⟨l,hpw,hmem,hss⟩:=Ys3 (n:=60) (by omega) (catS R ps) hlt60 (by have:=Yr5 R ps;omega)
 have hcm:=Ys0 (fc:=Yfj) (fe:=Yfk) (r:=[some (.sh (.lst ((catS R ps).map nD)))]) (enc:=nD) (fun x=>decide (oddP R ps x % 2=1)) nD (l:=l) (fun x _=>by
  have hc:cntD (.lst ((catS R ps).map nD)) (.int (x:Int))=some (.int (oddP R ps x:Nat)):=by
   have e:(catS R ps).map nD=((catS R ps).map fun y:Nat=>(y:Int)).map D.int:=by simp
   rw[e,Yzm,Yl7,Yk2]
  have hm:((oddP R ps x:Int) % 2=1)↔(oddP R ps x % 2=1):=by omega
  generalize D.lst ((catS R ps).map nD)=cc at *
  simp[Yfj,hc,hm]) (fun _ _ _=>by simp[Yfk])
 have hfin:(l.filter fun x=>decide (oddP R ps x % 2=1))=fl 60 fun x=>decide (oddP R ps x % 2=1):=by
  rw[y3f (hpw.filter _) (n:=60) (fun x hx=>hlt60 x ((hmem x).mp (Qc hx).1))]
  refine List.filter_congr fun x hx=>?_
  have hc:=Yk2 R x ps
  by_cases h:oddP R ps x % 2=1
  ·have:x∈catS R ps:=by
    refine Classical.byContradiction fun z=>?_
    rw[List.count_eq_zero_of_not_mem z]at hc
    omega
   simp[h,(hmem x).mpr this]
  ·simp[h]
 rw[hfin]at hcm
 rw[Yd8,Yac (by rfl)]
 have hst:Yw 5 [.tup (R.map smD),.int v]=[some (.sh (.tup (R.map smD))),some (.sh (.int v)),none,none,none]:=rfl
 rw[hst]
 have htd:totD R ps=.tup [.tup ((fl 60 fun x=>decide (oddP R ps x % 2=1)).map nD),.bl (oddO R ps)]:=rfl
 rw[htd]
 have hlen:((R.map smD).length:Int)=(R.length:Int):=by simp
 generalize (fl 60 fun x=>decide (oddP R ps x % 2=1)).map nD=TT at *
 generalize l.map nD=LL at *
 generalize (catS R ps).map nD=CC at *
 generalize R.map smD=RR at *
 generalize oddO R ps=oo at *
 simp[Yp4,hlen,hg,e1,hss,capR,hcm]
theorem Yxx{n st:Nat}(hn:n≤60):∀{R:List Rl},(∀r∈R,In .s n r∧Srt r∧∀x∈bcs r,st≤x)→∃Q:List Sm,Q.length=R.length∧InB Q st n∧R.map rlD=Q.map smD
 | [],_=>⟨[],rfl,fun q hq=>(nomatch hq),rfl⟩
 | r::R,h=>by
   obtain⟨Q,h1,h2,h3⟩:=Yxx hn fun x hx=>h x (qg _ hx)
   obtain⟨g1,g2,g3⟩:=h r qh
   cases r with
   | ei l=>cases g1.1
   | im b o=>rcases g1.1 with z | z<;>cases z
   | su b o=>
     refine⟨(fun x=>decide (x∈b),o)::Q,by simp[h1],fun q hq=>?_,?_⟩
     ·rcases qt hq with rfl | hq
      ·intro x _ hx
       have hxb:x∈b:=of_decide_eq_true hx
       exact⟨g3 x hxb,g1.2 x hxb⟩
      ·exact h2 q hq
     ·rw[Qd,Qd,h3]
      have:=y6r (l:=b) g2 (fun x hx=>by have:=g1.2 x hx;omega) o
      rw[←this]
      rfl
theorem Yzy{Q:List Sm}{st m n:Nat}(h:InB Q st m)(hm:m≤n):InB Q st n:=fun q hq x hx hT=>by
 obtain⟨g1,g2⟩:=h q hq x hx hT
 exact⟨g1,by omega⟩
theorem Yqe(b:Bool):eqM false (hdD b) (.str "keeper")=some b:=by
 have e:D.str "keeper"=hdD true:=rfl
 rw[e,y6u]
 cases b<;>rfl
theorem y65{hs:List Bool}{i:Nat}(h:i < hs.length):atI (hs.map hdD) (i:Int)=some (hdD (hs.getD i false)):=by
 rw[Ye9,Yfs h]
 simp[h]
theorem Yqf(ns:List Int)(hns:ns.length≤63):∃(R:List Sm) (hs:List Bool) (st:Nat),R.length≤59∧hs.length≤60∧st≤hs.length∧InB R st hs.length∧Ycd [.str "sums",.scr ns]=some (.lst [bkS R,.tup (hs.map hdD),.int (st:Int)]):=by
 have c0:=Yp5 ns 0
 have c1:=Yp5 ns 1
 have c2:=Yp5 ns 2
 have c3:=Yp5 ns 3
 generalize ns.getD 0 0=x0 at c0
 generalize ns.getD 1 0=x1 at c1
 generalize ns.getD 2 0=x2 at c2
 generalize ns.getD 3 0=x3 at c3
 simp at c0 c1 c2 c3
 obtain⟨n,hn⟩:∃n:Nat,1+x0 % 60=(n:Int):=⟨(1+x0 % 60).toNat,by omega⟩
 have hn60:n≤60:=by omega
 have hn1:1≤n:=by omega
 have hpI:(0:Int) < (n:Int):=by omega
 have q1:=Int.emod_nonneg (x0 / 60) (show(n:Int)≠0 by omega)
 have q2:=Int.emod_lt_of_pos (x0 / 60) hpI
 have hmod:modI (.int (x0 / 60)) (.int (n:Int))=some (.int (x0 / 60 % (n:Int))):=Yo7 hpI
 obtain⟨st,hst⟩:∃s:Nat,x0 / 60 % (n:Int)=(s:Int):=⟨(x0 / 60 % (n:Int)).toNat,by omega⟩
 rw[hst]at hmod
 have hstn:st < n:=by omega
 obtain⟨h1,hl1,he1⟩:=Ykx x1 n (by omega)
 obtain⟨h2,hl2,he2⟩:=Ykx x3 n (by omega)
 obtain⟨v,hv0,hv⟩:=Ynx x2 1865811235122147685
 have hg:=Yhz (n:=(n:Int)) (by omega) (by omega)
 rw[Ygl]at hg
 have el:((n:Int) - 0).toNat=n:=by omega
 rw[el]at hg
 simp only[Int.zero_add]at hg
 have hch:=Yfb (fe:=Ydx) (r:=[some (.sh (.tup (h1.map hdD))),some (.sh (.tup (h2.map hdD)))]) (enc:=fun i:Nat=>D.int ((i:Nat):Int)) (fun i=>hdD (h1.getD i false||h2.getD i false)) (l:=List.range n) (fun i hi=>by
  have hin:=Qb hi
  have a1:=y65 (hs:=h1) (i:=i) (by omega)
  have a2:=y65 (hs:=h2) (i:=i) (by omega)
  have k1:=Yqe (h1.getD i false)
  have k2:=Yqe (h2.getD i false)
  generalize h1.getD i false=u1 at *
  generalize h2.getD i false=u2 at *
  generalize h1.map hdD=H1 at *
  generalize h2.map hdD=H2 at *
  generalize hd1:hdD u1=d1 at *
  generalize hd2:hdD u2=d2 at *
  cases u1<;>cases u2<;>simp[Ydx,a1,a2,k1,k2,hdD])
 have hmm:((List.range n).map fun i=>hdD (h1.getD i false||h2.getD i false))=((List.range n).map fun i=>h1.getD i false||h2.getD i false).map hdD:=by rw[Qj];rfl
 rw[hmm]at hch
 obtain⟨hs,hsl,hhand⟩:∃hs:List Bool,hs.length=n∧∀a7 a8:Option B,Ybi [some (.sh (.str "sums")),some (.sh (.scr ns)),some (.sh (.int n)),some (.sh (.int st)),some (.sh (.tup (h1.map hdD))),some (.sh (.int v)),none,none,none]=Ybi [some (.sh (.str "sums")),some (.sh (.scr ns)),some (.sh (.int n)),some (.sh (.int st)),some (.sh (.tup (h1.map hdD))),some (.sh (.int v)),none,none,none]∧∃z6:Option B,Ybi [some (.sh (.str "sums")),some (.sh (.scr ns)),some (.sh (.int n)),some (.sh (.int st)),some (.sh (.tup (h1.map hdD))),some (.sh (.int v)),none,none,none]=Ycz [some (.sh (.str "sums")),some (.sh (.scr ns)),some (.sh (.int n)),some (.sh (.int st)),some (.sh (.tup (hs.map hdD))),some (.sh (.int v)),z6,none,none]:=by
  by_cases hv3:v % 3=0
  ·refine⟨(List.range n).map fun i=>h1.getD i false||h2.getD i false,by simp,fun _ _=>⟨rfl,some (.sh (.tup (h2.map hdD))),?_⟩⟩
   generalize ((List.range n).map fun i=>h1.getD i false||h2.getD i false).map hdD=HS at *
   generalize h1.map hdD=H1 at *
   generalize h2.map hdD=H2 at *
   simp[hv3,c3,he2,hg,capR,hch,-Ycz]
  ·refine⟨h1,hl1,fun _ _=>⟨rfl,none,?_⟩⟩
   generalize h1.map hdD=H1 at *
   simp[hv3,-Ycz]
 obtain⟨_,z6,e4⟩:=hhand none none
 obtain⟨w,hwm,hwa⟩:=Ywt (l:=[60,60,60,3,6,12,6,12,(6:Int)]) (i:=v / 3 % 9) (Int.emod_nonneg _ (by decide)) (by have:=Int.emod_lt_of_pos (v / 3) (show(0:Int) < 9 by decide);simpa using this)
 have hw3:3≤w:=by
  simp at hwm
  omega
 have hwat:atI ([60,60,60,3,6,12,6,12,(6:Int)].map D.int) (v / 3 % 9)=some (.int w):=by rw[Ye9,hwa];rfl
 have hki:∀ρ:Ro,Yjr [60,60,60,3,6,12,6,12,6] ρ=some ([60,60,60,3,6,12,6,12,(6:Int)].map D.int):=fun _=>rfl
 obtain⟨far,hfar⟩:∃f:Nat,(if (st:Int)+w < (n:Int)then (st:Int)+w else (n:Int))=(f:Int):=⟨(if (st:Int)+w < (n:Int)then (st:Int)+w else (n:Int)).toNat,by split<;>omega⟩
 have hfar1:st < far∧far≤n:=by
  split at hfar<;>omega
 obtain⟨m,hm⟩:∃m:Nat,4+v / 32 % 41=(m:Int):=⟨(4+v / 32 % 41).toNat,by omega⟩
 have hcut:=y3e ns 4 m
 have hcl:((ns.drop (min 4 ns.length)).take (min m ns.length - min 4 ns.length)).length≤59:=by
  rw[List.length_take,List.length_drop]
  omega
 generalize (ns.drop (min 4 ns.length)).take (min m ns.length - min 4 ns.length)=cs at *
 have h4:((4:Nat):Int)=4:=rfl
 rw[h4]at hcut
 obtain⟨R0,hR0,hR1,hR2⟩:=drawn (fe:=Ydy) (r:=[some (.sh (.str "sums")),some (.sh (.int (st:Int))),some (.sh (.int (far:Int)))]) (P:=fun r=>In .s far r∧Srt r∧∀x∈bcs r,st≤x) (fun c=>by
  obtain⟨r,g1,g2,g3,g4⟩:=y3j .s c st far hfar1.1 (by omega)
  refine⟨r,⟨g1,g2,g3⟩,?_⟩
  have hks:kdD .s=.str "sums":=rfl
  rw[hks]at g4
  generalize rlD r=rr at *
  simp[Ydy,g4]) cs
 obtain⟨R,hRl,hRb,hRe⟩:=Yxx (st:=st) (n:=far) (by omega) hR1
 rw[hRe]at hR2
 refine⟨R,hs,st,by omega,by omega,by omega,by rw[hsl];exact Yzy hRb hfar1.2,?_⟩
 rw[Ycd,Yac (by rfl)]
 have hst0:Yw 9 [.str "sums",.scr ns]=[some (.sh (.str "sums")),some (.sh (.scr ns)),none,none,none,none,none,none,none]:=rfl
 have pre:Ygr [some (.sh (.str "sums")),some (.sh (.scr ns)),none,none,none,none,none,none,none]=Ybi [some (.sh (.str "sums")),some (.sh (.scr ns)),some (.sh (.int n)),some (.sh (.int st)),some (.sh (.tup (h1.map hdD))),some (.sh (.int v)),none,none,none]:=by
  generalize h1.map hdD=H1 at *
  simp[Ygr,c0,hn,hmod,c1,he1,c2,hv,-Ybi]
 rw[hst0,pre,e4]
 have hbk:bkS R=.tup [.str "sums",.tup (R.map smD)]:=rfl
 rw[hbk]
 clear hhand e4 pre hch hmm hwm hwa
 generalize [60,60,60,3,6,12,6,12,(6:Int)].map D.int=WL at *
 generalize hs.map hdD=HS at *
 generalize R.map smD=RR at *
 generalize cs.map D.int=CC at *
 simp[hki,hwat,hfar,hm,hcut,capR,hR2]
end Lw
namespace Lw
open PySem L2 M Bk
theorem Yxy{R:List Sm}(hR:R.length≤60){hs:List Bool}(hl:hs.length≤60){st:Nat}(hst:st≤hs.length)(hin:InB R st hs.length){c c':D}(hc:Yn c=some (hs.map hdD))(hc':Yn c'=some (hs.map hdD)) :
 ∃(w:Bool) (pl:List D),Yai [bkS R,c,.int st]=some (outD w (.tup pl))∧Yba [outD w (.tup pl),bkS R,c',.int st]=some (.bl true)∧(w=true→∃W,BadW R (ofH hs st false) W)∧(w=false→∃rows,GoodW R (ofH hs st true) (ofH hs st false) rows):=by
 rcases Yn2 hR hc hl hst hin with⟨W,hW,h⟩ | ⟨rows,hG,h⟩
 ·exact⟨true,_,h,Yl6 true (Yxv _) (Yuk _) ⟨fun _=>Yxw hR hc' hl hst hW,fun z=>(nomatch z)⟩,fun _=>⟨W,hW⟩,fun z=>(nomatch z)⟩
 ·exact⟨false,_,h,Yl6 false (Yuj _) (Yr3 _) ⟨fun z=>(nomatch z),fun _=>Yr4 hc' hl hst hG⟩,fun z=>(nomatch z),fun _=>⟨rows,hG⟩⟩
def kpA(rows:List Srw)(R:List Sm):Prop:=∀q∈R,kp rows q.1 q.2
theorem kpA_rg{rows:List Srw}{R:List Sm}:kpA rows R↔∀p,p < R.length→kp rows (rg R p).1 (rg R p).2:=by
 have hg:∀p (hp:p < R.length),rg R p=R[p]:=fun p hp=>by
  unfold rg
  rw[List.getD_eq_getElem?_getD,qq hp]
  rfl
 constructor
 ·intro h p hp
  rw[hg p hp]
  exact h _ (qy hp)
 ·intro h q hq
  obtain⟨p,hp,rfl⟩:=List.mem_iff_getElem.mp hq
  rw[←hg p hp]
  exact h p hp
theorem Yxz{R1 R2:List Sm}{hs:List Bool}{st:Nat}(h:∀rows,kpA rows R1→kpA rows R2){rows:List Srw}(g:GoodW R1 (ofH hs st true) (ofH hs st false) rows){W:Nat→Bool}(b:BadW R2 (ofH hs st false) W):False:=by
 have hk:=kpA_rg.mp (h rows (kpA_rg.mpr g.kept))
 have:=y0t (R:=R2) (rows:=rows) (ps:=fl 60 W) fun p hp=>hk p (b.1 p (Qc hp).2)
 exact never g.ks (fun r hr y hy=>((g.row r hr).2.2 y hy).2) Yzx this b.2
noncomputable def ruS(R:List Sm)(ps:List Nat):Sm:=(fun x=>decide (oddP R ps x % 2=1),oddO R ps)
noncomputable def Ylo(R:List Sm)(ps:List Nat):List Sm:=(R++[ruS R ps]).reverse
theorem mem_turn{R:List Sm}{ps:List Nat}{q:Sm}:q∈Ylo R ps↔q∈R∨q=ruS R ps:=by
 unfold Ylo
 rw[List.mem_reverse,List.mem_append,Qi]
theorem Yx0{R:List Sm}{ps:List Nat}(hp:∀p∈ps,p < R.length)(rows:List Srw):kpA rows R↔kpA rows (Ylo R ps):=by
 constructor
 ·intro h q hq
  rcases mem_turn.mp hq with hq | rfl
  ·exact h q hq
  ·exact y0t fun p hm=>kpA_rg.mp h p (hp p hm)
 ·exact fun h q hq=>h q (mem_turn.mpr (.inl hq))
theorem y3m{R:List Sm}{ps:List Nat}{st n:Nat}(h:InB R st n):InB (Ylo R ps) st n:=fun q hq x hx hT=>by
 rcases mem_turn.mp hq with hq | rfl
 ·exact h q hq x hx hT
 ·have h1:oddP R ps x % 2=1:=of_decide_eq_true hT
  unfold oddP at h1
  cases e:ps.filter fun p=>decide (x∈fl 60 (rg R p).1)with
  | nil=>rw[e]at h1;exact absurd h1 (by decide)
  | cons p l=>
    have hm:p∈ps.filter fun p=>decide (x∈fl 60 (rg R p).1):=by rw[e];simp
    have h2:=of_decide_eq_true (Qc hm).2
    have h3:=(Qc h2).2
    exact h _ (y63 h3).1 x hx h3
theorem y66(ns:List Int){bk hh:D}{st:Int}(h:Ycd [.str "sums",.scr ns]=some (.lst [bk,hh,.int st])) :
 y3d [some (.sh (.scr ns)),none,none,none,none,none,none,none]=Ynv [some (.sh (.scr ns)),some (.sh bk),some (.sh hh),some (.sh (.int st)),none,none,none,none]:=by
 simp[y3d,h]
theorem y67(a0:Option B){bk hh fo:D}{st:Int}(h:Yai [bk,hh,.int st]=some fo) :
 Ynv [a0,some (.sh bk),some (.sh hh),some (.sh (.int st)),none,none,none,none]=Ynu [a0,some (.sh bk),some (.sh hh),some (.sh (.int st)),some (.sh fo),none,none,none]:=by
 simp[Ynv,h]
theorem y68(a0:Option B){bk hh fo:D}{st:Int}(h:Yba [fo,bk,hh,.int st]=some (.bl true)) :
 Ynu [a0,some (.sh bk),some (.sh hh),some (.sh (.int st)),some (.sh fo),none,none,none]=Ynt [a0,some (.sh bk),some (.sh hh),some (.sh (.int st)),some (.sh fo),none,none,none]:=by
 simp[Ynu,h]
theorem y69(ns:List Int){x3 v:Int}(a1 a2 a3 a4:Option B)(c3:Yax [.scr ns,.int 3]=some (.int x3))(h:Yao [.int x3,.int 2049848353892358983]=some (.int v)) :
 Ynt [some (.sh (.scr ns)),a1,a2,a3,a4,none,none,none]=Yns [some (.sh (.scr ns)),a1,a2,a3,a4,some (.sh (.int v)),none,none]:=by
 simp[Ynt,c3,h]
theorem y7a{R:List Sm}(hR:R.length≤100){ps:List Nat}{v:Int}(a0 a2 a3 a4:Option B)(h:Yd8 [.tup (R.map smD),.int v]=some (totD R ps)) :
 Yns [a0,some (.sh (bkS R)),a2,a3,a4,some (.sh (.int v)),none,none]=Ynr [a0,some (.sh (bkS R)),a2,a3,a4,some (.sh (.int v)),some (.sh (bkS (Ylo R ps))),none]:=by
 have hbi:Yn (bkS R)=some [.str "sums",.tup (R.map smD)]:=rfl
 have htu:bkS (Ylo R ps)=.tup [.str "sums",.tup ((R.map smD++[totD R ps]).reverse)]:=by
  show D.tup [.str "sums",.tup ((Ylo R ps).map smD)]=_
  unfold Ylo
  rw[List.map_reverse,List.map_append]
  rfl
 have hcat:Ywi (.tup (R.map smD)) (.tup [totD R ps])=some (.tup (R.map smD++[totD R ps])):=if_pos (by simp;omega)
 rw[htu]
 generalize totD R ps=TT at *
 generalize R.map smD=RR at *
 generalize bkS R=bk at *
 have hrev:revT (.tup (RR++[TT]))=some (.tup (RR++[TT]).reverse):=rfl
 generalize (RR++[TT]).reverse=RV at *
 simp[Yns,hbi,h,hcat,hrev]
theorem y7b(a0 a1 a4 a5:Option B){tb fo:D}{hs:List Bool}{st:Int}(h:Yai [tb,.lst (hs.map hdD),.int st]=some fo) :
 Ynr [a0,a1,some (.sh (.tup (hs.map hdD))),some (.sh (.int st)),a4,a5,some (.sh tb),none]=Ynq [a0,a1,some (.sh (.tup (hs.map hdD))),some (.sh (.int st)),a4,a5,some (.sh tb),some (.sh fo)]:=by
 have hlf:Ymk [.tup (hs.map hdD)]=some (hs.map hdD):=rfl
 generalize hs.map hdD=HS at *
 simp[Ynr,hlf,h]
theorem y7c(a0 a1 a5:Option B){tb hh p1 p2:D}{st:Int}{w:Bool}(h:Yba [outD w p2,tb,hh,.int st]=some (.bl true)) :
 Ynq [a0,a1,some (.sh hh),some (.sh (.int st)),some (.sh (outD w p1)),a5,some (.sh tb),some (.sh (outD w p2))]=some (.rt (.bl true)):=by
 have hi:∀p:D,Yn (outD w p)=some [.str (if w=true then Str.ofString "storm" else Str.ofString "keeper"),p]:=fun _=>rfl
 have he:eqM false (.str (if w=true then Str.ofString "storm" else Str.ofString "keeper")) (.str (if w=true then Str.ofString "storm" else Str.ofString "keeper"))=some true:=by
  cases w
  ·exact Yhh "keeper" false
  ·exact Yhh "storm" false
 have h1:=hi p1
 have h2:=hi p2
 generalize D.str (if w=true then Str.ofString "storm" else Str.ofString "keeper")=sw at *
 generalize outD w p1=o1 at *
 generalize outD w p2=o2 at *
 simp[Ynq,h,h1,h2,he]
theorem law_true(ns:List Int)(hns:ns.length≤63):Yrs [.scr ns]=some (.bl true):=by
 rw[Yrs,Yac (by rfl)]
 have c3:=Yp5 ns 3
 generalize ns.getD 3 0=x3 at c3
 simp at c3
 obtain⟨R,hs,st,hRl,hl,hst,hin,hdr⟩:=Yqf ns hns
 obtain⟨v,_,hv⟩:=Ynx x3 2049848353892358983
 obtain⟨ps,hps,hsum⟩:=Yul (R:=R) (by omega) v
 obtain⟨w1,p1,o1,g1,s1,k1⟩:=Yxy (R:=R) (by omega) hl hst hin (c:=.tup (hs.map hdD)) (c':=.tup (hs.map hdD)) rfl rfl
 obtain⟨w2,p2,o2,g2,s2,k2⟩:=Yxy (R:=Ylo R ps) (by unfold Ylo;simp;omega) hl hst (y3m hin) (c:=.lst (hs.map hdD)) (c':=.tup (hs.map hdD)) rfl rfl
 have hw:w2=w1:=by
  cases w1 with
  | true=>
    cases w2 with
    | true=>rfl
    | false=>
      obtain⟨W,hW⟩:=s1 rfl
      obtain⟨rows,hG⟩:=k2 rfl
      exact(Yxz (fun rows=>(Yx0 hps rows).mpr) hG hW).elim
  | false=>
    cases w2 with
    | false=>rfl
    | true=>
      obtain⟨W,hW⟩:=s2 rfl
      obtain⟨rows,hG⟩:=k1 rfl
      exact(Yxz (fun rows=>(Yx0 hps rows).mp) hG hW).elim
 subst hw
 have hst0:Yw 8 [D.scr ns]=[some (.sh (.scr ns)),none,none,none,none,none,none,none]:=rfl
 rw[hst0,y66 ns hdr,y67 _ o1,y68 _ g1,y69 ns _ _ _ _ c3 hv,y7a (by omega) _ _ _ _ hsum,y7b _ _ _ _ o2,y7c _ _ _ g2]
 rfl
end Lw
namespace Op
open PySem PySem.W PyProof.Rows PySem.Calls
set_option maxRecDepth 100000
noncomputable abbrev pg:Program:=PySem.Challenge.pw_duskbook_k45_sums_won
noncomputable abbrev en(P:Params)(x:Str)(t:Nat)(v:Value):DictEntry:=⟨PyData.keyHash P x,.str x t,v⟩
noncomputable abbrev fn(name qual:Str)(s:Stmt)(dV kV doc pm:Value)(an:Option Addr)(cdv ct:Value)(g b:Nat):Data:=.func ⟨name,qual,L2.defArgs s,.stmts (L2.defBody s),L2.defScope s,g,[],dV,kV,doc,pm,an,cdv,ct,b⟩
noncomputable abbrev tu(l:List Value):Obj:=⟨.type "tuple",none,.seq ⟨l⟩ 0,#[]⟩
noncomputable abbrev fl:Obj:=⟨.none,none,.fields #[],#[]⟩
noncomputable abbrev oZ(x:Str)(i:Nat):Obj:=⟨.none,none,fn x x (Lw.top i) .none .none .none .none none .none .none 0 0,#[]⟩
noncomputable abbrev oF(x:Str)(i:Nat)(pm:Value)(c:Nat):Obj:=⟨.type "function",none,.func (fnOf x x (L2.defArgs (Lw.top i)) (L2.defBody (Lw.top i)) (L2.defScope (Lw.top i)) .none .none .none pm none (.ref c) .none),#[]⟩
noncomputable abbrev oC(x:Str)(t l n b:Nat)(u v:Value)(c k e:Nat):Obj:=⟨.type "code",none,.fields #[.str x t,.str x (t+1),.str "/claim/cut.py" (t+2),.int (.ofNat l) 0,.int (.ofNat n) 0,.int 0 0,.int 0 0,.int 3 0,.ref b,.bool true,.int (.ofNat k) 0,.ref (b+1),.none,u,v,.ref c,.int (.ofNat e) 0,.int (.ofNat l) 0,.str "/claim/cut.py" (e+1)],#[]⟩
noncomputable abbrev p0:Value:=(.str "duskbook.adding" 187)
noncomputable abbrev p1:Value:=(.str "duskbook.roads" 230)
noncomputable abbrev p2:Value:=(.str "duskbook.blends" 254)
noncomputable abbrev p3:Value:=(.str "duskbook.books" 281)
noncomputable abbrev p4:Value:=(.str "duskbook.parts" 344)
noncomputable abbrev p5:Value:=(.str "duskbook.keeping" 359)
noncomputable abbrev p6:Value:=(.str "duskbook.sumways" 464)
noncomputable abbrev p7:Value:=(.str "duskbook.deriving" 498)
noncomputable abbrev p8:Value:=(.str "duskbook.storming" 541)
noncomputable abbrev p9:Value:=(.str "duskbook.checking" 655)
noncomputable abbrev p10:Value:=(.str "law_duskbook_k45_sums_won" 668)
noncomputable def et0(P:Params):List DictEntry:=[en P "__doc__" 166 .none,en P "__package__" 167 .none,en P "__loader__" 168 (.builtin "__main__.__loader__#opaque"),en P "__spec__" 169 .none,en P "__annotations__" 170 (.ref 6),en P "__builtins__" 171 (.ref 4),en P "__file__" 173 (.str "/claim/cut.py" 172),en P "__cached__" 174 .none,en P "both_added" 196 (.ref 21),en P "added" 206 (.ref 28),en P "pairs_added" 214 (.ref 35),en P "cleared" 223 (.ref 42),en P "reduced" 229 (.ref 47),en P "contrary" 238 (.ref 54),en P "led_to" 244 (.ref 59),en P "is_road" 253 (.ref 66),en P "EXCHANGED_KINDS" 268 (.ref 67),en P "exchanged_rule" 274 (.ref 72),en P "exchanged" 280 (.ref 77),en P "either_holds" 288 (.ref 82),en P "sum_holds" 294 (.ref 87),en P "if_holds" 300 (.ref 92),en P "rule_holds" 309 (.ref 99),en P "broken_rules" 315 (.ref 104),en P "holds" 323 (.ref 111),en P "beacons_in" 329 (.ref 116),en P "is_void" 337 (.ref 123),en P "without" 343 (.ref 128),en P "beacons_with" 351 (.ref 133),en P "is_rising" 358 (.ref 140),en P "rows_by_beacon" 366 (.ref 145),en P "is_plan_row" 374 (.ref 152),en P "come_to" 383 (.ref 159),en P "either_is_kept" 389 (.ref 164),en P "plan_good" 395 (.ref 169),en P "is_sum_row" 401 (.ref 174),en P "replaced" 412 (.ref 181),en P "sums_good" 418 (.ref 186),en P "are_some_of" 424 (.ref 191),en P "ahead_of" 430 (.ref 196)]
noncomputable def et1(P:Params):List DictEntry:=[en P "is_row" 439 (.ref 203),en P "holds_where_lit" 445 (.ref 208),en P "rows_good" 451 (.ref 213),en P "keeper_good" 463 (.ref 220),en P "last_beacon" 472 (.ref 227),en P "storms_places" 478 (.ref 232),en P "sum_rows" 484 (.ref 237),en P "sum_outcome" 497 (.ref 244),en P "is_place" 507 (.ref 251),en P "body_is_known" 513 (.ref 256),en P "is_step" 523 (.ref 263),en P "is_derivation" 534 (.ref 270),en P "derived" 540 (.ref 275),en P "is_broken" 548 (.ref 280),en P "lead_there_and_back" 557 (.ref 287),en P "clash_good" 566 (.ref 294),en P "cross_good" 575 (.ref 301),en P "late_good" 586 (.ref 308),en P "odd_good" 592 (.ref 313),en P "first_ones" 598 (.ref 318),en P "is_first_part" 608 (.ref 325),en P "is_last_part" 620 (.ref 332),en P "lone_good" 632 (.ref 339),en P "either_paper_good" 642 (.ref 346),en P "storm_good" 654 (.ref 353),en P "good" 667 (.ref 360),en P "_law_cell" 677 (.ref 367),en P "_law_mixed" 685 (.ref 374),en P "_law_hands" 691 (.ref 379),en P "_law_own" 697 (.ref 384),en P "_law_rule" 703 (.ref 389),en P "_law_plain" 709 (.ref 394),en P "_law_truths" 715 (.ref 399),en P "_law_good" 725 (.ref 406),en P "_law_drawn" 731 (.ref 411),en P "_law_sum" 737 (.ref 416),en P "law" 751 (.ref 423)]
noncomputable def et(P:Params):List DictEntry:=et0 P++et1 P
noncomputable abbrev ns(P:Params)(x:DictEntry)(n k:Nat):Obj:=⟨.type "dict",none,.dict ⟨x::(et P).take n⟩ k,#[]⟩
noncomputable def ff0:List Value:=[(.int (2) 0),(.int (0) 0),(.ref 20),(.int (4) 0),(.int (0) 0),(.ref 27),(.int (9) 0),(.int (0) 0),(.ref 34),(.int (11) 0),(.int (0) 0),(.ref 41),(.int (16) 0),(.int (0) 0),(.ref 46),(.int (28) 0),(.int (0) 0),(.ref 53),(.int (30) 0),(.int (0) 0),(.ref 58),(.int (38) 0),(.int (0) 0),(.ref 65),(.int (45) 0),(.int (0) 0),(.ref 71),(.int (51) 0),(.int (0) 0),(.ref 76),(.int (55) 0),(.int (0) 0),(.ref 81),(.int (57) 0),(.int (0) 0),(.ref 86),(.int (60) 0),(.int (0) 0),(.ref 91),(.int (64) 0)]
noncomputable def ff1:List Value:=[(.int (0) 0),(.ref 98),(.int (70) 0),(.int (0) 0),(.ref 103),(.int (72) 0),(.int (0) 0),(.ref 110),(.int (74) 0),(.int (0) 0),(.ref 115),(.int (80) 0),(.int (0) 0),(.ref 122),(.int (82) 0),(.int (0) 0),(.ref 127),(.int (85) 0),(.int (0) 0),(.ref 132),(.int (87) 0),(.int (0) 0),(.ref 139),(.int (90) 0),(.int (0) 0),(.ref 144),(.int (92) 0),(.int (0) 0),(.ref 151),(.int (94) 0),(.int (0) 0),(.ref 158),(.int (99) 0),(.int (0) 0),(.ref 163),(.int (102) 0),(.int (0) 0),(.ref 168),(.int (107) 0),(.int (0) 0)]
noncomputable def ff2:List Value:=[(.ref 173),(.int (109) 0),(.int (0) 0),(.ref 180),(.int (115) 0),(.int (0) 0),(.ref 185),(.int (120) 0),(.int (0) 0),(.ref 190),(.int (122) 0),(.int (0) 0),(.ref 195),(.int (124) 0),(.int (0) 0),(.ref 202),(.int (126) 0),(.int (0) 0),(.ref 207),(.int (128) 0),(.int (0) 0),(.ref 212),(.int (135) 0),(.int (0) 0),(.ref 219),(.int (148) 0),(.int (0) 0),(.ref 226),(.int (150) 0),(.int (0) 0),(.ref 231),(.int (155) 0),(.int (0) 0),(.ref 236),(.int (163) 0),(.int (0) 0),(.ref 243),(.int (172) 0),(.int (0) 0),(.ref 250)]
noncomputable def ff3:List Value:=[(.int (174) 0),(.int (0) 0),(.ref 255),(.int (176) 0),(.int (0) 0),(.ref 262),(.int (181) 0),(.int (0) 0),(.ref 269),(.int (188) 0),(.int (0) 0),(.ref 274),(.int (192) 0),(.int (0) 0),(.ref 279),(.int (194) 0),(.int (0) 0),(.ref 286),(.int (198) 0),(.int (0) 0),(.ref 293),(.int (200) 0),(.int (0) 0),(.ref 300),(.int (204) 0),(.int (0) 0),(.ref 307),(.int (208) 0),(.int (0) 0),(.ref 312),(.int (215) 0),(.int (0) 0),(.ref 317),(.int (220) 0),(.int (0) 0),(.ref 324),(.int (224) 0),(.int (0) 0),(.ref 331),(.int (230) 0)]
noncomputable def ff4:List Value:=[(.int (0) 0),(.ref 338),(.int (236) 0),(.int (0) 0),(.ref 345),(.int (244) 0),(.int (0) 0),(.ref 352),(.int (259) 0),(.int (0) 0),(.ref 359),(.int (264) 0),(.int (0) 0),(.ref 366),(.int (268) 0),(.int (0) 0),(.ref 373),(.int (270) 0),(.int (0) 0),(.ref 378),(.int (273) 0),(.int (0) 0),(.ref 383),(.int (275) 0),(.int (0) 0),(.ref 388),(.int (295) 0),(.int (0) 0),(.ref 393),(.int (299) 0),(.int (0) 0),(.ref 398),(.int (305) 0),(.int (0) 0),(.ref 405),(.int (311) 0),(.int (0) 0),(.ref 410),(.int (322) 0),(.int (0) 0)]
noncomputable def ff5:List Value:=[(.ref 415),(.int (330) 0),(.int (0) 0),(.ref 422)]
noncomputable def ff:List Value:=ff0++ff1++ff2++ff3++ff4++ff5
noncomputable abbrev ft(n:Nat):Obj:=⟨.none,none,.fields ⟨ff.take n⟩,#[]⟩
noncomputable abbrev dF(x:Str)(i l n t b:Nat)(pm:Value)(k:Nat):List Obj:=[tu [],fl,oZ x i,oC x t l n b .none .none (b+2) k (t+3),oF x i pm (b+3)]
noncomputable abbrev dG(x:Str)(i l n t b:Nat)(pm:Value)(k:Nat)(u:List Value):List Obj:=[tu [],fl,tu u,tu [],oZ x i,oC x t l n b (.ref (b+2)) (.ref (b+3)) (b+4) k (t+3+u.length),oF x i pm (b+5)]
noncomputable def al0(P:Params):List Obj:=[boot_o_0 P,boot_o_1 P,boot_o_2 P,ns P (en P "__name__" 165 (.str "law_duskbook_k45_sums_won" 668)) 77 78,boot_o_4 P,boot_o_5 P,boot_o_6 P,boot_o_7 P,boot_o_8 P,boot_o_9 P,boot_o_10 P,tu [],ft 204,⟨(.type "code"),none,(.fields #[(.str "<module>" 182),(.str "<module>" 183),(.str "/claim/cut.py" 184),(.int (1) 0),(.int (0) 0),(.int (0) 0),(.int (0) 0),(.int (0) 0),(.ref 11),(.bool false),(.int (181) 0),(.ref 12),.none,.none,.none,.none,(.int (185) 0),(.int (1) 0),(.str "/claim/cut.py" 186)]),#[]⟩,⟨(.type "frame"),none,.plain,#[(some (.ref 13)),(some (.ref 3)),(some (.ref 3)),none,(some (.str "__main__" 164)),none,(some (.ref 0))]⟩]++(dG "both_added" 1 2 2 189 15 p0 181 [(.str "rule" 192),(.str "other" 193)]++(dG "added" 2 4 2 197 22 p0 181 [(.str "book" 200),(.str "places" 201),(.str "whole" 202),(.str "place" 203)]++(dG "pairs_added" 3 9 2 207 29 p0 181 [(.str "pair" 210),(.str "other" 211)]++(dG "cleared" 4 11 2 215 36 p0 181 [(.str "pair" 218),(.str "by_last" 219),(.str "left" 220)]++(dF "reduced" 5 16 1 224 43 p0 181++(dG "contrary" 7 28 1 232 48 p1 181 [(.str "saying" 235)]++(dF "led_to" 8 30 2 239 55 p1 181++(dG "is_road" 9 38 2 245 60 p1 181 [(.str "book" 248),(.str "road" 249),(.str "place" 250)]++([⟨(.type "dict"),none,(.dict #[en P "eithers" 256 (.str "eithers" 257),en P "sums" 258 (.str "sums" 259),en P "ifs" 260 (.str "nots" 261),en P "nots" 262 (.str "ifs" 263)] 4),#[]⟩]++(dF "exchanged_rule" 12 45 2 269 68 p2 181++(dF "exchanged" 13 51 1 275 73 p2 181++(dF "either_holds" 15 55 2 283 78 p3 181++(dF "sum_holds" 16 57 2 289 83 p3 181++(dF "if_holds" 17 60 3 295 88 p3 181++(dG "rule_holds" 18 64 3 301 93 p3 181 [(.str "kind" 304),(.str "rule" 305),(.str "evening" 306)]++(dF "broken_rules" 19 70 2 310 100 p3 181++(dG "holds" 20 72 2 316 105 p3 181 [(.str "book" 319),(.str "evening" 320)]++(dF "beacons_in" 21 74 2 324 112 p3 181++(dG "is_void" 22 80 2 330 117 p3 181 [(.str "kind" 333),(.str "rule" 334)]++(dF "without" 23 82 2 338 124 p3 181++(dF "beacons_with" 25 85 3 346 129 p4 181++(dG "is_rising" 26 87 1 352 134 p4 181 [(.str "numbers" 355)]++(dF "rows_by_beacon" 28 90 1 361 141 p5 181++(dG "is_plan_row" 29 92 2 367 146 p5 181 [(.str "row" 370),(.str "storms" 371)]))))))))))))))))))))))))
noncomputable def al1(P:Params):List Obj:=dG "come_to" 30 94 2 375 153 p5 181 [(.str "saying" 378),(.str "plan" 379),(.str "row" 380)]++(dF "either_is_kept" 31 99 2 384 160 p5 181++(dF "plan_good" 32 102 4 390 165 p5 181++(dF "is_sum_row" 33 107 2 396 170 p5 181++(dG "replaced" 34 109 2 402 175 p5 181 [(.str "rule" 405),(.str "sums" 406),(.str "whole" 407),(.str "beacon" 408),(.str "row" 409)]++(dF "sums_good" 35 115 4 413 182 p5 181++(dF "are_some_of" 36 120 2 419 187 p5 181++(dF "ahead_of" 37 122 2 425 192 p5 181++(dG "is_row" 38 124 3 431 197 p5 181 [(.str "row" 434),(.str "first" 435),(.str "keepers" 436)]++(dF "holds_where_lit" 39 126 3 440 204 p5 181++(dF "rows_good" 40 128 6 446 209 p5 181++(dG "keeper_good" 41 135 4 452 214 p5 181 [(.str "paper" 455),(.str "book" 456),(.str "hands" 457),(.str "start" 458),(.str "keepers" 459),(.str "storms" 460)]++(dG "last_beacon" 43 148 1 466 221 p6 181 [(.str "pair" 469)]++(dF "storms_places" 44 150 3 473 228 p6 181++(dF "sum_rows" 45 155 2 479 233 p6 181++(dG "sum_outcome" 46 163 3 485 238 p6 181 [(.str "book" 488),(.str "hands" 489),(.str "start" 490),(.str "keepers" 491),(.str "storms" 492),(.str "answer" 493),(.str "places" 494)]++(dG "is_place" 48 172 2 500 245 p7 181 [(.str "book" 503),(.str "place" 504)]++(dF "body_is_known" 49 174 2 508 252 p7 181++(dG "is_step" 50 176 3 514 257 p7 181 [(.str "book" 517),(.str "known" 518),(.str "place" 519),(.str "rule" 520)]++(dG "is_derivation" 51 181 3 524 264 p7 181 [(.str "book" 527),(.str "facts" 528),(.str "places" 529),(.str "known" 530),(.str "place" 531)]++(dF "derived" 52 188 3 535 271 p7 181++(dF "is_broken" 54 192 1 543 276 p8 181++(dG "lead_there_and_back" 55 194 3 549 281 p8 181 [(.str "book" 552),(.str "road" 553),(.str "other" 554)]++(dG "clash_good" 56 198 3 558 288 p8 181 [(.str "road" 561),(.str "other" 562),(.str "book" 563)]++(dG "cross_good" 57 200 3 567 295 p8 181 [(.str "road" 570),(.str "book" 571),(.str "storms" 572)]))))))))))))))))))))))))
noncomputable def al2(P:Params):List Obj:=dG "late_good" 58 204 5 576 302 p8 181 [(.str "road" 579),(.str "other" 580),(.str "book" 581),(.str "keepers" 582),(.str "storms" 583)]++(dF "odd_good" 59 208 3 587 309 p8 181++(dF "first_ones" 60 215 4 593 314 p8 181++(dG "is_first_part" 61 220 4 599 319 p8 181 [(.str "beacon" 602),(.str "places" 603),(.str "book" 604),(.str "storms" 605)]++(dG "is_last_part" 62 224 4 609 326 p8 181 [(.str "beacon" 612),(.str "places" 613),(.str "book" 614),(.str "facts" 615),(.str "rule" 616),(.str "known" 617)]++(dG "lone_good" 63 230 4 621 333 p8 181 [(.str "paper" 624),(.str "book" 625),(.str "keepers" 626),(.str "storms" 627),(.str "beacon" 628),(.str "facts" 629)]++(dG "either_paper_good" 64 236 4 633 340 p8 181 [(.str "paper" 636),(.str "book" 637),(.str "keepers" 638),(.str "storms" 639)]++(dG "storm_good" 65 244 4 643 347 p8 181 [(.str "paper" 646),(.str "book" 647),(.str "hands" 648),(.str "start" 649),(.str "keepers" 650),(.str "storms" 651)]++(dG "good" 67 259 5 657 354 p9 181 [(.str "paper" 660),(.str "book" 661),(.str "hands" 662),(.str "start" 663),(.str "hand" 664)]++(dG "_law_cell" 69 264 2 670 361 p10 181 [(.str "script" 673),(.str "k" 674)]++(dG "_law_mixed" 70 268 2 678 368 p10 181 [(.str "cell" 681),(.str "by" 682)]++(dF "_law_hands" 71 270 2 686 375 p10 181++(dF "_law_own" 72 273 3 692 380 p10 181++(dF "_law_rule" 73 275 4 698 385 p10 181++(dF "_law_plain" 74 295 1 704 390 p10 181++(dF "_law_truths" 75 299 1 710 395 p10 181++(dG "_law_good" 76 305 4 716 400 p10 181 [(.str "found" 719),(.str "book" 720),(.str "hands" 721),(.str "start" 722)]++(dF "_law_drawn" 77 311 2 726 407 p10 181++(dF "_law_sum" 78 322 2 732 412 p10 181++(dG "law" 79 330 1 738 417 p10 181 [(.str "script" 741),(.str "book" 742),(.str "hands" 743),(.str "start" 744),(.str "found" 745),(.str "which" 746),(.str "turned" 747),(.str "again" 748)])))))))))))))))))))
noncomputable def al(P:Params):List Obj:=al0 P++al1 P++al2 P
noncomputable def upd(l:List (Nat × Obj))(xs:List Obj):List Obj:=l.foldl (fun xs p=>xs.set p.1 p.2) xs
noncomputable def ev:List Obj→List Obj
 | []=>[]
 | [x]=>[x]
 | x::_::r=>x::ev r
noncomputable def bt:Nat→List Obj→BT
 | 0,_=>.nil
 | _+1,[]=>.nil
 | n+1,x::xs=>.node x (bt n (ev xs)) (bt n (ev xs.tail))
noncomputable abbrev bd:List Stmt:=behindTheImports pg
noncomputable abbrev sl(i n:Nat):List Stmt:=(bd.drop i).take n
noncomputable abbrev env:Env:={ scope:=pg.main.scope,locals:=mainNs,globals:=mainNs,cells:=[],code:=(.ref 13),frame:=some 14 }
noncomputable abbrev cE:Code:=.body bd env
noncomputable abbrev B:List Frame:=[topFrame ⟨0,0,0,0⟩]
noncomputable abbrev ss(n:Nat)(l:Params→List (Nat × Obj))(t:Nat)(w:World)(os:OsState):SharedT:=⟨bt 12 (upd (l w.params) ((al w.params).take n)),n,{},.mk [],boot_drawn,t,os⟩
noncomputable def h0(P:Params):Heap:=⟨⟨upd [(3,boot_o_3 P),(12,fl)] ((al P).take 15)⟩,{}⟩
noncomputable abbrev s0(w:World)(os:OsState):Shared:=⟨h0 w.params,.mk [],boot_drawn,187,os⟩
noncomputable abbrev s1:World→OsState→SharedT:=ss 15 (fun P=>[(3,boot_o_3 P),(12,fl)]) 187
noncomputable abbrev s2:World→OsState→SharedT:=ss 78 (fun P=>[(3,ns P (en P "__name__" 165 (.str "duskbook.books" 281)) 19 20),(12,ft 30)]) 283
noncomputable abbrev s3:World→OsState→SharedT:=ss 153 (fun P=>[(3,ns P (en P "__name__" 165 (.str "duskbook.keeping" 359)) 32 33),(12,ft 69)]) 375
noncomputable abbrev s4:World→OsState→SharedT:=ss 228 (fun P=>[(3,ns P (en P "__name__" 165 (.str "duskbook.sumways" 464)) 45 46),(12,ft 108)]) 473
noncomputable abbrev s5:World→OsState→SharedT:=ss 302 (fun P=>[(3,ns P (en P "__name__" 165 (.str "duskbook.storming" 541)) 57 58),(12,ft 144)]) 576
noncomputable abbrev s6:World→OsState→SharedT:=ss 380 (fun P=>[(3,ns P (en P "__name__" 165 (.str "law_duskbook_k45_sums_won" 668)) 69 70),(12,ft 180)]) 692
noncomputable abbrev s7:World→OsState→SharedT:=ss 424 (fun P=>[]) 752
noncomputable def h8(P:Params):Heap:=⟨⟨upd [] ((al P).take 424)⟩,{}⟩
noncomputable abbrev s8(w:World)(os:OsState):Shared:=⟨h8 w.params,.mk [],boot_drawn,752,os⟩
noncomputable abbrev sz(w:World)(os:OsState):Shared:=⟨boot_heap w.params,.mk [],boot_drawn,boot_toks,os⟩
theorem e0:∀w:World,(fun os=>topGo treeTable pg w 11 (some (.ref 6)) 12 (sz w os) (topStub pg))=fun os=>some (s0 w os,⟨denote treeTable cE,cE,⟨0,0,0,0⟩,B⟩):=by
 rw[W.Fast.te15667345088766844465,W.Fast.te14364793385576792824,W.Fast.te11892475500146522536];intro w;kernel_rfl
theorem e1:∀w:World,(fun os=>segRun treeTable pg w 11 (some (.ref 6)) 1 1 (s0 w os) (blockOf bd env cE ⟨0,0,0,0⟩ B))=fun os=>some (.next,(s1 w os).abs,cE,⟨0,0,0,0⟩):=by
 rw[W.Fast.te14374325043358763698,W.Fast.te14364793385576792824];intro w;kernel_rfl
theorem e2:∀w:World,(fun os=>segRunT treeTable pg w 11 (some (.ref 6)) 1 394 (s1 w os) (piecesOf (sl 0 15) env cE ⟨0,0,0,0⟩ B))=fun os=>some (.next,s2 w os,cE,⟨54,0,54,8⟩):=by
 rw[W.Fast.te10110043849684766642,W.Fast.te14364793385576792824];refine byRow2 "special-get-raises" ?_ ?_<;>(intro w;kernel_rfl)
theorem e3:∀w:World,(fun os=>segRunT treeTable pg w 11 (some (.ref 6)) 1 377 (s2 w os) (piecesOf (sl 15 15) env cE ⟨54,0,54,8⟩ B))=fun os=>some (.next,s3 w os,cE,⟨92,0,93,67⟩):=by
 rw[W.Fast.te10110043849684766642,W.Fast.te14364793385576792824];intro w;kernel_rfl
theorem e4:∀w:World,(fun os=>segRunT treeTable pg w 11 (some (.ref 6)) 1 376 (s3 w os) (piecesOf (sl 30 14) env cE ⟨92,0,93,67⟩ B))=fun os=>some (.next,s4 w os,cE,⟨148,0,149,25⟩):=by
 rw[W.Fast.te10110043849684766642,W.Fast.te14364793385576792824];intro w;kernel_rfl
theorem e5:∀w:World,(fun os=>segRunT treeTable pg w 11 (some (.ref 6)) 1 372 (s4 w os) (piecesOf (sl 44 14) env cE ⟨148,0,149,25⟩ B))=fun os=>some (.next,s5 w os,cE,⟨200,0,203,57⟩):=by
 rw[W.Fast.te10110043849684766642,W.Fast.te14364793385576792824];intro w;kernel_rfl
theorem e6:∀w:World,(fun os=>segRunT treeTable pg w 11 (some (.ref 6)) 1 389 (s5 w os) (piecesOf (sl 58 14) env cE ⟨200,0,203,57⟩ B))=fun os=>some (.next,s6 w os,cE,⟨270,0,272,77⟩):=by
 rw[W.Fast.te10110043849684766642,W.Fast.te14364793385576792824];intro w;kernel_rfl
theorem e7:∀w:World,(fun os=>segRunT treeTable pg w 11 (some (.ref 6)) 1 225 (s6 w os) (piecesOf (sl 72 8) env cE ⟨270,0,272,77⟩ B))=fun os=>some (.next,s7 w os,cE,⟨330,0,338,74⟩):=by
 rw[W.Fast.te10110043849684766642,W.Fast.te14364793385576792824];intro w;kernel_rfl
theorem e8:∀w:World,(fun os=>topRun treeTable pg w 11 (some (.ref 6)) 2 (s7 w os).abs ⟨doneF .next,cE,⟨330,0,338,74⟩,B⟩)=fun os=>some (s8 w os):=by
 rw[W.Fast.te14082659384304107361,W.Fast.te14364793385576792824];intro w;kernel_rfl
noncomputable abbrev m8:Nat:=2
noncomputable abbrev t8:List Stmt:=[]
noncomputable abbrev R(w:World)(os:OsState)(m:Nat)(s:Shared)(t:List Stmt)(p:Pos):Prop:=topRun treeTable pg w 11 (some (.ref 6)) m s (restOf t env cE p B)=some (s8 w os)
theorem r8(w:World)(os:OsState):R w os m8 (s7 w os).abs t8 ⟨330,0,338,74⟩:=congrFun (e8 w) os
noncomputable abbrev m7:Nat:=225+m8
noncomputable abbrev t7:List Stmt:=sl 72 8++t8
theorem r7(w:World)(os:OsState):R w os m7 (s6 w os).abs t7 ⟨270,0,272,77⟩:=piece_app (segRun_of (congrFun (e7 w) os)) (r8 w os)
noncomputable abbrev m6:Nat:=389+m7
noncomputable abbrev t6:List Stmt:=sl 58 14++t7
theorem r6(w:World)(os:OsState):R w os m6 (s5 w os).abs t6 ⟨200,0,203,57⟩:=piece_app (segRun_of (congrFun (e6 w) os)) (r7 w os)
noncomputable abbrev m5:Nat:=372+m6
noncomputable abbrev t5:List Stmt:=sl 44 14++t6
theorem r5(w:World)(os:OsState):R w os m5 (s4 w os).abs t5 ⟨148,0,149,25⟩:=piece_app (segRun_of (congrFun (e5 w) os)) (r6 w os)
noncomputable abbrev m4:Nat:=376+m5
noncomputable abbrev t4:List Stmt:=sl 30 14++t5
theorem r4(w:World)(os:OsState):R w os m4 (s3 w os).abs t4 ⟨92,0,93,67⟩:=piece_app (segRun_of (congrFun (e4 w) os)) (r5 w os)
noncomputable abbrev m3:Nat:=377+m4
noncomputable abbrev t3:List Stmt:=sl 15 15++t4
theorem r3(w:World)(os:OsState):R w os m3 (s2 w os).abs t3 ⟨54,0,54,8⟩:=piece_app (segRun_of (congrFun (e3 w) os)) (r4 w os)
noncomputable abbrev m2:Nat:=394+m3
noncomputable abbrev t2:List Stmt:=sl 0 15++t3
theorem r2(w:World)(os:OsState):R w os m2 (s1 w os).abs t2 ⟨0,0,0,0⟩:=piece_app (segRun_of (congrFun (e2 w) os)) (r3 w os)
theorem tb:bd=t2:=by kernel_rfl
theorem run(w:World)(os:OsState):topRun treeTable pg w 11 (some (.ref 6)) (12+(1+m2)) (sz w os) (topStub pg)=some (s8 w os):=by
 have r:=r2 w os
 unfold R at r
 rw[←congrArg (fun x=>restOf x env cE ⟨0,0,0,0⟩ B) tb]at r
 exact go_top (congrFun (e0 w) os) (piece_block (congrFun (e1 w) os) r)
theorem op:∀w:World,(fencedOpening treeTable pg w 4380).map (fun s=>(s.heap,s.gens,s.drawn,s.toks))=some (boot_heap w.params,Array.mk [],boot_drawn,boot_toks):=
 boot_open (by kernel_rfl) (by decide) (fun s=>by kernel_rfl)
theorem size:∀w:World,((boot_heap w.params).isNs mainGlobals&&(Array.mk []:Array GenState).size==0,(boot_heap w.params).objs.size,(boot_heap w.params).nsMap mainGlobals "__annotations__")=(true,11,(some (.ref 6))):=by
 rw[W.Fast.te8920871248978507458];intro w;kernel_rfl
noncomputable def K(P:Params):Frag:=(nat_lit 3,ns P (en P "__name__" 165 (.str "law_duskbook_k45_sums_won" 668)) 77 78)::(nat_lit 20,oC "both_added" 189 2 2 15 (.ref 17) (.ref 18) 19 181 194)::(nat_lit 21,oF "both_added" 1 p0 20)::(nat_lit 27,oC "added" 197 4 2 22 (.ref 24) (.ref 25) 26 181 204)::(nat_lit 28,oF "added" 2 p0 27)::(nat_lit 34,oC "pairs_added" 207 9 2 29 (.ref 31) (.ref 32) 33 181 212)::(nat_lit 35,oF "pairs_added" 3 p0 34)::(nat_lit 41,oC "cleared" 215 11 2 36 (.ref 38) (.ref 39) 40 181 221)::(nat_lit 42,oF "cleared" 4 p0 41)::(nat_lit 46,oC "reduced" 224 16 1 43 .none .none 45 181 227)::(nat_lit 47,oF "reduced" 5 p0 46)::(nat_lit 81,oC "either_holds" 283 55 2 78 .none .none 80 181 286)::(nat_lit 82,oF "either_holds" 15 p3 81)::(nat_lit 86,oC "sum_holds" 289 57 2 83 .none .none 85 181 292)::(nat_lit 87,oF "sum_holds" 16 p3 86)::(nat_lit 91,oC "if_holds" 295 60 3 88 .none .none 90 181 298)::(nat_lit 92,oF "if_holds" 17 p3 91)::(nat_lit 98,oC "rule_holds" 301 64 3 93 (.ref 95) (.ref 96) 97 181 307)::(nat_lit 99,oF "rule_holds" 18 p3 98)::(nat_lit 115,oC "beacons_in" 324 74 2 112 .none .none 114 181 327)::(nat_lit 116,oF "beacons_in" 21 p3 115)::(nat_lit 122,oC "is_void" 330 80 2 117 (.ref 119) (.ref 120) 121 181 335)::(nat_lit 123,oF "is_void" 22 p3 122)::(nat_lit 132,oC "beacons_with" 346 85 3 129 .none .none 131 181 349)::(nat_lit 133,oF "beacons_with" 25 p4 132)::(nat_lit 139,oC "is_rising" 352 87 1 134 (.ref 136) (.ref 137) 138 181 356)::(nat_lit 140,oF "is_rising" 26 p4 139)::(nat_lit 144,oC "rows_by_beacon" 361 90 1 141 .none .none 143 181 364)::(nat_lit 145,oF "rows_by_beacon" 28 p5 144)::(nat_lit 173,oC "is_sum_row" 396 107 2 170 .none .none 172 181 399)::(nat_lit 174,oF "is_sum_row" 33 p5 173)::(nat_lit 180,oC "replaced" 402 109 2 175 (.ref 177) (.ref 178) 179 181 410)::(nat_lit 181,oF "replaced" 34 p5 180)::(nat_lit 185,oC "sums_good" 413 115 4 182 .none .none 184 181 416)::(nat_lit 186,oF "sums_good" 35 p5 185)::(nat_lit 219,oC "keeper_good" 452 135 4 214 (.ref 216) (.ref 217) 218 181 461)::(nat_lit 220,oF "keeper_good" 41 p5 219)::(nat_lit 226,oC "last_beacon" 466 148 1 221 (.ref 223) (.ref 224) 225 181 470)::(nat_lit 227,oF "last_beacon" 43 p6 226)::(nat_lit 231,oC "storms_places" 473 150 3 228 .none .none 230 181 476)::(nat_lit 232,oF "storms_places" 44 p6 231)::(nat_lit 236,oC "sum_rows" 479 155 2 233 .none .none 235 181 482)::(nat_lit 237,oF "sum_rows" 45 p6 236)::(nat_lit 243,oC "sum_outcome" 485 163 3 238 (.ref 240) (.ref 241) 242 181 495)::(nat_lit 244,oF "sum_outcome" 46 p6 243)::(nat_lit 250,oC "is_place" 500 172 2 245 (.ref 247) (.ref 248) 249 181 505)::(nat_lit 251,oF "is_place" 48 p7 250)::(nat_lit 312,oC "odd_good" 587 208 3 309 .none .none 311 181 590)::(nat_lit 313,oF "odd_good" 59 p8 312)::(nat_lit 352,oC "storm_good" 643 244 4 347 (.ref 349) (.ref 350) 351 181 652)::(nat_lit 353,oF "storm_good" 65 p8 352)::(nat_lit 359,oC "good" 657 259 5 354 (.ref 356) (.ref 357) 358 181 665)::(nat_lit 360,oF "good" 67 p9 359)::(nat_lit 366,oC "_law_cell" 670 264 2 361 (.ref 363) (.ref 364) 365 181 675)::(nat_lit 367,oF "_law_cell" 69 p10 366)::(nat_lit 373,oC "_law_mixed" 678 268 2 368 (.ref 370) (.ref 371) 372 181 683)::(nat_lit 374,oF "_law_mixed" 70 p10 373)::(nat_lit 378,oC "_law_hands" 686 270 2 375 .none .none 377 181 689)::(nat_lit 379,oF "_law_hands" 71 p10 378)::(nat_lit 388,oC "_law_rule" 698 275 4 385 .none .none 387 181 701)::(nat_lit 389,oF "_law_rule" 73 p10 388)::(nat_lit 393,oC "_law_plain" 704 295 1 390 .none .none 392 181 707)::(nat_lit 394,oF "_law_plain" 74 p10 393)::(nat_lit 398,oC "_law_truths" 710 299 1 395 .none .none 397 181 713)::(nat_lit 399,oF "_law_truths" 75 p10 398)::(nat_lit 405,oC "_law_good" 716 305 4 400 (.ref 402) (.ref 403) 404 181 723)::(nat_lit 406,oF "_law_good" 76 p10 405)::(nat_lit 410,oC "_law_drawn" 726 311 2 407 .none .none 409 181 729)::(nat_lit 411,oF "_law_drawn" 77 p10 410)::(nat_lit 415,oC "_law_sum" 732 322 2 412 .none .none 414 181 735)::(nat_lit 416,oF "_law_sum" 78 p10 415)::(nat_lit 422,oC "law" 738 330 1 417 (.ref 419) (.ref 420) 421 181 749)::(nat_lit 423,oF "law" 79 p10 422)::[]
noncomputable def hk:Hook:=kHook K (3::20::21::27::28::34::35::41::42::46::47::81::82::86::87::91::92::98::99::115::116::122::123::132::133::139::140::144::145::173::174::180::181::185::186::219::220::226::227::231::232::236::237::243::244::250::251::312::313::352::353::359::360::366::367::373::374::378::379::388::389::393::394::398::399::405::406::410::411::415::416::422::423::[]) (fun _=>by kernel_rfl)
noncomputable def Q:Program:={ pg with main:={ pg.main with body:=[Lw.top 79] } }
noncomputable def ls:List Str:=(["both_added","added","pairs_added","cleared","reduced","contrary","led_to","is_road","EXCHANGED_KINDS","exchanged_rule","exchanged","either_holds","sum_holds","if_holds","rule_holds","broken_rules","holds","beacons_in","is_void","without","beacons_with","is_rising","rows_by_beacon","is_plan_row","come_to","either_is_kept","plan_good","is_sum_row","replaced","sums_good","are_some_of","ahead_of","is_row","holds_where_lit","rows_good","keeper_good","last_beacon","storms_places","sum_rows","sum_outcome","is_place","body_is_known","is_step","is_derivation","derived","is_broken","lead_there_and_back","clash_good","cross_good","late_good"]++["odd_good","first_ones","is_first_part","is_last_part","lone_good","either_paper_good","storm_good","good","_law_cell","_law_mixed","_law_hands","_law_own","_law_rule","_law_plain","_law_truths","_law_good","_law_drawn","_law_sum"]).map Str.ofString
noncomputable abbrev Xt(s:Shared):Bool:=xlAt Q [] s&&recOk (RowW.records (OpenRow.toRowW PySem.Challenge.rw_duskbook_k45_sums_won.row)) s
theorem y8q:∀w:World,(fun os=>((staticsOk (importedModules pg.main.body) (boot_heap w.params) (h8 w.params)&&namesBound pg (h8 w.params)&&gensDone (s8 w os)&&laidKept (boot_heap w.params) (h8 w.params)),openSeen Q ls (importedModules pg.main.body) Xt true (s8 w os),Hook.obs hk (s8 w os)))=fun _=>(true,openGood Q ls,Hook.val hk w):=by
 rw[W.Fast.te5923862056798008813,W.Fast.te4187177175401517315];intro w;kernel_rfl
theorem left:LeftO pg Q ls Xt (Hook.obs hk) (Hook.val hk) 4380:=LeftO.of_pieces (H₁:=h8) (M:=12+(1+m2)) op size run (by decide) y8q
end Op
open PySem PySem.W PyProof.Rows
set_option maxRecDepth 100000 in
theorem PySem.Challenge.cw_duskbook_k45_sums_won_holds : PySem.Challenge.rw_duskbook_k45_sums_won.Holds := by
 w_on;o_law
 refine holds_open (q:=Op.Q) (loose:=Op.ls) (Xt:=Op.Xt) (XP:=XL Op.Q []) (Yf:=Hook.obs Op.hk) (Ya:=Hook.val Op.hk) (YP:=InK Op.K) (N:=4380) Op.left (Hook.of Op.hk) (Hook.keeps Op.hk) (fun s e=>xl_of s (Bool.and_eq_true_iff.mp e).1) XL.keeps (by rfl) (by rfl) (by rfl) (fun s e=>recFacts_of (Bool.and_eq_true_iff.mp e).2) (by rfl) (by assumption) (by decide +kernel) ⟨rfl,rfl,rfl,rfl,rfl,by decide +kernel⟩ ?hw ?hc
 (case hw=>w_witness2)
 k_fill
 refine Lw.walk Lw.law_true (l:=PySem.Challenge.rw_duskbook_k45_sums_won) rfl rfl (K:=Op.K) (fun w h Y=>Y) ?F
 case F=>
  intro w mg fa h KX G hmg
  refine' Lw.all_mk KX G hmg ?_ ?_ ?_ ?_ ?_ ?_ ?_ ?_ ?_ ?_ ?_ ?_ ?_ ?_ ?_ ?_ ?_ ?_ ?_ ?_ ?_ ?_ ?_ ?_ ?_ ?_ ?_ ?_ ?_ ?_ ?_ ?_ ?_ ?_ ?_ ?_ ?_ ?_ ?_ ?_ ?_ ?_ ?_ ?_ ?_ ?_ ?_ ?_ ?_ ?_ ?_ ?_ ?_ ?_ ?_ ?_ ?_ ?_ ?_ ?_ ?_ ?_ ?_ ?_ ?_ ?_ ?_ ?_ ?_ ?_ ?_ ?_ ?_ ?_ ?_ ?_ ?_ ?_ ?_ ?_ ?_ ?_ ?_ ?_ ?_ ?_ ?_ ?_ ?_ ?_
  all_goals (try (first | k_is | (refine' L2.fun_mk ?l ?c ?k;(case l=>k_is);(case c=>k_is);(case k=>k_is))))
