import PyProof.Rows.All
import Wide.All
import OpenK.AllK
import Wide.FinOn
import Lean
import PyProof.EqAt
import PyProof.EqKinds
import PyProof.TupleCall
import PySem.Challenge.RW_duskbook_k51_table_or_blend
set_option Elab.async false
set_option linter.all false
set_option maxRecDepth 100000
abbrev fsc(l:List (PySem.Str × PySem.NameKind)):PySem.Scope:={ kind:=.function,names:=l,isGenerator:=false,isCoroutine:=false,more:=[] }
theorem qa{α β:Type _}{o:Option α}{f:α→Option β}{b:β}(h:o.bind f=some b):∃a,o=some a∧f a=some b:=Option.bind_eq_some_iff.mp h
theorem qb{α β:Type _}{o:Option α}{f:α→β}{b:β}(h:o.map f=some b):∃a,o=some a∧f a=b:=Option.map_eq_some_iff.mp h
def qc:=@Option.bind_some
def qd:=@PySem.Heap.get?_push_of_some
def qe:=@List.length_map
def qf:=@List.mem_cons_of_mem
def qg:=@List.mem_cons_self
def qh:=@Bool.false_ne_true
def qi:=@Array.length_toList
def qj:=@List.size_toArray
def qk:=@PySem.Heap.lt_size
def ql:=@Nat.ne_of_lt
theorem qm{α:Type _}{l:List α}{i:Nat}{a:α}(h:l[i]?=some a):∃h:i < l.length,l[i]=a:=List.getElem?_eq_some_iff.mp h
def qo:=@PySem.Heap.get?_push_size
def qp:=@List.getElem?_eq_getElem
def qq:=@List.length_cons
theorem qr{α:Type _}{a b:α}{l:List α}(h:a∈b::l):a=b∨a∈l:=List.mem_cons.mp h
def qt:=@Nat.le_refl
theorem qu{α:Type _}{a:α}{s t:List α}(h:a∈s++t):a∈s∨a∈t:=List.mem_append.mp h
def qv:=@Nat.lt_succ_of_lt
theorem qw{α β:Type _}{b:β}{f:α→β}{l:List α}(h:b∈l.map f):∃a,a∈l∧f a=b:=List.mem_map.mp h
def qx:=@List.getElem_mem
def qy:=@List.length_append
def qz:=@Nat.lt_succ_self
theorem Qa{m n:Nat}(h:m∈List.range n):m < n:=List.mem_range.mp h
theorem Qb{α:Type _}{p:α→Bool}{l:List α}{a:α}(h:a∈l.filter p):a∈l∧p a=true:=List.mem_filter.mp h
def Qc:=@List.map_cons
def Qd:=@Nat.lt_of_lt_of_le
def Qe:=@Nat.zero_le
def Qf:=@Nat.lt_irrefl
def Qg:=@List.getElem?_set_ne
def Qh:=@List.getElem?_map
def Qi:=@Bool.and_eq_true
def Qj:=@List.mem_append_right
def Qk:=@List.take_append_drop
set_option maxHeartbeats 4000000
namespace L2
open PySem PySem.Spec PyProof.Rows
noncomputable abbrev Key:=Sum Int Str
noncomputable def Ytr:Key→Value→Bool
 | .inl k,v=>Value.isInt k v
 | .inr x,v=>Value.isStrOf x v
noncomputable def keyH(w:World):Key→Int
 | .inl k=>hashInt k
 | .inr x=>hashStr w x
theorem Ya9:∀{k:Key} {v:Value},Ytr k v=true→(∃i t,k=Sum.inl i∧v=Value.int i t)∨(∃x t,k=Sum.inr x∧v=Value.str x t)
 | .inl i,v,h=>by
   obtain⟨t,e⟩:=Value.isInt_shape (k:=i) (v:=v) h
   exact .inl ⟨i,t,rfl,e⟩
 | .inr x,v,h=>by
   obtain⟨t,e⟩:=Value.isStrOf_shape (x:=x) (v:=v) h
   exact .inr ⟨x,t,rfl,e⟩
theorem Yuw(i:Int)(t:Tok):Ytr (.inl i) (.int i t)=true:=by simp[Ytr,Value.isInt]
theorem Yux(x:Str)(t:Tok):Ytr (.inr x) (.str x t)=true:=by simp[Ytr,Value.isStrOf]
theorem y34(a b:Int):decide ((Sum.inl a:Key)=Sum.inl b)=(a==b):=by
 by_cases e:a=b
 ·subst e;simp
 ·have h:¬(Sum.inl a:Key)=Sum.inl b:=fun q=>e (Sum.inl.inj q)
  rw[decide_eq_false h]
  exact(beq_eq_false_iff_ne.mpr e).symm
theorem y35(a b:Str):decide ((Sum.inr a:Key)=Sum.inr b)=decide (a=b):=by
 by_cases e:a=b
 ·subst e;simp
 ·have h:¬(Sum.inr a:Key)=Sum.inr b:=fun q=>e (Sum.inr.inj q)
  rw[decide_eq_false h,decide_eq_false e]
theorem y36(a:Int)(b:Str):decide ((Sum.inl a:Key)=Sum.inr b)=false:=decide_eq_false (fun q=>nomatch q)
theorem y37(a:Str)(b:Int):decide ((Sum.inr a:Key)=Sum.inl b)=false:=decide_eq_false (fun q=>nomatch q)
noncomputable def Yb0(prog:Program)(w:World):KeyKind prog w Key where
 is:=Ytr
 hash:=keyH w
 inj:=fun v a b ha hb=>by
  rcases Ya9 ha with⟨i,t,rfl,rfl⟩ | ⟨x,t,rfl,rfl⟩
  ·rcases Ya9 hb with⟨j,u,rfl,e⟩ | ⟨y,u,rfl,e⟩
   ·injection e with e1 _;rw[e1]
   ·exact nomatch e
  ·rcases Ya9 hb with⟨j,u,rfl,e⟩ | ⟨y,u,rfl,e⟩
   ·exact nomatch e
   ·injection e with e1 _;rw[e1]
 byValue:=fun k v h=>by
  rcases Ya9 h with⟨i,t,rfl,rfl⟩ | ⟨x,t,rfl,rfl⟩<;>rfl
 pyHash:=fun hv h=>by
  rcases Ya9 hv with⟨i,t,rfl,rfl⟩ | ⟨x,t,rfl,rfl⟩
  ·exact wpAny_pyHash_int h
  ·exact wpAny_pyHash_str h
 eqBool:=fun hu hv h=>by
  rcases Ya9 hu with⟨i,t,rfl,rfl⟩ | ⟨x,t,rfl,rfl⟩
  ·rcases Ya9 hv with⟨j,u,rfl,rfl⟩ | ⟨y,u,rfl,rfl⟩
   ·rw[y34]at h;exact wpAny_eqBool_int h
   ·rw[y36]at h;exact SeqAt.EqAt.int_str i t y u _ _ _ _ h
  ·rcases Ya9 hv with⟨j,u,rfl,rfl⟩ | ⟨y,u,rfl,rfl⟩
   ·rw[y37]at h;exact SeqAt.EqAt.str_int x t j u _ _ _ _ h
   ·rw[y35]at h;exact wpAny_eqBool_str h
 «strs»:=fun k x t v h=>by
  rcases Ya9 h with⟨i,u,rfl,e⟩ | ⟨y,u,rfl,e⟩
  ·exact nomatch e
  ·injection e with e1 _
   subst e1
   cases v<;>rfl
theorem Yqu(prog:Program)(w:World)(i:Int)(t:Tok):(Yb0 prog w).is (.inl i) (.int i t)=true:=Yuw i t
theorem Yqv(prog:Program)(w:World)(x:Str)(t:Tok):(Yb0 prog w).is (.inr x) (.str x t)=true:=Yux x t
end L2
namespace L2
open PySem PySem.Spec PyProof.Rows
inductive V where
 | non | bl (b:Bool) | int (i:Int) | str (x:Str) | byt (b:Array UInt8) | flt (b:UInt64) | ref (a:Addr) | ty (n:String)
 deriving DecidableEq
noncomputable def RelV:V→Value→Prop
 | .non,u=>u=Value.none
 | .bl b,u=>u=Value.bool b
 | .int i,u=>∃t,u=Value.int i t
 | .str x,u=>∃t,u=Value.str x t
 | .byt b,u=>∃t,u=Value.bytes b t
 | .flt b,u=>∃t,u=Value.float b t
 | .ref a,u=>u=Value.ref a
 | .ty n,u=>u=Value.type n
noncomputable abbrev Vals:List V→List Value→Prop:=Paired RelV
theorem Vals.length{xs:List V}{us:List Value}(r:Vals xs us):xs.length=us.length:=Paired.length r
theorem Vals.get:∀{xs:List V} {us:List Value} {i:Nat} {x:V},Vals xs us→xs[i]?=some x→∃u,us[i]?=some u∧RelV x u
 | _,_,_,_,.nil,e=>by simp at e
 | _,_,0,_,.cons r _,e=>by simp at e;subst e;exact⟨_,rfl,r⟩
 | _,_,i+1,x,.cons _ t,e=>by
   obtain⟨u,h1,h2⟩:=Vals.get (i:=i) (x:=x) t (by simpa using e)
   exact⟨u,by simpa using h1,h2⟩
theorem Vals.append:∀{xs ys:List V} {us ws:List Value},Vals xs us→Vals ys ws→Vals (xs++ys) (us++ws)
 | _,_,_,_,.nil,s=>s
 | _,_,_,_,.cons r t,s=>.cons r (Vals.append t s)
theorem Vals.take:∀{xs:List V} {us:List Value} (n:Nat),Vals xs us→Vals (xs.take n) (us.take n)
 | _,_,0,_=>.nil
 | _,_,_+1,.nil=>.nil
 | _,_,n+1,.cons r t=>.cons r (Vals.take n t)
theorem Vals.drop:∀{xs:List V} {us:List Value} (n:Nat),Vals xs us→Vals (xs.drop n) (us.drop n)
 | _,_,0,r=>r
 | _,_,_+1,.nil=>.nil
 | _,_,n+1,.cons _ t=>Vals.drop n t
noncomputable def RelO:Option V→Option Value→Prop
 | some v,some u=>RelV v u
 | none,none=>True
 | _,_=>False
noncomputable def KV{κ:Type}:List (κ × V)→List (κ × Value)→Prop:=Paired fun(p:κ × V) (q:κ × Value)=>p.1=q.1∧RelV p.2 q.2
noncomputable def kV:Key→V
 | .inl i=>.int i
 | .inr x=>.str x
inductive HO where
 | lst (xs:List V)
 | tup (xs:List V)
 | dK (kvs:List (Key × V)) | dT (kvs:List (List Key × V))
 | set (S:Int→Bool) (n:Nat)
 | ins (C dx:Addr) (fs:List (Str × V))
 | own (x:Addr)
 | xd (fs:List (Str × V))
 | met (f x:Addr)
 | rng (lo hi:Int)
 | frz (o:Obj) (u:HO)
 | tbl (ps:Array Value)
 | ext (φ:Heap→Prop)
noncomputable abbrev Hp:=Addr→Option HO
noncomputable def upd(H:Hp)(a:Addr)(o:HO):Hp:=fun b=>if b=a then some o else H b
theorem y0{H:Hp}{a:Addr}{o:HO}:upd H a o a=some o:=by unfold upd;rw[if_pos rfl]
theorem Yaa{H:Hp}{a b:Addr}{o:HO}(h:b≠a):upd H a o b=H b:=by unfold upd;rw[if_neg h]
theorem y9{H:Hp}{a b:Addr}{o:HO}(h:H a=some o)(h':H b=none):a≠b:=by
 intro e;subst e;rw[h]at h';cases h'
section
variable (P:Program) (w:World)
noncomputable def ObjOk(H:Hp)(h:Heap)(a:Addr):HO→Prop
 | .lst xs=>xs.length≤sizeLine∧∃(its:List Value) (n:Nat),Vals xs its∧h.get? a=some { cls:=.type "list",data:=.seq its.toArray n }
 | .tup xs=>xs.length≤sizeLine∧∃its:List Value,Vals xs its∧IsTup h a its.toArray
 | .dK kvs=>kvs.length≤sizeLine∧(a==sysModules)=false∧∃vs,KV kvs vs∧h.DictOf (Yb0 P w) a vs
 | .dT kvs=>kvs.length≤sizeLine∧(a==sysModules)=false∧∃xs:List (List Key × Addr × Value),
  Paired (fun(p:List Key × V) (q:List Key × Addr × Value)=>p.1=q.1∧H q.2.1=some (.tup (p.1.map kV))∧RelV p.2 q.2.2) kvs xs∧
  ∃o es ep,h.get? a=some o∧o.ExactDict∧o.data=.dict es ep∧es.toList=xs.map (entryOfKey (tupleKind (Yb0 P w)))∧(xs.map (·.1)).Nodup
 | .set S n=>h.SetOf (intKind P w) a S n
 | .ins C dx fs=>H dx=some (.own a)∧fs.length≤1000∧dx≠a∧h.get? a=some (W.instObj C dx)∧
  ∃mA,h.Ns1 dx mA∧(∀f,RelO (fs.lookup f) (mA f))∧PySem.Within mA (fs.map (·.1))
 | .own _=>∃o,h.get? a=some o
 | .xd fs=>∃mA,h.Ns1 a mA∧∀f,RelO (fs.lookup f) (mA f)
 | .rng lo hi=>∃t u v,h.get? a=some { cls:=.type "range",data:=.fields #[.int lo t,.int hi u,.int 1 v] }
 | .frz o u=>h.get? a=some o∧ObjOk H h a u
 | .tbl ps=>h.get? a=some { cls:=.none,data:=.fields ps }
 | .met f x=>h.get? a=some (W.methodObj (.ref f) (.ref x))
 | .ext φ=>φ h∧(∃o,h.get? a=some o)∧∀h1 h2:Heap,φ h1→(∀o,h1.get? a=some o→h2.get? a=some o)→φ h2
def HOk(H:Hp)(h:Heap):Prop:=∀a o,H a=some o→ObjOk P w H h a o
end
section
variable {P:Program} {w:World} {H H':Hp} {h h':Heap} {a:Addr} {o:HO}
theorem ObjOk.lt(x:ObjOk P w H h a o):a < h.objs.size:=by
 cases o with
 | lst xs=>obtain⟨_,_,_,_,e⟩:=x;exact qk e
 | tup xs=>obtain⟨_,_,_,p⟩:=x;exact p.lt
 | dK kvs=>obtain⟨_,_,_,_,o,_,_,e,_⟩:=x;exact qk e
 | dT kvs=>obtain⟨_,_,_,_,o,_,_,e,_⟩:=x;exact qk e
 | set S n=>obtain⟨o,_,_,_,e,_⟩:=x;exact qk e
 | ins C dx fs=>obtain⟨_,_,_,e,_⟩:=x;exact qk e
 | own y=>obtain⟨_,e⟩:=x;exact qk e
 | xd fs=>obtain⟨_,⟨_,_,_,e,_⟩,_⟩:=x;exact qk e
 | rng lo hi=>obtain⟨_,_,_,e⟩:=x;exact qk e
 | frz ob u=>obtain⟨e,_⟩:=x;exact qk e
 | tbl ps=>exact qk (show h.get? a=some _ from x)
 | met f y=>exact qk (show h.get? a=some _ from x)
 | ext φ=>obtain⟨_,⟨_,e⟩,_⟩:=x;exact qk e
theorem Paired.mapP{α β:Type}{F G:α→β→Prop}:∀{l₁:List α} {l₂:List β},Paired F l₁ l₂→(∀a b,F a b→G a b)→Paired G l₁ l₂
 | _,_,.nil,_=>.nil
 | _,_,.cons r t,f=>.cons (f _ _ r) (Paired.mapP t f)
theorem ObjOk.stay(x:ObjOk P w H h a o)(k:∀b u,(b=a∨H b=some (.own a))→h.get? b=some u→h'.get? b=some u)
 (ho:∀b,H b=some (.own a)→H' b=some (.own a)) (ht:∀b xs,H b=some (.tup xs)→H' b=some (.tup xs)):ObjOk P w H' h' a o:=by
 induction o with
 | lst xs=>obtain⟨z,its,n,r,e⟩:=x;exact⟨z,its,n,r,k _ _ (.inl rfl) e⟩
 | tup xs=>obtain⟨z,its,r,ob,e,c⟩:=x;exact⟨z,its,r,ob,k _ _ (.inl rfl) e,c⟩
 | dK kvs=>obtain⟨z,y,vs,r,ob,es,ep,e,c⟩:=x;exact⟨z,y,vs,r,ob,es,ep,k _ _ (.inl rfl) e,c⟩
 | dT kvs=>
   obtain⟨z,y,xs,r,ob,es,ep,e,c⟩:=x
   exact⟨z,y,xs,Paired.mapP r fun p q z=>⟨z.1,ht _ _ z.2.1,z.2.2⟩,ob,es,ep,k _ _ (.inl rfl) e,c⟩
 | set S n=>obtain⟨ob,es,ep,t,e,c⟩:=x;exact⟨ob,es,ep,t,k _ _ (.inl rfl) e,c⟩
 | ins C dx fs=>
   obtain⟨d,z,ne,e,mA,⟨od,es,ep,e2,c⟩,r⟩:=x
   exact⟨ho _ d,z,ne,k _ _ (.inl rfl) e,mA,⟨od,es,ep,k _ _ (.inr d) e2,c⟩,r⟩
 | own y=>obtain⟨ob,e⟩:=x;exact⟨ob,k _ _ (.inl rfl) e⟩
 | xd fs=>obtain⟨mA,⟨od,es,ep,e,c⟩,r⟩:=x;exact⟨mA,⟨od,es,ep,k _ _ (.inl rfl) e,c⟩,r⟩
 | rng lo hi=>obtain⟨t,u,v,e⟩:=x;exact⟨t,u,v,k _ _ (.inl rfl) e⟩
 | frz ob u ih=>obtain⟨e,q⟩:=x;exact⟨k _ _ (.inl rfl) e,ih q⟩
 | tbl ps=>
   have e:h.get? a=some { cls:=.none,data:=.fields ps }:=x
   show h'.get? a=some { cls:=.none,data:=.fields ps }
   exact k a _ (.inl rfl) e
 | met f y=>
   have e:h.get? a=some (W.methodObj (.ref f) (.ref y)):=x
   show h'.get? a=some (W.methodObj (.ref f) (.ref y))
   exact k a _ (.inl rfl) e
 | ext φ=>obtain⟨p,⟨o,e⟩,st⟩:=x;exact⟨st _ _ p fun o q=>k _ _ (.inl rfl) q,⟨o,k _ _ (.inl rfl) e⟩,st⟩
theorem HOk.lt(x:HOk P w H h)(e:H a=some o):a < h.objs.size:=(x a o e).lt
theorem HOk.fresh(x:HOk P w H h)(e:h.objs.size≤a):H a=none:=by
 cases q:H a with
 | none=>rfl
 | some u=>exact absurd (Qd (x.lt q) e) (Qf _)
theorem HOk.kept(x:HOk P w H h)(k:∀b u,h.get? b=some u→h'.get? b=some u):HOk P w H h':=fun a o e=>
 (x a o e).stay (fun b u _ q=>k b u q) (fun _ q=>q) fun _ _ q=>q
theorem HOk.laid(x:HOk P w H h)(k:∀b u,h.get? b=some u→h'.get? b=some u)(hp:h.objs.size≤a)(new:ObjOk P w (upd H a o) h' a o):HOk P w (upd H a o) h':=fun b u e=>by
 have hn:=x.fresh hp
 by_cases hb:b=a
 ·subst hb;rw[y0]at e;cases e;exact new
 ·rw[Yaa hb]at e
  exact(x b u e).stay (fun c v _ q=>k c v q) (fun c q=>by rw[Yaa (y9 q hn)];exact q) fun c xs q=>by rw[Yaa (y9 q hn)];exact q
end
def Rd(H:Hp)(a:Addr)(u:HO):Prop:=H a=some u∨∃o,H a=some (.frz o u)
theorem Rd.ok{P:Program}{w:World}{H:Hp}{h:Heap}{a:Addr}{u:HO}(r:Rd H a u)(x:HOk P w H h):ObjOk P w H h a u:=by
 rcases r with r | ⟨o,r⟩
 ·exact x a u r
 ·obtain⟨_,q⟩:=x a _ r
  exact q
noncomputable def Mut:Option HO→Prop
 | some (.lst _)=>True
 | some (.dK _)=>True
 | some (.dT _)=>True
 | some (.set _ _)=>True
 | some (.ins _ _ _)=>True
 | some (.ext _)=>True
 | _=>False
section
variable {P:Program} {w:World} {H:Hp} {h h':Heap} {x e:Addr} {o':HO}
theorem HOk.write(ok:HOk P w H h)(mu:Mut (H x))(he:e=x∨H e=some (.own x))(k:∀b u,b≠e→h.get? b=some u→h'.get? b=some u)(heo:∃u,h'.get? e=some u)
 (new:ObjOk P w (upd H x o') h' x o'):HOk P w (upd H x o') h':=fun b u q=>by
 have nown:∀c y,H c=some (.own y)→c≠x:=fun c y r z=>by subst z;rw[r]at mu;exact mu
 have ntup:∀c xs,H c=some (.tup xs)→c≠x:=fun c xs r z=>by subst z;rw[r]at mu;exact mu
 by_cases hb:b=x
 ·subst hb;rw[y0]at q;cases q;exact new
 ·rw[Yaa hb]at q
  by_cases hbe:b=e
  ·have q':H b=some (.own x):=by
    rcases he with z | z
    ·exact absurd (hbe.trans z) hb
    ·rw[hbe];exact z
   rw[q]at q';cases q'
   obtain⟨v,hv⟩:=heo
   exact⟨v,by rw[hbe];exact hv⟩
  ·refine(ok b u q).stay (fun c v hc r=>k c v ?_ r) (fun c r=>by rw[Yaa (nown c b r)];exact r) fun c xs r=>by rw[Yaa (ntup c xs r)];exact r
   rcases hc with rfl | hc
   ·exact hbe
   ·rintro rfl
    rcases he with z | z
    ·exact nown c b hc z
    ·rw[hc]at z;cases z;exact hb rfl
end
structure Un(fs ex:List Addr)(H H':Hp)(h h':Heap):Prop where
 keep:∀b o,h.get? b=some o→H b=none→b∉fs→b∉ex→h'.get? b=some o
 slot:∀b o,h.get? b=some o→H b=none→b∈fs→b∉ex→∃sl,h'.get? b=some { o with slots:=sl }
 free:∀b o,h.get? b=some o→H b=none→b∉ex→H' b=none
 there:∀b o,h.get? b=some o→b∉ex→∃o',h'.get? b=some o'
 tups:∀b xs,H b=some (.tup xs)→H' b=some (.tup xs)
 frzs:∀b o u,H b=some (.frz o u)→H' b=some (.frz o u)
 tbls:∀b ps,H b=some (.tbl ps)→∃more,H' b=some (.tbl (ps++more))
section
variable {fs fs' ex ex':List Addr} {H H1 H2:Hp} {h h1 h2 h':Heap} {a x e:Addr} {o:HO}
theorem Un.any(u:Un fs ex H H1 h h1){b:Addr}{ob:Obj}(q:h.get? b=some ob)(n:H b=none)(hx:b∉ex):∃sl,h1.get? b=some { ob with slots:=sl }:=by
 by_cases hb:b∈fs
 ·exact u.slot b ob q n hb hx
 ·exact⟨ob.slots,u.keep b ob q n hb hx⟩
theorem Un.kept(k:∀b u,h.get? b=some u→h'.get? b=some u):Un fs ex H H h h':=
 ⟨fun b ob q _ _ _=>k b ob q,fun b ob q _ _ _=>⟨ob.slots,k b ob q⟩,fun _ _ _ n _=>n,fun b ob q _=>⟨ob,k b ob q⟩,fun _ _ q=>q,fun _ _ _ q=>q,fun _ ps q=>⟨#[],by rw[q];simp⟩⟩
theorem Un.refl:Un fs ex H H h h:=Un.kept fun _ _ q=>q
theorem Un.laid(k:∀b u,h.get? b=some u→h'.get? b=some u)(hp:h.objs.size≤a)(hn:H a=none):Un fs ex H (upd H a o) h h' where
 keep:=fun b u q _ _ _=>k b u q
 slot:=fun b u q _ _ _=>⟨u.slots,k b u q⟩
 free:=fun b u q n _=>by rw[Yaa (ql (Qd (qk q) hp))];exact n
 there:=fun b u q _=>⟨u,k b u q⟩
 tups:=fun b xs q=>by rw[Yaa (y9 q hn)];exact q
 frzs:=fun b u xs q=>by rw[Yaa (y9 q hn)];exact q
 tbls:=fun b ps q=>⟨#[],by rw[Yaa (y9 q hn),q];simp⟩
theorem Un.write(mu:Mut (H x))(he:e=x∨H e=some (.own x))(k:∀b u,b≠e→h.get? b=some u→h'.get? b=some u)(heo:∃u,h'.get? e=some u):Un fs ex H (upd H x o) h h':=by
 have hx:∀b,H b=none→b≠x:=fun b n z=>by subst z;rw[n]at mu;exact mu
 have hb:∀b,H b=none→b≠e:=fun b n z=>by
  subst z
  rcases he with r | r
  ·exact hx b n r
  ·rw[n]at r;cases r
 have hm:∀b u,H b=some u→¬Mut (some u)→b≠x:=fun b u q nm z=>by subst z;rw[q]at mu;exact nm mu
 refine⟨fun b u q n _ _=>k b u (hb b n) q,fun b u q n _ _=>⟨u.slots,k b u (hb b n) q⟩,fun b u q n _=>by rw[Yaa (hx b n)];exact n,fun b u q _=>?_,
  fun b xs q=>by rw[Yaa (hm b _ q fun z=>z)];exact q,fun b u xs q=>by rw[Yaa (hm b _ q fun z=>z)];exact q,fun b ps q=>⟨#[],by rw[Yaa (hm b _ q fun z=>z),q];simp⟩⟩
 by_cases hbe:b=e
 ·subst hbe;exact heo
 ·exact⟨u,k b u hbe q⟩
end
noncomputable def trk(h:Heap)(H:Hp):List Addr:=(List.range h.objs.size).filter fun a=>(H a).isSome
noncomputable def hidT(h:Heap)(H:Hp):Heap:=W.hideAll h (trk h H)
theorem Yuy(h:Heap)(H:Hp):(hidT h H).objs.size=h.objs.size:=W.hideAll_size _ _
theorem Yyc{h:Heap}{H:Hp}{b:Addr}{o:Obj}(e:h.get? b=some o)(n:H b=none):(hidT h H).get? b=some o:=
 W.hideAll_get _ e fun hm=>by
  have q:(H b).isSome=true:=(Qb hm).2
  rw[n]at q;simp at q
theorem y1c{h:Heap}{H:Hp}{b:Addr}{o:Obj}(e:(hidT h H).get? b=some o):h.get? b=some o∧H b=none:=by
 have e':h.get? b=some o:=W.of_hideAll (trk h H) e
 refine⟨e',?_⟩
 cases q:H b with
 | none=>rfl
 | some x=>
   have hm:b∈trk h H:=List.mem_filter.mpr ⟨List.mem_range.mpr (qk e'),by simp[q]⟩
   have z:(hidT h H).get? b=none:=W.hideAll_none (trk h H) hm
   rw[z]at e;cases e
end L2
namespace L2
open PySem PySem.Spec PyProof.Rows
structure Mod(K:W.Frag)(mg:Str→Option Value)(base:Heap):Prop where
 kin:K.In base
 glob:base.Ns mainGlobals mg
 blt:∃mb,base.Ns builtinsNs mb∧∀x:Str,x≠"__name__"→mb x=bootBuiltins x
 nolimit:base.NoLimit
structure Cx where
 prog:Program
 w:World
 K:W.Frag
 mg:Str→Option Value
 base:Heap
 A:Around
 N:List Str
 s₀:Shared
 H₀:Hp
 env:Env
 outer:List Env
 stack:List Env
 ex:List Addr
 fn:Str→Bool
 calm:Bool
 pn:List (Addr × Obj)
 xe:Value→Shared→Prop
noncomputable def frs(l:List Env):List Addr:=l.filterMap (·.frame)
noncomputable abbrev Cx.fs(X:Cx):List Addr:=frs X.outer
def Vis(sc:Scope)(x:Str):Prop:=sc.names.lookup x=some .local∨sc.names.lookup x=some .cell∨sc.names.lookup x=some .free
def Loc(sc:Scope)(x:Str):Prop:=sc.names.lookup x=some .local∨sc.names.lookup x=some .cell
def Look(env:Env)(h:Heap)(m:Str→Option Value)(x:Str)(u:Value):Prop:=
 (env.kindOf x=some .local∧m x=some u)∨((env.kindOf x=some .cell∨env.kindOf x=some .free)∧∃c,env.cells.lookup x=some c∧h.IsCell c (some u))
structure Cx.Ok(X:Cx):Prop where
 mod:Mod X.K X.mg X.base
 kind:X.env.scope.kind=.function
 glob:X.env.globals=mainGlobals
 blt:X.env.builtins=builtinsNs
 above:X.s₀.heap.objs.size≤X.env.locals
 inj:∀x y c,X.env.cells.lookup x=some c→X.env.cells.lookup y=some c→x=y
 has:∀x,(X.env.kindOf x=some .cell∨X.env.kindOf x=some .free)→∃c,X.env.cells.lookup x=some c
 cab:∀x c,X.fn x=true→X.env.cells.lookup x=some c→X.s₀.heap.objs.size≤c
 hd:X.calm=true→X.A.handled=none
 frames:X.A.frames=some X.stack
 stk:X.stack=X.outer∨(X.stack=X.env::X.outer∧X.env.frame=some X.env.locals)
 exf:∀b∈X.ex,b≠X.env.locals∧∀x c,X.env.cells.lookup x=some c→c≠b
 bs:∀b o,X.base.get? b=some o→X.s₀.heap.get? b=some o∧X.H₀ b=none
 bsz:X.base.objs.size≤X.s₀.heap.objs.size
 noex:∀b o,X.base.get? b=some o→b∉X.ex
 exfs:∀b∈X.ex,b∉X.fs
 funs:X.s₀.heap.FunFrames X.base X.outer
 frf:∀b∈X.fs,X.H₀ b=none
structure Inv(X:Cx)(pins:List (Addr × Obj))(σ:List (Option V))(H:Hp)(s:Shared):Prop where
 ok:X.Ok
 os:s.os=X.s₀.os
 bare:AllBare s.gens
 base:Un X.fs X.ex X.H₀ H X.s₀.heap s.heap
 loc:∃m,s.heap.Ns X.env.locals m∧∀(i:Nat) (x:Str) (v:V),X.N[i]?=some x→σ[i]?=some (some v)→Vis X.env.scope x→∃u,RelV v u∧Look X.env s.heap m x u
 cell:∀x c,X.env.cells.lookup x=some c→∃v,s.heap.IsCell c v
 free:H X.env.locals=none
 freeC:∀x c,X.env.cells.lookup x=some c→H c=none
 pin:∀p∈X.pn++pins,s.heap.get? p.1=some p.2∧H p.1=none∧p.1≠X.env.locals∧p.1∉X.fs∧∀v,p.2.data≠.cell v
 hok:HOk X.prog X.w H s.heap
 len:σ.length=X.N.length
section
variable {X:Cx} {pins:List (Addr × Obj)} {σ:List (Option V)} {H H':Hp} {s:Shared} {h':Heap}
theorem Cx.Ok.nofr(ok:X.Ok){b:Addr}{o:Obj}(e:X.base.get? b=some o):b∉X.fs:=fun hb=>by
 have:=(ok.funs.mem hb).1
 rw[e]at this;cases this
theorem Inv.bs(I:Inv X pins σ H s):∀b o,X.base.get? b=some o→s.heap.get? b=some o∧H b=none:=fun b o e=>
 ⟨I.base.keep b o (I.ok.bs b o e).1 (I.ok.bs b o e).2 (I.ok.nofr e) (I.ok.noex b o e),I.base.free b o (I.ok.bs b o e).1 (I.ok.bs b o e).2 (I.ok.noex b o e)⟩
theorem Inv.bk(I:Inv X pins σ H s):∀b o,X.base.get? b=some o→s.heap.get? b=some o:=fun b o e=>(I.bs b o e).1
theorem Inv.mod(I:Inv X pins σ H s):Mod X.K X.mg X.base:=I.ok.mod
theorem Inv.kIn(I:Inv X pins σ H s):X.K.In s.heap:=I.ok.mod.kin.keeps I.bk
theorem Inv.lt(I:Inv X pins σ H s):X.env.locals < s.heap.objs.size:=let ⟨_,hn,_⟩:=I.loc;hn.lt
theorem Inv.sz(I:Inv X pins σ H s):X.s₀.heap.objs.size≤s.heap.objs.size:=Nat.le_trans I.ok.above (Nat.le_of_lt I.lt)
theorem Inv.nofs(I:Inv X pins σ H s){a:Addr}(h:s.heap.objs.size≤a):a∉X.fs:=fun hb=>by
 obtain⟨_,o,ho,_⟩:=I.ok.funs.mem hb
 exact absurd (Qd (qk ho) (Nat.le_trans I.sz h)) (Qf _)
theorem Inv.cne(I:Inv X pins σ H s):∀x c,X.env.cells.lookup x=some c→c≠X.env.locals:=fun x c e z=>by
 obtain⟨v,o,ho,hd⟩:=I.cell x c e
 obtain⟨m,⟨o',es,ep,ho',hd',_⟩,_⟩:=I.loc
 rw[z,ho']at ho;cases ho;rw[hd']at hd;cases hd
theorem Inv.funs(I:Inv X pins σ H s):s.heap.FunFrames X.base X.outer:=by
 have all:∀(l:List Env),(∀b∈frs l,b∈X.fs)→X.s₀.heap.FunFrames X.base l→s.heap.FunFrames X.base l:=by
  intro l
  induction l with
  | nil=>intro _ _;trivial
  | cons env r ih=>
    intro hs hl
    obtain⟨hk,⟨L,o,hf,hn,ho,hd⟩,hr⟩:=hl
    have hL:L∈X.fs:=hs L (by unfold frs;rw[List.filterMap_cons,hf];exact qg)
    obtain⟨sl,e⟩:=I.base.slot L o ho (I.ok.frf L hL) hL fun z=>I.ok.exfs L z hL
    exact⟨hk,⟨L,_,hf,hn,e,hd⟩,ih (fun b hb=>hs b (by unfold frs;rw[List.filterMap_cons,hf];exact qf _ hb)) hr⟩
 exact all X.outer (fun _ hb=>hb) I.ok.funs
theorem Inv.stack(I:Inv X pins σ H s):s.heap.FunFrames X.base X.stack:=by
 rcases I.ok.stk with e | ⟨e,hf⟩
 ·rw[e];exact I.funs
 ·rw[e]
  obtain⟨m,hn,_⟩:=I.loc
  refine .cons (by rw[I.ok.kind];decide) hf hn ?_ I.funs
  exact Heap.get?_none_of_le (Nat.le_trans I.ok.bsz I.ok.above)
theorem Inv.stkSub(I:Inv X pins σ H s):∀b∈frs X.stack,b∈X.env.locals::X.fs:=fun b hb=>by
 rcases I.ok.stk with e | ⟨e,hf⟩
 ·rw[e]at hb;exact qf _ hb
 ·rw[e]at hb
  unfold frs at hb
  rw[List.filterMap_cons,hf]at hb
  exact hb
theorem Inv.stkFree(I:Inv X pins σ H s):∀b∈frs X.stack,H b=none:=fun b hb=>by
 rcases qr (I.stkSub b hb)with e | hb
 ·rw[e];exact I.free
 ·obtain⟨_,o,ho,_⟩:=I.ok.funs.mem hb
  exact I.base.free b o ho (I.ok.frf b hb) fun z=>I.ok.exfs b z hb
theorem Inv.step{g':Array GenState}{t':Nat}{d':Drawn}{ch:List Addr}(I:Inv X pins σ H s)
 (hch:∀b∈ch,(b∈X.ex∨X.s₀.heap.objs.size≤b)∧b≠X.env.locals∧(∀x c,X.env.cells.lookup x=some c→c≠b)∧∀p∈X.pn++pins,p.1≠b)
 (keep:∀b o,b≠X.env.locals→b∉X.fs→b∉ch→s.heap.get? b=some o→H b=none→h'.get? b=some o)
 (slot:∀b o,b≠X.env.locals→b∈X.fs→b∉ch→s.heap.get? b=some o→H b=none→∃sl,h'.get? b=some { o with slots:=sl }) (free:∀b o,b∉ch→s.heap.get? b=some o→H b=none→H' b=none)
 (there:∀b o,b∉ch→s.heap.get? b=some o→∃o',h'.get? b=some o')
 (tups:∀b xs,H b=some (.tup xs)→H' b=some (.tup xs)) (frzs:∀b o u,H b=some (.frz o u)→H' b=some (.frz o u)) (tbls:∀b ps,H b=some (.tbl ps)→∃more,H' b=some (.tbl (ps++more)))
 (ns:∀m,s.heap.Ns X.env.locals m→h'.Ns X.env.locals m) (hok:HOk X.prog X.w H' h') (hg:AllBare g') :
 Inv X pins σ H' { s with heap:=h',gens:=g',drawn:=d',toks:=t' }:=by
 have neL:∀b o,X.s₀.heap.get? b=some o→b≠X.env.locals:=fun b o e=>ql (Qd (qk e) I.ok.above)
 have neC:∀b o,X.s₀.heap.get? b=some o→b∉X.ex→b∉ch:=fun b o e hx hb=>by
  rcases(hch b hb).1 with z | z
  ·exact hx z
  ·exact absurd (Qd (qk e) z) (Qf _)
 have cellK:∀x c,X.env.cells.lookup x=some c→∀v,s.heap.IsCell c v→h'.IsCell c v:=fun x c e v hx_=>by
  obtain⟨o,ho,hd⟩:=hx_
  have nch:c∉ch:=fun z=>(hch c z).2.2.1 x c e rfl
  by_cases hc:c∈X.fs
  ·obtain⟨sl,q⟩:=slot c o (I.cne x c e) hc nch ho (I.freeC x c e)
   exact⟨_,q,hd⟩
  ·exact⟨o,keep c o (I.cne x c e) hc nch ho (I.freeC x c e),hd⟩
 refine⟨I.ok,I.os,hg,⟨fun b o e n hb hx=>?_,fun b o e n hb hx=>?_,fun b o e n hx=>?_,fun b o e hx=>?_,fun b xs e=>tups b xs (I.base.tups b xs e),fun b o xs e=>frzs b o xs (I.base.frzs b o xs e),fun b ps e=>?_⟩,?_,fun x c e=>?_,?_,fun x c e=>?_,fun p hp=>?_,hok,I.len⟩
 ·exact keep b o (neL b o e) hb (neC b o e hx) (I.base.keep b o e n hb hx) (I.base.free b o e n hx)
 ·obtain⟨sl,e1⟩:=I.base.slot b o e n hb hx
  obtain⟨sl',e2⟩:=slot b _ (neL b o e) hb (neC b o e hx) e1 (I.base.free b o e n hx)
  exact⟨sl',e2⟩
 ·obtain⟨o',e1⟩:=I.base.there b o e hx
  exact free b o' (neC b o e hx) e1 (I.base.free b o e n hx)
 ·obtain⟨o',e1⟩:=I.base.there b o e hx
  exact there b o' (neC b o e hx) e1
 ·obtain⟨m1,e1⟩:=I.base.tbls b ps e
  obtain⟨m2,e2⟩:=tbls b _ e1
  exact⟨m1++m2,by rw[e2,Array.append_assoc]⟩
 ·obtain⟨m,hn,hl⟩:=I.loc
  refine⟨m,ns m hn,fun i x v e1 e2 e3=>?_⟩
  obtain⟨u,r,l⟩:=hl i x v e1 e2 e3
  refine⟨u,r,?_⟩
  rcases l with l | ⟨k,c,e,z⟩
  ·exact .inl l
  ·exact .inr ⟨k,c,e,cellK x c e _ z⟩
 ·obtain⟨v,z⟩:=I.cell x c e
  exact⟨v,cellK x c e v z⟩
 ·obtain⟨m,⟨o,_,_,ho,_⟩,_⟩:=I.loc
  exact free _ o (fun z=>(hch _ z).2.1 rfl) ho I.free
 ·obtain⟨v,o,ho,hd⟩:=I.cell x c e
  exact free c o (fun z=>(hch c z).2.2.1 x c e rfl) ho (I.freeC x c e)
 ·obtain⟨e,n,ne,nf,d⟩:=I.pin p hp
  have nch:p.1∉ch:=fun z=>(hch p.1 z).2.2.2 p hp rfl
  exact⟨keep p.1 p.2 ne nf nch e n,free p.1 p.2 nch e n,ne,nf,d⟩
theorem Inv.un{t':Nat}(I:Inv X pins σ H s)(u:Un X.fs [] H H' s.heap h')(hok:HOk X.prog X.w H' h'):Inv X pins σ H' { s with heap:=h',toks:=t' }:=by
 obtain⟨m,⟨o,es,ep,ho,r⟩,_⟩:=id I.loc
 obtain⟨sl,hL⟩:=u.any ho I.free (by simp)
 exact I.step (g':=s.gens) (d':=s.drawn) (ch:=[]) (fun _ z=>nomatch z) (fun b o _ hb _ e n=>u.keep b o e n hb (by simp)) (fun b o _ hb _ e n=>u.slot b o e n hb (by simp)) (fun b o _ e n=>u.free b o e n (by simp)) (fun b o _ e=>u.there b o e (by simp)) u.tups u.frzs u.tbls (fun m' hm=>by
  obtain⟨o',es',ep',ho',r'⟩:=hm
  rw[ho]at ho';cases ho'
  exact⟨_,es',ep',hL,r'⟩) hok I.bare
theorem Inv.call{g':Array GenState}{t':Nat}{d':Drawn}{ch:List Addr}(I:Inv X pins σ H s)(u:Un (frs X.stack) ch H H' s.heap h')(hok:HOk X.prog X.w H' h')(hg:AllBare g')
 (hch:∀b∈ch,(b∈X.ex∨X.s₀.heap.objs.size≤b)∧b≠X.env.locals∧(∀x c,X.env.cells.lookup x=some c→c≠b)∧∀p∈X.pn++pins,p.1≠b) :
 Inv X pins σ H' { s with heap:=h',gens:=g',drawn:=d',toks:=t' }:=by
 obtain⟨m,⟨o,es,ep,ho,r⟩,_⟩:=id I.loc
 obtain⟨sl,hL⟩:=u.any ho I.free fun z=>(hch _ z).2.1 rfl
 exact I.step (ch:=ch) hch (fun b o hL hb hc e n=>u.keep b o e n (fun z=>(qr (I.stkSub b z)).elim hL hb) hc) (fun b o _ _ hc e n=>u.any e n hc) (fun b o hc e n=>u.free b o e n hc) (fun b o hc e=>u.there b o e hc) u.tups u.frzs u.tbls (fun m' hm=>by
  obtain⟨o',es',ep',ho',r'⟩:=hm
  rw[ho]at ho';cases ho'
  exact⟨_,es',ep',hL,r'⟩) hok hg
theorem Inv.turned{t':Nat}{it:Addr}(I:Inv X pins σ H s)(k:∀b o,b≠it→s.heap.get? b=some o→h'.get? b=some o)(hn:H it=none)(hL:it≠X.env.locals)
 (h1:it∈X.ex∨X.s₀.heap.objs.size≤it) (h2:∀x c,X.env.cells.lookup x=some c→c≠it) (h3:∀p∈X.pn++pins,p.1≠it):Inv X pins σ H { s with heap:=h',toks:=t' }:=by
 have nit:∀b u,H b=some u→b≠it:=fun b u e z=>by rw[z,hn]at e;cases e
 refine I.step (g':=s.gens) (d':=s.drawn) (ch:=[it]) (fun b hb=>?_) (fun b o _ _ hc e _=>k b o (fun z=>hc (by simp[z])) e) (fun b o _ _ hc e _=>⟨o.slots,k b o (fun z=>hc (by simp[z])) e⟩) (fun _ _ _ _ n=>n)
  (fun b o hc e=>⟨o,k b o (fun z=>hc (by simp[z])) e⟩) (fun _ _ e=>e) (fun _ _ _ e=>e) (fun b ps e=>⟨#[],by rw[e];simp⟩) (fun m hm=>?_) (fun b u e=>?_) I.bare
 ·have e:b=it:=by simpa using hb
  subst e
  exact⟨h1,hL,h2,h3⟩
 ·obtain⟨o,es,ep,ho,r⟩:=hm
  exact⟨o,es,ep,k _ o (Ne.symm hL) ho,r⟩
 ·refine(I.hok b u e).stay (fun c v hc q=>k c v ?_ q) (fun _ q=>q) fun _ _ q=>q
  rcases hc with z | z
  ·rw[z];exact nit b u e
  ·exact nit c _ z
theorem Inv.tok(I:Inv X pins σ H s)(t:Nat):Inv X pins σ H { s with toks:=t }:=I.un (h':=s.heap) (t':=t) Un.refl I.hok
theorem Inv.kept{t':Nat}(I:Inv X pins σ H s)(k:∀b u,s.heap.get? b=some u→h'.get? b=some u):Inv X pins σ H { s with heap:=h',toks:=t' }:=I.un (Un.kept k) (I.hok.kept k)
theorem Inv.laid{a:Addr}{o:HO}{t':Nat}(I:Inv X pins σ H s)(k:∀b u,s.heap.get? b=some u→h'.get? b=some u)(hp:s.heap.objs.size≤a)(new:ObjOk X.prog X.w (upd H a o) h' a o) :
 Inv X pins σ (upd H a o) { s with heap:=h',toks:=t' }:=I.un (Un.laid k hp (I.hok.fresh hp)) (I.hok.laid k hp new)
theorem Inv.write{x e:Addr}{o:HO}{t':Nat}(I:Inv X pins σ H s)(mu:Mut (H x))(he:e=x∨H e=some (.own x))(k:∀b u,b≠e→s.heap.get? b=some u→h'.get? b=some u)(heo:∃u,h'.get? e=some u)
 (new:ObjOk X.prog X.w (upd H x o) h' x o):Inv X pins σ (upd H x o) { s with heap:=h',toks:=t' }:=I.un (Un.write mu he k heo) (I.hok.write mu he k heo new)
theorem Inv.pins_of{pins':List (Addr × Obj)}(I:Inv X pins σ H s)(h:∀p∈pins',s.heap.get? p.1=some p.2∧H p.1=none∧p.1≠X.env.locals∧p.1∉X.fs∧∀v,p.2.data≠.cell v):Inv X pins' σ H s:=
 ⟨I.ok,I.os,I.bare,I.base,I.loc,I.cell,I.free,I.freeC,fun p hp=>(qu hp).elim (fun z=>I.pin p (List.mem_append_left _ z)) (h p),I.hok,I.len⟩
theorem Ysn{N:List Str}(hN:N.Nodup){i j:Nat}{x:Str}(a:N[i]?=some x)(b:N[j]?=some x):i=j:=by
 obtain⟨h1,e1⟩:=qm a
 obtain⟨h2,e2⟩:=qm b
 exact(List.getElem_inj hN).mp (e1.trans e2.symm)
theorem Yok{M:Model}{A:Around}{E:Value→Shared→Prop}{i:Nat}{x:Str}{v:V}{u:Value}{Q:Unit→Shared→Prop}(I:Inv X pins σ H s)(hN:X.N.Nodup)(hi:X.N[i]?=some x)(hx:Loc X.env.scope x)(r:RelV v u)
 (h:∀s',Inv X pins (σ.set i (some v)) H s'→(∃a,Heap.SameBut a s.heap s'.heap∧(a=X.env.locals∨X.env.cells.lookup x=some a))→Q () s') (hf:X.fn x=true∨X.env.scope.names.lookup x=some .local:=by first | exact .inl rfl | exact .inr rfl | assumption):wpAny M A (storeName X.env x u) Q E s:=by
 obtain⟨m,hn,hl⟩:=id I.loc
 have hcls:(X.env.scope.kind==.class||(X.env.scope.kind==.module&&X.env.locals != X.env.globals))=false:=by rw[I.ok.kind];rfl
 have hiσ:i < σ.length:=by rw[I.len];exact(qm hi).1
 have cne:=I.cne
 have tracked:∀{a:Addr} {h':Heap},(∃o,s.heap.get? a=some o∧H a=none)→Heap.SameBut a s.heap h'→HOk X.prog X.w H h':=fun {a h'} ha hs b ob e=>by
  obtain⟨_,_,hfree⟩:=ha
  refine(I.hok b ob e).stay (fun c w' hc q=>(hs.2 c ?_).trans q) (fun _ q=>q) fun _ _ q=>q
  rintro rfl
  rcases hc with rfl | hc
  ·rw[hfree]at e;cases e
  ·rw[hfree]at hc;cases hc
 rcases hx with hk | hk
 ·refine wpAny_storeName_local hk hn (fun h' hn' hs=>?_) hcls
  obtain⟨oL,_,_,hoL,_⟩:=id hn
  refine h _ ⟨I.ok,I.os,I.bare,⟨fun b o e n hb hx=>?_,fun b o e n hb hx=>?_,I.base.free,fun b o e hx=>?_,I.base.tups,I.base.frzs,I.base.tbls⟩,⟨_,hn',fun j y v' e1 e2 e3=>?_⟩,fun y c e=>?_,I.free,I.freeC,fun p hp=>?_,tracked ⟨oL,hoL,I.free⟩ hs,by simpa using I.len⟩ ⟨_,hs,.inl rfl⟩
  ·exact(hs.2 b (ql (Qd (qk e) I.ok.above))).trans (I.base.keep b o e n hb hx)
  ·obtain⟨sl,e1⟩:=I.base.slot b o e n hb hx
   exact⟨sl,(hs.2 b (ql (Qd (qk e) I.ok.above))).trans e1⟩
  ·obtain⟨o',e1⟩:=I.base.there b o e hx
   exact⟨o',(hs.2 b (ql (Qd (qk e) I.ok.above))).trans e1⟩
  ·by_cases hj:j=i
   ·subst hj
    rw[hi]at e1;cases e1
    rw[List.getElem?_set_self hiσ]at e2
    cases e2
    exact⟨u,r,.inl ⟨hk,by simp⟩⟩
   ·rw[Qg (Ne.symm hj)]at e2
    obtain⟨u',r',q⟩:=hl j y v' e1 e2 e3
    refine⟨u',r',?_⟩
    rcases q with⟨k,e⟩ | ⟨k,c,e,z⟩
    ·refine .inl ⟨k,?_⟩
     have:y≠x:=fun e=>hj (Ysn hN e1 (e ▸ hi))
     simp[this,e]
    ·exact .inr ⟨k,c,e,z.sameBut hs (cne y c e)⟩
  ·obtain⟨w',z⟩:=I.cell y c e
   exact⟨w',z.sameBut hs (cne y c e)⟩
  ·obtain⟨e,n,ne,nf,d⟩:=I.pin p hp
   exact⟨(hs.2 p.1 ne).trans e,n,ne,nf,d⟩
 ·have hfn:X.fn x=true:=by
   rcases hf with z | z
   ·exact z
   ·rw[z]at hk;cases hk
  obtain⟨c,hc⟩:=I.ok.has x (.inl hk)
  obtain⟨w',z⟩:=I.cell x c hc
  refine wpAny_storeName_cell I.ok.kind hk hc z (fun h' hc' hs=>?_)
  obtain⟨oc,hoc,hocd⟩:=id z
  refine h { s with heap:=h' } ⟨I.ok,I.os,I.bare,⟨fun b o e n hb hx=>?_,fun b o e n hb hx=>?_,I.base.free,fun b o e hx=>?_,I.base.tups,I.base.frzs,I.base.tbls⟩,⟨m,hn.sameBut hs (Ne.symm (cne x c hc)),fun j y v' e1 e2 e3=>?_⟩,fun y c' e=>?_,I.free,I.freeC,fun p hp=>?_,tracked ⟨oc,hoc,I.freeC x c hc⟩ hs,by simpa using I.len⟩ ⟨c,hs,.inr hc⟩
  ·exact(hs.2 b (ql (Qd (qk e) (I.ok.cab x c hfn hc)))).trans (I.base.keep b o e n hb hx)
  ·obtain⟨sl,e1⟩:=I.base.slot b o e n hb hx
   exact⟨sl,(hs.2 b (ql (Qd (qk e) (I.ok.cab x c hfn hc)))).trans e1⟩
  ·obtain⟨o',e1⟩:=I.base.there b o e hx
   exact⟨o',(hs.2 b (ql (Qd (qk e) (I.ok.cab x c hfn hc)))).trans e1⟩
  ·by_cases hj:j=i
   ·subst hj
    rw[hi]at e1;cases e1
    rw[List.getElem?_set_self hiσ]at e2
    cases e2
    exact⟨u,r,.inr ⟨.inl hk,c,hc,hc'⟩⟩
   ·rw[Qg (Ne.symm hj)]at e2
    obtain⟨u',r',q⟩:=hl j y v' e1 e2 e3
    refine⟨u',r',?_⟩
    rcases q with q | ⟨k,c',e,z'⟩
    ·exact .inl q
    ·refine .inr ⟨k,c',e,z'.sameBut hs ?_⟩
     rintro rfl
     exact hj (Ysn hN e1 (I.ok.inj _ _ _ e hc ▸ hi))
  ·by_cases hcc:c'=c
   ·subst hcc;exact⟨_,hc'⟩
   ·obtain⟨w2,z2⟩:=I.cell y c' e
    exact⟨w2,z2.sameBut hs hcc⟩
  ·obtain⟨e,n,ne,nf,d⟩:=I.pin p hp
   refine⟨(hs.2 p.1 ?_).trans e,n,ne,nf,d⟩
   intro q
   rw[q,hoc]at e
   have q':oc=p.2:=Option.some.inj e
   exact d w' (by rw[←q'];exact hocd)
theorem Yso{M:Model}{A:Around}{E:Value→Shared→Prop}{i:Nat}{x:Str}{v:V}{u:Value}{Q:Unit→Shared→Prop}(I:Inv X pins σ H s)(hN:X.N.Nodup)(hi:X.N[i]?=some x)(hx:Loc X.env.scope x)(r:RelV v u)
 (h:∀s',Inv X pins (σ.set i (some v)) H s'→Q () s') (hf:X.fn x=true∨X.env.scope.names.lookup x=some .local:=by first | exact .inl rfl | exact .inr rfl | assumption):wpAny M A (storeName X.env x u) Q E s:=
 Yok I hN hi hx r (fun s' I' _=>h s' I') hf
theorem Inv.call'{s':Shared}{ch:List Addr}(I:Inv X pins σ H s)(ho:s'.os=s.os)(u:Un (frs X.stack) ch H H' s.heap s'.heap)(hok:HOk X.prog X.w H' s'.heap)(hg:AllBare s'.gens)
 (hch:∀b∈ch,(b∈X.ex∨X.s₀.heap.objs.size≤b)∧b≠X.env.locals∧(∀x c,X.env.cells.lookup x=some c→c≠b)∧∀p∈X.pn++pins,p.1≠b):Inv X pins σ H' s':=by
 obtain⟨h',g',d',t',o'⟩:=s'
 have e:o'=s.os:=ho
 subst e
 exact I.call (g':=g') (t':=t') (d':=d') u hok hg hch
end
noncomputable abbrev XK:=Value→Option Addr→Hp→Prop
noncomputable abbrev St:=List (Option V)
noncomputable abbrev VK:=V→Hp→Prop
noncomputable abbrev TE:=St→Hp→VK→Prop
noncomputable abbrev TT:=St→Hp→(Bool→Hp→Prop)→Prop
noncomputable abbrev TA:=St→Hp→(List V→Hp→Prop)→Prop
structure Ends where
 nx:St→Hp→Prop
 rt:VK
 bk:St→Hp→Prop:=fun _ _=>False
 ct:St→Hp→Prop:=fun _ _=>False
noncomputable abbrev TS:=Ends→St→Hp→Prop
def EP(X:Cx)(pins:List (Addr × Obj))(σ:St)(Q:VK)(u:Value)(s':Shared):Prop:=∃v H',Inv X pins σ H' s'∧RelV v u∧Q v H'
def TP(X:Cx)(pins:List (Addr × Obj))(σ:St)(Q:Bool→Hp→Prop)(b:Bool)(s':Shared):Prop:=∃H',Inv X pins σ H' s'∧Q b H'
def AP(X:Cx)(pins:List (Addr × Obj))(σ:St)(Q:List V→Hp→Prop)(us:List Value)(s':Shared):Prop:=∃vs H',Inv X pins σ H' s'∧Vals vs us∧Q vs H'
def SP(X:Cx)(pins:List (Addr × Obj))(D:Ends)(f:Flow)(s':Shared):Prop:=
 match f with
 | .next=>∃σ' H',Inv X pins σ' H' s'∧D.nx σ' H'
 | .brk=>∃σ' H',Inv X pins σ' H' s'∧D.bk σ' H'
 | .cont=>∃σ' H',Inv X pins σ' H' s'∧D.ct σ' H'
 | .ret u=>∃v σ' H',Inv X pins σ' H' s'∧RelV v u∧D.rt v H'
def PE(X:Cx)(e:Expr)(t:TE):Prop:=
 ∀(pins:List (Addr × Obj)) (s:Shared) (σ:St) (H:Hp) (Q:VK),Inv X pins σ H s→t σ H Q→wpAny (model X.prog X.w) X.A (eval e X.env) (EP X pins σ Q) X.xe s
def PT(X:Cx)(e:Expr)(t:TT):Prop:=
 ∀(pins:List (Addr × Obj)) (s:Shared) (σ:St) (H:Hp) (Q:Bool→Hp→Prop),Inv X pins σ H s→t σ H Q→wpAny (model X.prog X.w) X.A (isTrue e X.env (eval e X.env)) (TP X pins σ Q) X.xe s
def PW(X:Cx)(e:Expr)(t:TT):Prop:=
 ∀(whole:Sem Value) (pins:List (Addr × Obj)) (s:Shared) (σ:St) (H:Hp) (Q:Bool→Hp→Prop),Inv X pins σ H s→t σ H Q→wpAny (model X.prog X.w) X.A (isTrue e X.env whole) (TP X pins σ Q) X.xe s
theorem PW.pt{X:Cx}{e:Expr}{t:TT}(h:PW X e t):PT X e t:=h _
def PA(X:Cx)(es:List Expr)(t:TA):Prop:=
 ∀(pos:Pos) (pins:List (Addr × Obj)) (s:Shared) (σ:St) (H:Hp) (Q:List V→Hp→Prop),Inv X pins σ H s→t σ H Q→wpAny (model X.prog X.w) X.A (spliced (backTo pos (starEach es X.env))) (AP X pins σ Q) X.xe s
def PS(X:Cx)(st:Stmt)(t:TS):Prop:=
 ∀(pins:List (Addr × Obj)) (s:Shared) (σ:St) (H:Hp) (D:Ends),Inv X pins σ H s→t D σ H→wpAny (model X.prog X.w) X.A (exec st X.env) (SP X pins D) X.xe s
def PSs(X:Cx)(st:List Stmt)(t:TS):Prop:=
 ∀(pins:List (Addr × Obj)) (s:Shared) (σ:St) (H:Hp) (D:Ends),Inv X pins σ H s→t D σ H→wpAny (model X.prog X.w) X.A (execs st X.env) (SP X pins D) X.xe s
theorem thn{α:Type}{t:Sem α}{Q Q':α→Shared→Prop}{M:Model}{A:Around}{E:Value→Shared→Prop}{s:Shared}(h:wpAny M A t Q E s)(hQ:∀a s,Q a s→Q' a s):wpAny M A t Q' E s:=wpAny_mono h hQ fun _ _ x=>x
end L2
namespace L2
open PySem PySem.Spec PyProof.Rows
section
variable {X:Cx}
noncomputable def tVar(i:Nat):TE:=fun σ H Q=>∃v,σ[i]?=some (some v)∧Q v H
noncomputable def tC(v:V):TE:=fun _ H Q=>Q v H
theorem Yol{i:Nat}{x:Str}{pos:Pos}(hN:X.N[i]?=some x)(hv:Vis X.env.scope x)(hd:(x==("__debug__":Str))=false:=by decide)(hcd:(x==("__classdict__":Str))=false:=by decide):PE X (.Name x pos) (tVar i):=by
 intro pins s σ H Q I h
 obtain⟨v,e,h⟩:=h
 obtain⟨m,hn,hl⟩:=I.loc
 obtain⟨u,r,l⟩:=hl i x v hN e hv
 have fin:EP X pins σ Q u s:=⟨v,H,I,r,h⟩
 rcases l with⟨hk,hm⟩ | ⟨hk,c,hc,hcell⟩
 ·exact wpAny_Name (wpAny_loadName_local I.ok.kind hk hn hm fin) hd
 ·rcases hk with hk | hk
  ·exact wpAny_Name (wpAny_loadName_cell I.ok.kind hk hc hcell fin) hd
  ·exact wpAny_Name (wpAny_loadName_free I.ok.kind hk hc hcell fin hcd) hd
theorem y38{i j pos}:PE X (.Constant (.int i) j pos) (tC (.int i)):=fun _ _ _ H _ I h=>wpAny_Constant_int ⟨.int i,H,I.tok _,⟨_,rfl⟩,h⟩
theorem y64{b j pos}:PE X (.Constant (.bool b) j pos) (tC (.bl b)):=fun _ _ _ H _ I h=>Constant_bool ⟨.bl b,H,I,rfl,h⟩
theorem y39{j pos}:PE X (.Constant .none j pos) (tC .non):=fun _ _ _ H _ I h=>Constant_none ⟨.non,H,I,rfl,h⟩
theorem y0a{x j pos}:PE X (.Constant (.str x) j pos) (tC (.str x)):=fun _ _ _ H _ I h=>Calls.Constant_str ⟨.str x,H,I.tok _,⟨_,rfl⟩,h⟩
def Gl(X:Cx)(x:Str):Prop:=X.env.kindOf x=some .globalImplicit
theorem Yqw{E:Value→Shared→Prop}{pins:List (Addr × Obj)}{s:Shared}{σ:St}{H:Hp}{x:Str}{u:Value}{pos:Pos}{Q:Value→Shared→Prop}(I:Inv X pins σ H s)(hg:Gl X x)(hm:X.mg x=some u)(h:Q u s)
 (hd:(x==("__debug__":Str))=false:=by decide):wpAny (model X.prog X.w) X.A (eval (.Name x pos) X.env) Q E s:=
 Calls.Name_function_global I.ok.kind hg (Calls.loadGlobal_global (by rw[I.ok.glob];exact I.mod.glob.keeps I.bk) hm h) hd
theorem Yj1{E:Value→Shared→Prop}{pins:List (Addr × Obj)}{s:Shared}{σ:St}{H:Hp}{x:Str}{u:Value}{pos:Pos}{Q:Value→Shared→Prop}(I:Inv X pins σ H s)(hg:Gl X x)(hm:X.mg x=none)(hv:bootBuiltins x=some u)(h:Q u s)
 (hn:x≠"__name__":=by decide) (hd:(x==("__debug__":Str))=false:=by decide):wpAny (model X.prog X.w) X.A (eval (.Name x pos) X.env) Q E s:=by
 obtain⟨mb,h1,h2⟩:=I.mod.blt
 exact Calls.Name_function_global I.ok.kind hg (Calls.loadGlobal_builtin (by rw[I.ok.glob];exact I.mod.glob.keeps I.bk) hm (by rw[I.ok.blt];exact h1.keeps I.bk) ((h2 x hn).trans hv) h) hd
theorem Yuz{x:Str}{v:V}{u:Value}{pos:Pos}(hg:Gl X x)(hm:X.mg x=some u)(r:RelV v u)(hd:(x==("__debug__":Str))=false:=by decide):PE X (.Name x pos) (tC v):=
 fun _ _ _ H _ I h=>Yqw I hg hm ⟨v,H,I,r,h⟩ hd
theorem y1d{x:Str}{v:V}{u:Value}{pos:Pos}(hg:Gl X x)(hm:X.mg x=none)(hv:bootBuiltins x=some u)(r:RelV v u)(hn:x≠"__name__":=by decide)(hd:(x==("__debug__":Str))=false:=by decide):PE X (.Name x pos) (tC v):=
 fun _ _ _ H _ I h=>Yj1 I hg hm hv ⟨v,H,I,r,h⟩ hn hd
variable {a b:Expr} {ta tb:TE} {pos:Pos}
variable {tA tB':TT} {rest:List Expr}
noncomputable def tAnd(t u:TT):TT:=fun σ H Q=>t σ H fun c H1=>if c=true then u σ H1 Q else Q false H1
noncomputable def tOr(t u:TT):TT:=fun σ H Q=>t σ H fun c H1=>if c=true then Q true H1 else u σ H1 Q
noncomputable def tNot(t:TT):TT:=fun σ H Q=>t σ H fun c H1=>Q (!c) H1
theorem y1e(ha:PT X a tA):PW X (.BoolOp .And [a] pos) tA:=by
 intro wh pins s σ H Q I h
 refine isTrue_and (thn (ha pins s σ H Q I h) fun c s1 e=>?_)
 cases c with
 | true=>exact isTrue_and_nil e
 | false=>exact e
theorem y4a(ha:PT X a tA):PW X (.BoolOp .Or [a] pos) tA:=by
 intro wh pins s σ H Q I h
 refine isTrue_or (thn (ha pins s σ H Q I h) fun c s1 e=>?_)
 cases c with
 | false=>exact isTrue_or_nil e
 | true=>exact e
theorem y4b(ha:PT X a tA)(hb:PW X (.BoolOp .And (b::rest) pos) tB'):PW X (.BoolOp .And (a::b::rest) pos) (tAnd tA tB'):=by
 intro wh pins s σ H Q I h
 refine isTrue_and (thn (ha pins s σ H _ I h) fun c s1 hx_=>?_)
 obtain⟨H1,I1,q1⟩:=hx_
 cases c with
 | true=>exact hb wh pins s1 σ H1 Q I1 q1
 | false=>exact⟨H1,I1,q1⟩
theorem y65(ha:PT X a tA)(hb:PW X (.BoolOp .Or (b::rest) pos) tB'):PW X (.BoolOp .Or (a::b::rest) pos) (tOr tA tB'):=by
 intro wh pins s σ H Q I h
 refine isTrue_or (thn (ha pins s σ H _ I h) fun c s1 hx_=>?_)
 obtain⟨H1,I1,q1⟩:=hx_
 cases c with
 | true=>exact⟨H1,I1,q1⟩
 | false=>exact hb wh pins s1 σ H1 Q I1 q1
theorem y4c(ha:PT X a tA):PT X (.UnaryOp .Not a pos) (tNot tA):=by
 intro pins s σ H Q I h
 exact isTrue_not (ha pins s σ H (fun c H1=>Q (!c) H1) I h)
noncomputable def y66(ta tb:TE):TE:=fun σ H Q=>ta σ H fun x H1=>∃c,x=.bl c∧if c=true then tb σ H1 Q else Q (.bl false) H1
noncomputable def tOrV(ta tb:TE):TE:=fun σ H Q=>ta σ H fun x H1=>∃c,x=.bl c∧if c=true then Q (.bl true) H1 else tb σ H1 Q
noncomputable def y67(ta:TE):TE:=fun σ H Q=>ta σ H fun x H1=>∃c,x=.bl c∧Q (.bl (!c)) H1
theorem y0b{op}{t:TE}(h:PE X a t):PE X (.BoolOp op [a] pos) t:=fun pins s σ H Q I hw=>BoolOp_one (h pins s σ H Q I hw)
theorem y4d(ha:PE X a ta)(hb:PE X (.BoolOp .And (b::rest) pos) tb):PE X (.BoolOp .And (a::b::rest) pos) (y66 ta tb):=by
 intro pins s σ H Q I h
 refine BoolOp_and (thn (ha pins s σ H _ I h) fun v s1 hx_=>?_)
 obtain⟨x,H1,I1,r1,q1⟩:=hx_
 obtain⟨c,rfl,q1⟩:=q1
 cases r1
 refine wpAny_truthy_bool ?_
 cases c with
 | true=>exact hb pins s1 σ H1 Q I1 q1
 | false=>exact⟨.bl false,H1,I1,rfl,q1⟩
theorem y68(ha:PE X a ta)(hb:PE X (.BoolOp .Or (b::rest) pos) tb):PE X (.BoolOp .Or (a::b::rest) pos) (tOrV ta tb):=by
 intro pins s σ H Q I h
 refine BoolOp_or (thn (ha pins s σ H _ I h) fun v s1 hx_=>?_)
 obtain⟨x,H1,I1,r1,q1⟩:=hx_
 obtain⟨c,rfl,q1⟩:=q1
 cases r1
 refine wpAny_truthy_bool ?_
 cases c with
 | false=>exact hb pins s1 σ H1 Q I1 q1
 | true=>exact⟨.bl true,H1,I1,rfl,q1⟩
theorem y4e(ha:PE X a ta):PE X (.UnaryOp .Not a pos) (y67 ta):=by
 intro pins s σ H Q I h
 refine UnaryOp_ (thn (ha pins s σ H _ I h) fun v s1 hx_=>?_)
 obtain⟨x,H1,I1,r1,q1⟩:=hx_
 obtain⟨c,rfl,q1⟩:=q1
 cases r1
 exact not_of (wpAny_truthy_bool ⟨.bl (!c),H1,I1,rfl,q1⟩)
noncomputable def tIf(t:TT)(ta tb:TE):TE:=fun σ H Q=>t σ H fun c H1=>if c=true then ta σ H1 Q else tb σ H1 Q
theorem Yyd{c:Expr}(hc:PT X c tA)(ha:PE X a ta)(hb:PE X b tb):PE X (.IfExp c a b pos) (tIf tA ta tb):=by
 intro pins s σ H Q I h
 refine wpAny_IfExp (thn (hc pins s σ H _ I h) fun d s1 hx_=>?_)
 obtain⟨H1,I1,q1⟩:=hx_
 cases d with
 | true=>exact ha pins s1 σ H1 Q I1 q1
 | false=>exact hb pins s1 σ H1 Q I1 q1
end
end L2
namespace L2
open PySem PySem.Spec PyProof.Rows
def SqL(K:W.Frag)(H:Hp)(a:Addr)(xs:List V):Prop:=
 Rd H a (.lst xs)∨
  ∃(o:Obj) (its:Array Value) (n:Nat),K.lookup a=some o∧o.cls=.type "list"∧o.dict=none∧o.data=.seq its n∧its.size≤sizeLine∧Vals xs its.toList
def SqT(K:W.Frag)(H:Hp)(a:Addr)(xs:List V):Prop:=
 Rd H a (.tup xs)∨
  ∃(o:Obj) (its:Array Value) (n:Nat),K.lookup a=some o∧o.cls=.type "tuple"∧o.data=.seq its n∧its.size≤sizeLine∧Vals xs its.toList
noncomputable def absV:Value→Option V
 | .none=>some .non
 | .bool b=>some (.bl b)
 | .int i _=>some (.int i)
 | .str x _=>some (.str x)
 | .bytes b _=>some (.byt b)
 | .float b _=>some (.flt b)
 | .ref a=>some (.ref a)
 | .type n=>some (.ty n)
 | _=>none
theorem RelV.abs{x:V}{u:Value}(r:RelV x u):absV u=some x:=by
 cases x with
 | non=>cases r;rfl
 | bl _=>cases r;rfl
 | int _=>obtain⟨t,rfl⟩:=r;rfl
 | str _=>obtain⟨t,rfl⟩:=r;rfl
 | byt _=>obtain⟨t,rfl⟩:=r;rfl
 | flt _=>obtain⟨t,rfl⟩:=r;rfl
 | ref _=>cases r;rfl
 | ty _=>cases r;rfl
theorem RelV.inj{x y:V}{u:Value}(r:RelV x u)(q:RelV y u):x=y:=Option.some.inj (r.abs.symm.trans q.abs)
theorem Vals.inj:∀{xs ys:List V} {us:List Value},Vals xs us→Vals ys us→xs=ys
 :=by
  intro xs ys us h
  induction h generalizing ys with
  | nil=>
    intro h2
    cases h2
    rfl
  | cons r t ih=>
    intro h2
    cases h2 with
    | cons r' t'=>rw[r.inj r',ih t']
section
variable {X:Cx} {pins:List (Addr × Obj)} {σ:St} {H:Hp} {s:Shared} {a:Addr} {xs ys:List V}
theorem SqL.of{K:W.Frag}(h:H a=some (.lst xs)):SqL K H a xs:=.inl (.inl h)
theorem SqT.of{K:W.Frag}(h:H a=some (.tup xs)):SqT K H a xs:=.inl (.inl h)
theorem Inv.list(I:Inv X pins σ H s)(h:SqL X.K H a xs):∃its:List Value,Vals xs its∧PlainL s.heap a its.toArray∧xs.length≤sizeLine:=by
 rcases h with h | ⟨o,its,n,hk,hc,hd,hs,hz,r⟩
 ·obtain⟨z,its,n,r,e⟩:=h.ok I.hok
  exact⟨its,r,⟨_,n,e,rfl,rfl,rfl⟩,z⟩
 ·refine⟨its.toList,r,⟨o,n,I.kIn a o hk,hc,hd,by simpa using hs⟩,?_⟩
  have e:=r.length
  simp only[qi]at e
  lia
theorem Inv.tuple(I:Inv X pins σ H s)(h:SqT X.K H a xs):∃its:List Value,Vals xs its∧IsTup s.heap a its.toArray∧xs.length≤sizeLine:=by
 rcases h with h | ⟨o,its,n,hk,hc,hs,hz,r⟩
 ·obtain⟨z,its,r,p⟩:=h.ok I.hok
  exact⟨its,r,p,z⟩
 ·refine⟨its.toList,r,⟨o,I.kIn a o hk,hc,n,by simpa using hs⟩,?_⟩
  have e:=r.length
  simp only[qi]at e
  lia
theorem Inv.list_inj(I:Inv X pins σ H s)(h:SqL X.K H a xs)(h':SqL X.K H a ys):xs=ys:=by
 obtain⟨its,r,⟨o,n,e,_,_,d⟩,_⟩:=I.list h
 obtain⟨its',r',⟨o',n',e',_,_,d'⟩,_⟩:=I.list h'
 rw[e]at e';cases e'
 rw[d]at d'
 injection d' with d1 _
 have:its=its':=by simpa using congrArg Array.toList d1
 subst this
 exact r.inj r'
theorem Inv.tuple_inj(I:Inv X pins σ H s)(h:SqT X.K H a xs)(h':SqT X.K H a ys):xs=ys:=by
 obtain⟨its,r,⟨o,e,_,n,d⟩,_⟩:=I.tuple h
 obtain⟨its',r',⟨o',e',_,n',d'⟩,_⟩:=I.tuple h'
 rw[e]at e';cases e'
 rw[d]at d'
 injection d' with d1 _
 have:its=its':=by simpa using congrArg Array.toList d1
 subst this
 exact r.inj r'
end
noncomputable abbrev Cx.wish(X:Cx)(E:Value→Shared→Prop):Cx:={ X with xe:=E }
noncomputable abbrev Cx.nox(X:Cx):Cx:=X.wish fun _ _=>False
theorem Cx.Ok.wish{X:Cx}(ok:X.Ok)(E:Value→Shared→Prop):(X.wish E).Ok:=
 ⟨ok.mod,ok.kind,ok.glob,ok.blt,ok.above,ok.inj,ok.has,ok.cab,ok.hd,ok.frames,ok.stk,ok.exf,ok.bs,ok.bsz,ok.noex,ok.exfs,ok.funs,ok.frf⟩
theorem Cx.Ok.unwish{X:Cx}{E:Value→Shared→Prop}(ok:(X.wish E).Ok):X.Ok:=
 ⟨ok.mod,ok.kind,ok.glob,ok.blt,ok.above,ok.inj,ok.has,ok.cab,ok.hd,ok.frames,ok.stk,ok.exf,ok.bs,ok.bsz,ok.noex,ok.exfs,ok.funs,ok.frf⟩
section
variable {X:Cx} {pins:List (Addr × Obj)} {σ:St} {H:Hp} {s:Shared} {E:Value→Shared→Prop}
theorem Inv.wish(I:Inv X pins σ H s)(E:Value→Shared→Prop):Inv (X.wish E) pins σ H s:=⟨I.ok.wish E,I.os,I.bare,I.base,I.loc,I.cell,I.free,I.freeC,I.pin,I.hok,I.len⟩
theorem Inv.unwish(I:Inv (X.wish E) pins σ H s):Inv X pins σ H s:=⟨I.ok.unwish,I.os,I.bare,I.base,I.loc,I.cell,I.free,I.freeC,I.pin,I.hok,I.len⟩
theorem SP.unwish{D:Ends}{f:Flow}{s':Shared}(h:SP (X.wish E) pins D f s'):SP X pins D f s':=by
 cases f with
 | next=>obtain⟨σ',H',I,q⟩:=h;exact⟨σ',H',I.unwish,q⟩
 | brk=>obtain⟨σ',H',I,q⟩:=h;exact⟨σ',H',I.unwish,q⟩
 | cont=>obtain⟨σ',H',I,q⟩:=h;exact⟨σ',H',I.unwish,q⟩
 | ret u=>obtain⟨v,σ',H',I,r,q⟩:=h;exact⟨v,σ',H',I.unwish,r,q⟩
theorem PSs.nox{st:List Stmt}{t:TS}(h:PSs X.nox st t):PSs X st t:=fun pins s σ H D I hw=>
 wpAny_mono (h pins s σ H D (I.wish _) hw) (fun _ _ q=>q.unwish) fun _ _ z=>False.elim z
end
section
variable {X:Cx} {st:Stmt} {rest:List Stmt} {t u:TS} {e:Expr} {te:TE} {pos:Pos}
noncomputable def y69:TS:=fun D σ H=>D.nx σ H
noncomputable def tSeq(t u:TS):TS:=fun D σ H=>t { D with nx:=u D } σ H
theorem y1f:PSs X [] y69:=fun _ _ σ H _ I h=>wpAny_execs_nil ⟨σ,H,I,h⟩
theorem Yye(h1:PS X st t)(h2:PSs X rest u):PSs X (st::rest) (tSeq t u):=by
 intro pins s σ H D I h
 refine wpAny_execs_cons (thn (h1 pins s σ H { D with nx:=u D } I h) fun f s1 q=>?_)
 cases f with
 | next=>
   obtain⟨σ',H',I',q⟩:=q
   exact h2 pins s1 σ' H' D I' q
 | ret v=>exact q
 | brk=>exact q
 | cont=>exact q
theorem y1g(h1:PS X st t):PSs X [st] t:=by
 intro pins s σ H D I h
 refine wpAny_execs_cons (thn (h1 pins s σ H D I h) fun f s1 q=>?_)
 cases f with
 | next=>exact wpAny_execs_nil q
 | ret v=>exact q
 | brk=>exact q
 | cont=>exact q
theorem Inv.quiet{pins:List (Addr × Obj)}{σ:St}{H:Hp}{s:Shared}(I:Inv X pins σ H s):interactive X.env=false:=by simp[interactive,I.ok.kind]
noncomputable def y7a(te:TE):TS:=fun D σ H=>te σ H fun _ H1=>D.nx σ H1
theorem Ymv(he:PE X e te)(hs:swapsWith e none pos.line X.env=pure false:=by rfl):PS X (.Expr e pos) (y7a te):=by
 intro pins s σ H D I h
 refine wpAny_Expr_any (thn (he pins s σ H _ I h) fun v s1 hx_=>?_) I.quiet hs
 obtain⟨x,H1,I1,r1,q1⟩:=hx_
 exact⟨σ,H1,I1,q1⟩
noncomputable def tRet(te:TE):TS:=fun D σ H=>te σ H D.rt
theorem y4f(he:PE X e te):PS X (.Return (some e) pos) (tRet te):=by
 intro pins s σ H D I h
 refine wpAny_Return_some (thn (he pins s σ H _ I h) fun v s1 hx_=>?_)
 obtain⟨x,H1,I1,r1,q1⟩:=hx_
 exact⟨x,σ,H1,I1,r1,q1⟩
noncomputable def tIfS(c:TT)(t u:TS):TS:=fun D σ H=>c σ H fun b H1=>if b=true then t D σ H1 else u D σ H1
theorem y7b{c:Expr}{a b:List Stmt}{tc:TT}(hc:PT X c tc)(ha:PSs X a t)(hb:PSs X b u):PS X (.If c a b pos) (tIfS tc t u):=by
 intro pins s σ H D I h
 refine wpAny_If (thn (hc pins s σ H _ I h) fun d s1 hx_=>?_)
 obtain⟨H1,I1,q1⟩:=hx_
 cases d with
 | true=>exact ha pins s1 σ H1 D I1 q1
 | false=>exact hb pins s1 σ H1 D I1 q1
end
noncomputable abbrev TG:=V→St→Hp→(St→Hp→Prop)→Prop
noncomputable abbrev TGs:=List V→St→Hp→(St→Hp→Prop)→Prop
def PG(X:Cx)(target:Expr)(t:TG):Prop:=
 ∀(pins:List (Addr × Obj)) (s:Shared) (σ:St) (H:Hp) (v:V) (u:Value) (Q:St→Hp→Prop),Inv X pins σ H s→RelV v u→t v σ H Q→
  wpAny (model X.prog X.w) X.A (assign target X.env u) (fun _ s'=>∃σ' H',Inv X pins σ' H' s'∧Q σ' H') X.xe s
def PGs(X:Cx)(ts:List Expr)(t:TGs):Prop:=
 ∀(pins:List (Addr × Obj)) (s:Shared) (σ:St) (H:Hp) (vs:List V) (us:List Value) (Q:St→Hp→Prop),Inv X pins σ H s→Vals vs us→t vs σ H Q→
  wpAny (model X.prog X.w) X.A (assignInOrder ((assignEach ts X.env).map (·.2)) us) (fun _ s'=>∃σ' H',Inv X pins σ' H' s'∧Q σ' H') X.xe s
section
variable {X:Cx} {pos:Pos}
noncomputable def Yts(i:Nat):TG:=fun v σ H Q=>Q (σ.set i (some v)) H
theorem Yqx{i:Nat}{x:Str}(hN:X.N.Nodup)(hi:X.N[i]?=some x)(hx:Loc X.env.scope x)(hf:X.fn x=true∨X.env.scope.names.lookup x=some .local:=by first | exact .inl rfl | exact .inr rfl | assumption):PG X (.Name x pos) (Yts i):=by
 intro pins s σ H v u Q I r h
 exact wpAny_assign_Name (Yso I hN hi hx r (fun s' I'=>⟨_,H,I',h⟩) hf)
noncomputable def gNil:TGs:=fun vs σ H Q=>vs=[]∧Q σ H
noncomputable def y7c(t:TG)(u:TGs):TGs:=fun vs σ H Q=>∃v r,vs=v::r∧t v σ H fun σ' H'=>u r σ' H' Q
theorem y1h:PGs X [] gNil:=by
 intro pins s σ H vs us Q I r h
 obtain⟨e,h⟩:=h
 subst e
 cases r
 exact assignInOrder_nil ⟨σ,H,I,h⟩
theorem Ysp{e:Expr}{es:List Expr}{t:TG}{u:TGs}(h1:PG X e t)(h2:PGs X es u)
 (hs:(assignEach (e::es) X.env).map (·.2)=assign e X.env::(assignEach es X.env).map (·.2):=by rfl):PGs X (e::es) (y7c t u):=by
 intro pins s σ H vs us Q I r h
 obtain⟨v,vr,e1,h⟩:=h
 subst e1
 cases r with
 | cons r rr=>
   rw[hs]
   refine assignInOrder_cons (thn (h1 pins s σ H _ _ _ I r h) fun _ s1 hx_=>?_)
   obtain⟨σ1,H1,I1,q1⟩:=hx_
   exact h2 pins s1 σ1 H1 _ _ Q I1 rr q1
noncomputable def gTup(K:W.Frag)(n:Nat)(t:TGs):TG:=fun v σ H Q=>∃a xs,v=.ref a∧SqT K H a xs∧xs.length=n∧t xs σ H Q
theorem y4g{es:List Expr}{k:Nat}{t:TGs}{n:Nat}(hc:X.calm=true)(h:PGs X es t)
 (hn:(assignEach es X.env).length=n:=by rfl) (hst:(assignEach es X.env).findIdx? (·.1)=none:=by rfl):PG X (.Tuple es k pos) (gTup X.K n t):=by
 intro pins s σ H v u Q I r hw
 obtain⟨a,xs,e1,hq,hl,hw⟩:=hw
 subst e1
 cases r
 obtain⟨its,rv,ht,hz⟩:=I.tuple hq
 refine assign_Tuple_tuple (I.ok.hd hc) ht (by simp[hn,←hl,rv.length]) hst fun h' hx=>?_
 have I1:Inv X pins σ H { s with heap:=h' }:=I.kept (t':=s.toks) fun b o e=>hx b o (ql (qk e)) e
 exact h pins _ σ H xs _ Q I1 (by simpa using rv) hw
noncomputable def tAsg(te:TE)(g:TG):TS:=fun D σ H=>te σ H fun x H1=>g x σ H1 D.nx
theorem y0c{i:Nat}{x:Str}{e:Expr}{te:TE}{pos':Pos}(hN:X.N.Nodup)(hi:X.N[i]?=some x)(hx:Loc X.env.scope x)(he:PE X e te)(hs:swapsWith e (some (.Name x pos')) pos.line X.env=pure false:=by rfl)(hf:X.fn x=true∨X.env.scope.names.lookup x=some .local:=by first | exact .inl rfl | exact .inr rfl | assumption) :
 PS X (.Assign [.Name x pos'] e pos) (tAsg te (Yts i)):=by
 intro pins s σ H D I h
 refine wpAny_Assign_Name (thn (he pins s σ H _ I h) fun v s1 hx_=>?_) hs
 obtain⟨y,H1,I1,r1,q1⟩:=hx_
 exact Yso I1 hN hi hx r1 (fun s2 I2=>⟨_,H1,I2,q1⟩) hf
end
structure It where
 go:Nat→Hp→Prop
 yld:Nat→Hp→V→Hp→Prop
 stop:Nat→Hp→Prop
def FpOk(X:Cx)(pins:List (Addr × Obj))(H:Hp)(b:Addr):Prop:=
 H b=none∧b≠X.env.locals∧b∉X.fs∧(b∈X.ex∨X.s₀.heap.objs.size≤b)∧(∀x c,X.env.cells.lookup x=some c→c≠b)∧∀p∈X.pn++pins,p.1≠b
theorem Inv.fpOk{X:Cx}{pins:List (Addr × Obj)}{σ:St}{H H':Hp}{s:Shared}{b:Addr}(I:Inv X pins σ H s)(hb:s.heap.objs.size≤b)(hn:H' b=none):FpOk X pins H' b:=by
 refine⟨hn,Nat.ne_of_gt (Qd I.lt hb),I.nofs hb,.inr (Nat.le_trans I.sz hb),fun x c e z=>?_,fun p hp z=>?_⟩
 ·obtain⟨v,q⟩:=I.cell x c e
  exact absurd (Qd q.lt (by rw[z];exact hb)) (Qf _)
 ·exact absurd (Qd (qk (I.pin p hp).1) (by rw[z];exact hb)) (Qf _)
structure Turn(P:Program)(w:World)(K:W.Frag)(tg:Expr)(J:It)(fp:List Addr)(it:Addr)(tn:Nat→Heap→Prop):Prop where
 mem:it∈fp
 obj:∀i h,tn i h→∀b∈fp,∃o,h.get? b=some o∧∀v,o.data≠.cell v
 keep:∀i h h',tn i h→(∀b∈fp,∀o,h.get? b=some o→h'.get? b=some o)→tn i h'
 item:∀(X:Cx),X.prog=P→X.w=w→X.K=K→X.calm=true→∀(i:Nat) (pins:List (Addr × Obj)) (s:Shared) (σ:St) (H:Hp) (E:Value→Shared→Prop),Inv X pins σ H s→(∀b∈fp,FpOk X pins H b)→tn i s.heap→J.go i H→
  wpAny (model P w) X.A (pyNext (.ref it)) (fun r s1=>∃u,r=some u∧
   wpAny (model P w) X.A (letOwnedTupleGo tg (.ref it) u) (fun _ s2=>∃x H',Inv X pins σ H' s2∧RelV x u∧J.yld i H x H'∧tn (i+1) s2.heap∧∀b∈fp,H' b=none) E s1) E s
 done:∀(X:Cx),X.prog=P→X.w=w→X.K=K→X.calm=true→∀(i:Nat) (pins:List (Addr × Obj)) (s:Shared) (σ:St) (H:Hp) (E:Value→Shared→Prop),Inv X pins σ H s→(∀b∈fp,FpOk X pins H b)→tn i s.heap→J.stop i H→
  wpAny (model P w) X.A (pyNext (.ref it)) (fun r s1=>r=none∧Inv X pins σ H s1) E s
 self:∀(A:Around) (i:Nat) (s:Shared) (Q:Value→Shared→Prop) (E:Value→Shared→Prop),tn i s.heap→Q (.ref it) s→wpAny (model P w) A (pyIter (.ref it)) Q E s
noncomputable abbrev TI:=St→Hp→(It→Hp→Prop)→Prop
def PIE(X:Cx)(pins:List (Addr × Obj))(σ:St)(tg:Expr)(R:It→Hp→Prop)(itv:Value)(s2:Shared):Prop:=
 ∃(it:Addr) (fp:List Addr) (tn:Nat→Heap→Prop) (J:It) (H':Hp),itv=.ref it∧Inv X pins σ H' s2∧Turn X.prog X.w X.K tg J fp it tn∧tn 0 s2.heap∧(∀b∈fp,FpOk X pins H' b)∧R J H'
def PI(X:Cx)(tg iter:Expr)(wi:TI):Prop:=
 ∀(pins:List (Addr × Obj)) (s:Shared) (σ:St) (H:Hp) (R:It→Hp→Prop),Inv X pins σ H s→wi σ H R→
  wpAny (model X.prog X.w) X.A (eval iter X.env) (fun v s1=>wpAny (model X.prog X.w) X.A (pyIter v) (PIE X pins σ tg R) X.xe s1) X.xe s
theorem y1i{M:Model}{A:Around}{E:Value→Shared→Prop}{s:Shared}{tg:Expr}{it:Addr}{u:Value}{o:Obj}{n:String}{vs:Array Value}{Q:Unit→Shared→Prop}(ho:s.heap.get? it=some o)(hc:o.cls=.type n)(hd:o.data=.fields vs)
 (hn:["enumerate","zip","dict_itemiterator","dict_reverseitemiterator","odict_iterator","itertools.zip_longest","itertools.pairwise"].contains n=false) (hQ:Q () s):wpAny M A (letOwnedTupleGo tg (.ref it) u) Q E s:=by
 unfold letOwnedTupleGo
 cases tg<;>first
  | exact wpAny_pure hQ
  | (cases u<;>first
   | exact wpAny_pure hQ
   | (refine wpAny_bind (wpAny_load ho ?_)
      rw[hc,hd]
      show wpAny M A (if (["enumerate","zip","dict_itemiterator","dict_reverseitemiterator","odict_iterator","itertools.zip_longest","itertools.pairwise"].contains n&&vs[0]?==some (rawInt _))=true then _ else _) Q E s
      rw[if_neg (by intro h;rw[hn,Bool.false_and]at h;cases h)]
      exact wpAny_pure hQ))
noncomputable def Itl(K:W.Frag)(a:Addr):It:=
 ⟨fun i H=>∃xs x,SqL K H a xs∧xs[i]?=some x,fun i H x H'=>H'=H∧∀xs,SqL K H a xs→xs[i]?=some x,fun i H=>∃xs,SqL K H a xs∧xs.length≤i⟩
noncomputable def Itt(K:W.Frag)(a:Addr):It:=
 ⟨fun i H=>∃xs x,SqT K H a xs∧xs[i]?=some x,fun i H x H'=>H'=H∧∀xs,SqT K H a xs→xs[i]?=some x,fun i H=>∃xs,SqT K H a xs∧xs.length≤i⟩
noncomputable def Itr(lo:Int)(n:Nat):It:=⟨fun i _=>i < n,fun i H x H'=>H'=H∧x=.int (lo+i),fun i _=>n≤i⟩
theorem Yu0{P:Program}{w:World}{K:W.Frag}{tg:Expr}(a it:Addr):Turn P w K tg (Itl K a) [it] it (fun i h=>h.IsListIter it a i) where
 mem:=by simp
 obj:=fun i h st b hb=>by
  have e:b=it:=by simpa using hb
  subst e
  obtain⟨o,e,c,d⟩:=st
  exact⟨o,e,fun v z=>by rw[d]at z;cases z⟩
 keep:=fun i h h' st k=>st.at fun o e=>k it (by simp) o e
 item:=by
  intro X hP hw hK hc i pins s σ H E I hf st hg
  subst hP hw hK
  obtain⟨xs,x,hq,hx⟩:=hg
  obtain⟨its,rv,p,hz⟩:=I.list hq
  obtain⟨u,hu,ru⟩:=rv.get hx
  obtain⟨f0,f1,f2,f3,f4,f5⟩:=hf it (by simp)
  refine wpAny_pyNext_list_item st p.isList (x:=u) (by simpa using hu) fun h' st' sb=>?_
  have I1:Inv X pins σ H { s with heap:=h' }:=I.turned (t':=s.toks) (fun b o hb e=>(sb.2 b hb).trans e) f0 f1 f3 f4 f5
  obtain⟨o,e,c,d⟩:=id st'
  exact⟨u,rfl,y1i (s:={ s with heap:=h' }) e c d (by decide) ⟨x,H,I1,ru,⟨rfl,fun ys hy=>by rw[I.list_inj hy hq];exact hx⟩,st',fun b hb=>(hf b hb).1⟩⟩
 done:=by
  intro X hP hw hK hc i pins s σ H E I hf st hg
  subst hP hw hK
  obtain⟨xs,hq,hx⟩:=hg
  obtain⟨its,rv,p,hz⟩:=I.list hq
  obtain⟨f0,f1,f2,f3,f4,f5⟩:=hf it (by simp)
  have hl:=rv.length
  exact wpAny_pyNext_list_end (I.ok.hd hc) st p.isList (by simp;lia) fun h' eb=>⟨rfl,I.turned (t':=s.toks) (fun b o hb e=>eb b o hb e) f0 f1 f3 f4 f5⟩
 self:=fun _ _ _ _ _ st h=>wpAny_pyIter_listiter st h
theorem Ytt{P:Program}{w:World}{K:W.Frag}{tg:Expr}(a it:Addr):Turn P w K tg (Itt K a) [it] it (fun i h=>h.IsTupleIter it a i) where
 mem:=by simp
 obj:=fun i h st b hb=>by
  have e:b=it:=by simpa using hb
  subst e
  obtain⟨o,e,c,d⟩:=st
  exact⟨o,e,fun v z=>by rw[d]at z;cases z⟩
 keep:=fun i h h' st k=>st.at fun o e=>k it (by simp) o e
 item:=by
  intro X hP hw hK hc i pins s σ H E I hf st hg
  subst hP hw hK
  obtain⟨xs,x,hq,hx⟩:=hg
  obtain⟨its,rv,p,hz⟩:=I.tuple hq
  obtain⟨u,hu,ru⟩:=rv.get hx
  obtain⟨f0,f1,f2,f3,f4,f5⟩:=hf it (by simp)
  refine wpAny_pyNext_tuple_item st (show s.heap.IsTuple a its.toArray from p) (x:=u) (by simpa using hu) fun h' st' sb=>?_
  have I1:Inv X pins σ H { s with heap:=h' }:=I.turned (t':=s.toks) (fun b o hb e=>(sb.2 b hb).trans e) f0 f1 f3 f4 f5
  obtain⟨o,e,c,d⟩:=id st'
  exact⟨u,rfl,y1i (s:={ s with heap:=h' }) e c d (by decide) ⟨x,H,I1,ru,⟨rfl,fun ys hy=>by rw[I.tuple_inj hy hq];exact hx⟩,st',fun b hb=>(hf b hb).1⟩⟩
 done:=by
  intro X hP hw hK hc i pins s σ H E I hf st hg
  subst hP hw hK
  obtain⟨xs,hq,hx⟩:=hg
  obtain⟨its,rv,p,hz⟩:=I.tuple hq
  obtain⟨f0,f1,f2,f3,f4,f5⟩:=hf it (by simp)
  have hl:=rv.length
  exact wpAny_pyNext_tuple_end (I.ok.hd hc) st (show s.heap.IsTuple a its.toArray from p) (by simp;lia) fun h' eb=>⟨rfl,I.turned (t':=s.toks) (fun b o hb e=>eb b o hb e) f0 f1 f3 f4 f5⟩
 self:=fun _ _ _ _ _ st h=>wpAny_pyIter_tupleiter st h
theorem Ytu{P:Program}{w:World}{K:W.Frag}{tg:Expr}(it:Addr)(lo:Int)(n:Nat):Turn P w K tg (Itr lo n) [it] it (fun i h=>IsRangeIter h it (lo+(i:Nat) * 1) ((n:Int) - (i:Nat)) 1) where
 mem:=by simp
 obj:=fun i h st b hb=>by
  have e:b=it:=by simpa using hb
  subst e
  exact⟨_,st,fun v z=>by
   have z':Data.fields _=Data.cell v:=z
   cases z'⟩
 keep:=fun i h h' st k=>k it (by simp) _ st
 item:=by
  intro X hP hw hK hc i pins s σ H E I hf st hg
  subst hP hw hK
  obtain⟨f0,f1,f2,f3,f4,f5⟩:=hf it (by simp)
  have W:=Walks.range (prog:=X.prog) (w:=X.w) (I.ok.hd hc) it lo 1 n
  refine W.item i s _ _ hg st fun v h' tk hv st' kk=>?_
  obtain⟨t,rfl⟩:=hv
  have I1:Inv X pins σ H { s with heap:=h',toks:=tk }:=I.turned (fun b o hb e=>kk b o (by simpa using hb) e) f0 f1 f3 f4 f5
  refine⟨_,rfl,y1i (s:={ s with heap:=h',toks:=tk }) (n:="range_iterator") st' rfl rfl (by decide) ⟨.int (lo+i),H,I1,⟨t,?_⟩,⟨rfl,rfl⟩,st',fun b hb=>(hf b hb).1⟩⟩
  rw[Int.mul_one]
 done:=by
  intro X hP hw hK hc i pins s σ H E I hf st hg
  subst hP hw hK
  obtain⟨f0,f1,f2,f3,f4,f5⟩:=hf it (by simp)
  exact wpAny_pyNext_range_end (I.ok.hd hc) st (by have:n≤i:=hg;lia) fun h' eb=>⟨rfl,I.turned (t':=s.toks) (fun b o hb e=>eb b o hb e) f0 f1 f3 f4 f5⟩
 self:=fun _ _ _ _ _ st h=>wpAny_pyIter_rangeiter st h
end L2
namespace L2
open PySem PySem.Spec PyProof.Rows
section
variable {X:Cx} {tg:Expr}
theorem Yyf{pins:List (Addr × Obj)}{σ:St}{H:Hp}{s:Shared}{R:It→Hp→Prop}{E:Value→Shared→Prop}{lo hi:Int}{t u v:Tok}{tk:Nat}(I:Inv X pins σ H s)(h1:-(2 ^ 62)≤lo)(h2:lo < 2 ^ 62)(h3:-(2 ^ 62)≤hi)(h4:hi < 2 ^ 62)
 (q:R (Itr lo (hi - lo).toNat) H):wpAny (model X.prog X.w) X.A (pyIter (.ref s.heap.objs.size)) (PIE X pins σ tg R) E { s with heap:=s.heap.push { cls:=.type "range",data:=.fields #[.int lo t,.int hi u,.int 1 v] },toks:=tk }:=by
 refine wpAny_pyIter_range (IsRange.new ..) (small_one h1 h2 h3 h4) ?_
 have I1:Inv X pins σ H { s with heap:=s.heap.push { cls:=.type "range",data:=.fields #[.int lo t,.int hi u,.int 1 v] },toks:=tk }:=I.kept fun b o e=>qd _ e
 refine⟨(s.heap.push { cls:=.type "range",data:=.fields #[.int lo t,.int hi u,.int 1 v] }).objs.size,[(s.heap.push { cls:=.type "range",data:=.fields #[.int lo t,.int hi u,.int 1 v] }).objs.size],_,_,H,rfl,
  I1.kept (t':=tk) fun b o e=>qd _ e,Ytu _ lo (hi - lo).toNat,?_,fun b hb=>?_,q⟩
 ·have e1:lo+((0:Nat):Int) * 1=lo:=by simp
  have e2:(((hi - lo).toNat:Nat):Int) - ((0:Nat):Int)=Builtin.Range.rangeSize lo hi 1:=by rw[rangeSize_one];split<;>lia
  show IsRangeIter _ _ (lo+((0:Nat):Int) * 1) ((((hi - lo).toNat:Nat):Int) - ((0:Nat):Int)) 1
  rw[e1,e2]
  exact qo _ rfl
 ·have e:b=(s.heap.push { cls:=.type "range",data:=.fields #[.int lo t,.int hi u,.int 1 v] }).objs.size:=by simpa using hb
  subst e
  exact I1.fpOk (qt _) (I1.hok.fresh (qt _))
noncomputable def y7d(ta:TA):TI:=fun σ H R=>ta σ H fun vs H1=>∃j:Int,vs=[.int j]∧-(2 ^ 62)≤j∧j < 2 ^ 62∧R (Itr 0 j.toNat) H1
theorem Yu1{a:Expr}{ta:TA}{p pos:Pos}(hg:Gl X "range")(hm:X.mg "range"=none)(ha:PA X [a] ta)(hs:starEach [a] X.env=[(false,eval a X.env)]:=by rfl):PI X tg (.Call (.Name "range" p) [a] [] pos) (y7d ta):=by
 intro pins s σ H R I h
 refine Call_ (Yj1 I hg hm boot_range (PyProof.Rows.callWith_type1 (thn (ha pos pins s σ H _ I h) fun us s1 hx_=>?_) hs rfl))
 obtain⟨vs,H1,I1,r1,q1⟩:=hx_
 obtain⟨j,e,q1,q2,q⟩:=q1
 subst e
 cases r1 with
 | cons r rr=>
   cases rr
   obtain⟨t,rfl⟩:=r
   exact call_range_1 (Yyf I1 (by lia) (by lia) q1 q2 (by simpa using q))
noncomputable def tFor(wi:TI)(g:TG)(tb:TS):TS:=fun D σ H=>wi σ H fun J H1=>∃W:Nat→Nat→St→Hp→Prop,(∃m,W 0 m σ H1)∧∀i m σ H,W i m σ H→
 (J.stop i H∧D.nx σ H)∨(J.go i H∧∃N:St→Hp→Prop,(∀σ' H',N σ' H'→∃m',m' < m∧W (i+1) m' σ' H')∧∀x H',J.yld i H x H'→g x σ H' fun σ2 H2=>tb { D with nx:=N,ct:=N,bk:=D.nx } σ2 H2)
noncomputable def Yom(fp:List Addr)(h:Heap):List (Addr × Obj):=fp.filterMap fun b=>(h.get? b).map fun o=>(b,o)
theorem Yfw{fp:List Addr}{h:Heap}{b:Addr}{o:Obj}(hb:b∈fp)(e:h.get? b=some o):(b,o)∈Yom fp h:=List.mem_filterMap.mpr ⟨b,hb,by rw[e];rfl⟩
theorem Yu2{fp:List Addr}{h:Heap}{p:Addr × Obj}(hp:p∈Yom fp h):p.1∈fp∧h.get? p.1=some p.2:=by
 obtain⟨b,hb,e⟩:=List.mem_filterMap.mp hp
 cases q:h.get? b with
 | none=>rw[q]at e;cases e
 | some o=>
   rw[q]at e
   have e':(b,o)=p:=Option.some.inj e
   subst e'
   exact⟨hb,q⟩
theorem Inv.pinned{pins:List (Addr × Obj)}{σ:St}{H:Hp}{s:Shared}{fp:List Addr}(I:Inv X pins σ H s)(hf:∀b∈fp,FpOk X pins H b)(ho:∀b∈fp,∃o,s.heap.get? b=some o∧∀v,o.data≠.cell v):Inv X (pins++Yom fp s.heap) σ H s:=
 I.pins_of fun p hp=>(qu hp).elim (fun z=>I.pin p (Qj _ z)) fun z=>by
  obtain⟨hb,e⟩:=Yu2 z
  obtain⟨f0,f1,f2,_⟩:=hf p.1 hb
  obtain⟨o,e',d⟩:=ho p.1 hb
  rw[e]at e';cases e'
  exact⟨e,f0,f1,f2,d⟩
theorem Inv.unpinned{pins pl:List (Addr × Obj)}{σ:St}{H:Hp}{s:Shared}(I:Inv X (pins++pl) σ H s):Inv X pins σ H s:=I.pins_of fun p hp=>I.pin p (Qj _ (List.mem_append_left _ hp))
theorem y4h{iter:Expr}{body:List Stmt}{wi:TI}{g:TG}{tb:TS}{pos:Pos}(hp:PassesOwn (model X.prog X.w) X.A X.env X.xe)(hc:X.calm=true)(hi:PI X tg iter wi)(hg:PG X tg g)(hb:PSs X body tb)
 (hs:∀x,foldedSetIterable iter X.env x=pure x:=by intro _;rfl):PS X (.For tg iter body [] pos) (tFor wi g tb):=by
 intro pins s σ H D I h
 refine wpAny_For (thn (hi pins s σ H _ I h) fun v s1 h1=>thn h1 fun itv s2 h2=>?_) hs
 obtain⟨it,fp,tn,J,H2,e,I2,T,st2,f2,W,⟨m0,w0⟩,turn⟩:=h2
 subst e
 have stat:∀{H':Hp},(∀b∈fp,H' b=none)→∀b∈fp,FpOk X pins H' b:=fun hn b hb=>⟨hn b hb,(f2 b hb).2⟩
 refine codeAny_forLoop_any (fun n s'=>∃i σ' H',Inv X pins σ' H' s'∧tn i s'.heap∧(∀b∈fp,H' b=none)∧W i n σ' H') ?_ m0 ⟨0,σ,H2,I2,st2,fun b hb=>(f2 b hb).1,w0⟩
 rintro n s3 ⟨i,σ3,H3,I3,st3,fr3,w3⟩
 rcases turn i n σ3 H3 w3 with⟨stop,qn⟩ | ⟨go,N,hN,step⟩
 ·refine wpAny_passesOwn hp (thn (T.done X rfl rfl rfl hc i pins s3 σ3 H3 X.xe I3 (stat fr3) st3 stop) fun r s4 hx_=>?_)
  obtain⟨hr,I4⟩:=hx_
  subst hr
  exact wpAny_execs_nil ⟨σ3,H3,I4,qn⟩
 ·refine wpAny_passesOwn hp (thn (T.item X rfl rfl rfl hc i pins s3 σ3 H3 X.xe I3 (stat fr3) st3 go) fun r s4 hx_=>?_)
  obtain⟨u,hr,h4⟩:=hx_
  subst hr
  refine wpAny_passesOwn hp (thn h4 fun _ s5 hx_=>?_)
  obtain⟨x,H5,I5,r5,y5,st5,fr5⟩:=hx_
  have I5':=I5.pinned (stat fr5) (T.obj _ _ st5)
  refine wpAny_passesOwn hp (thn (hg _ s5 σ3 H5 x u _ I5' r5 (step x H5 y5)) fun _ s6 hx_=>?_)
  obtain⟨σ6,H6,I6,q6⟩:=hx_
  refine wpAny_passesOwn hp (thn (hb _ s6 σ6 H6 _ I6 q6) fun f s7 q7=>?_)
  have again:∀{σ7:St} {H7:Hp},Inv X (pins++Yom fp s5.heap) σ7 H7 s7→N σ7 H7→∃m,m < n∧∃i σ' H',Inv X pins σ' H' s7∧tn i s7.heap∧(∀b∈fp,H' b=none)∧W i m σ' H':=fun {σ7 H7} I7 n7=>by
   obtain⟨m',hm,w7⟩:=hN σ7 H7 n7
   refine⟨m',hm,i+1,σ7,H7,I7.unpinned,T.keep _ _ _ st5 fun b hb o e=>(I7.pin (b,o) (Qj _ (Qj _ (Yfw hb e)))).1,fun b hb=>?_,w7⟩
   obtain⟨o,e,d⟩:=T.obj _ _ st5 b hb
   exact(I7.pin (b,o) (Qj _ (Qj _ (Yfw hb e)))).2.1
  cases f with
  | next=>obtain⟨σ7,H7,I7,n7⟩:=q7;exact again I7 n7
  | cont=>obtain⟨σ7,H7,I7,n7⟩:=q7;exact again I7 n7
  | brk=>obtain⟨σ7,H7,I7,q7⟩:=q7;exact⟨σ7,H7,I7.unpinned,q7⟩
  | ret v=>obtain⟨x7,σ7,H7,I7,r7,q7⟩:=q7;exact⟨x7,σ7,H7,I7.unpinned,r7,q7⟩
end
end L2
namespace L2
open PySem PySem.Spec PyProof.Rows
noncomputable abbrev R2:=V→V→Hp→VK→Prop
def OpR(X:Cx)(f:Value→Value→Sem Value)(r:R2):Prop:=
 ∀(pins:List (Addr × Obj)) (s:Shared) (σ:St) (H:Hp) (x y:V) (v u:Value) (Q:VK),Inv X pins σ H s→RelV x v→RelV y u→r x y H Q→
  wpAny (model X.prog X.w) X.A (f v u) (EP X pins σ Q) X.xe s
def Ycv(X:Cx)(f:Value)(r:List V→Hp→VK→Prop):Prop:=
 ∀(pins:List (Addr × Obj)) (s:Shared) (σ:St) (H:Hp) (xs:List V) (us:List Value) (Q:VK),Inv X pins σ H s→Vals xs us→r xs H Q→
  wpAny (model X.prog X.w) X.A (call f us) (EP X pins σ Q) X.xe s
def TruR(X:Cx)(r:V→Hp→(Bool→Hp→Prop)→Prop):Prop:=
 ∀(pins:List (Addr × Obj)) (s:Shared) (σ:St) (H:Hp) (x:V) (v:Value) (Q:Bool→Hp→Prop),Inv X pins σ H s→RelV x v→r x H Q→
  wpAny (model X.prog X.w) X.A (truthy v) (TP X pins σ Q) X.xe s
noncomputable def tOp(r:R2)(ta tb:TE):TE:=fun σ H Q=>ta σ H fun x H1=>tb σ H1 fun y H2=>r x y H2 Q
noncomputable def rI(C:Int→Int→Prop)(g:Int→Int→V):R2:=fun x y H Q=>∃i j,x=.int i∧y=.int j∧C i j∧Q (g i j) H
noncomputable def rI0(g:Int→Int→V):R2:=fun x y H Q=>∃i j,x=.int i∧y=.int j∧Q (g i j) H
section
variable {X:Cx} {a b c:Expr} {ta tb tc:TE} {pos:Pos}
theorem binT(ha:PE X a ta)(hb:PE X b tb){pins:List (Addr × Obj)}{s:Shared}{σ:St}{H:Hp}{R:V→V→Hp→Prop}(I:Inv X pins σ H s)
 (h:ta σ H fun x H1=>tb σ H1 fun y H2=>R x y H2) {Q:Value→Shared→Prop} {f:Value→Value→Sem Value}
 (hf:∀v u s2 x y H2,Inv X pins σ H2 s2→RelV x v→RelV y u→R x y H2→wpAny (model X.prog X.w) X.A (f v u) Q X.xe s2) :
 wpAny (model X.prog X.w) X.A (eval a X.env) (fun v s₁=>wpAny (model X.prog X.w) X.A (eval b X.env) (fun u s₂=>wpAny (model X.prog X.w) X.A (f v u) Q X.xe s₂) X.xe s₁) X.xe s:=by
 refine thn (ha pins s σ H _ I h) fun v s1 hx_=>?_
 obtain⟨x,H1,I1,r1,q1⟩:=hx_
 refine thn (hb pins s1 σ H1 _ I1 q1) fun u s2 hx_=>?_
 obtain⟨y,H2,I2,r2,q2⟩:=hx_
 exact hf v u s2 x y H2 I2 r1 r2 q2
theorem y1j{op:Operator}{r:R2}(ho:OpR X (binaryOp op) r)(ha:PE X a ta)(hb:PE X b tb):PE X (.BinOp a op b pos) (tOp r ta tb):=by
 intro pins s σ H Q I h
 exact wpAny_BinOp (binT ha hb I h fun v u s2 x y H2 I2 rx ry q=>ho pins s2 σ H2 x y v u Q I2 rx ry q)
theorem opI{f:Value→Value→Sem Value}{C:Int→Int→Prop}{g:Int→Int→Int}
 (rule:∀(i j:Int) (t u:Tok) (s:Shared) (Q:Value→Shared→Prop) (E:Value→Shared→Prop),C i j→Q (.int (g i j) s.toks) { s with toks:=s.toks+1 }→wpAny (model X.prog X.w) X.A (f (.int i t) (.int j u)) Q E s) :
 OpR X f (rI C fun i j=>.int (g i j)):=by
 intro pins s σ H x y v u Q I rx ry h
 obtain⟨i,j,rfl,rfl,hc,q⟩:=h
 obtain⟨t,rfl⟩:=rx
 obtain⟨t',rfl⟩:=ry
 exact rule i j t t' s _ _ hc ⟨.int (g i j),H,I.tok _,⟨_,rfl⟩,q⟩
theorem opI0{f:Value→Value→Sem Value}{g:Int→Int→Int}
 (rule:∀(i j:Int) (t u:Tok) (s:Shared) (Q:Value→Shared→Prop) (E:Value→Shared→Prop),Q (.int (g i j) s.toks) { s with toks:=s.toks+1 }→wpAny (model X.prog X.w) X.A (f (.int i t) (.int j u)) Q E s) :
 OpR X f (rI0 fun i j=>.int (g i j)):=by
 intro pins s σ H x y v u Q I rx ry h
 obtain⟨i,j,rfl,rfl,q⟩:=h
 obtain⟨t,rfl⟩:=rx
 obtain⟨t',rfl⟩:=ry
 exact rule i j t t' s _ _ ⟨.int (g i j),H,I.tok _,⟨_,rfl⟩,q⟩
theorem opB0{f:Value→Value→Sem Value}{g:Int→Int→Bool}
 (rule:∀(i j:Int) (t u:Tok) (s:Shared) (Q:Value→Shared→Prop) (E:Value→Shared→Prop),Q (.bool (g i j)) s→wpAny (model X.prog X.w) X.A (f (.int i t) (.int j u)) Q E s) :
 OpR X f (rI0 fun i j=>.bl (g i j)):=by
 intro pins s σ H x y v u Q I rx ry h
 obtain⟨i,j,rfl,rfl,q⟩:=h
 obtain⟨t,rfl⟩:=rx
 obtain⟨t',rfl⟩:=ry
 exact rule i j t t' s _ _ ⟨.bl (g i j),H,I,rfl,q⟩
def CDiv(i j:Int):Prop:=0 < j∧j < 1073741824
def CMul(i j:Int):Prop:=(-(2 ^ 64) < i∧i < 2 ^ 64)∨(-(2 ^ 64) < j∧j < 2 ^ 64)
theorem CMul.ok{i j:Int}(h:CMul i j):IntMulOk i j:=by
 rcases h with⟨h1,h2⟩ | ⟨h1,h2⟩
 ·exact .of_left (intBits_le_64 h1 h2)
 ·exact .of_right (intBits_le_64 h1 h2)
theorem y4i:OpR X (binaryOp .Add) (rI0 fun i j=>.int (i+j)):=opI0 fun _ _ _ _ _ _ _ q=>add_int q
theorem y4j:OpR X (binaryOp .Sub) (rI0 fun i j=>.int (i - j)):=opI0 fun _ _ _ _ _ _ _ q=>sub_int q
theorem y4k:OpR X (binaryOp .Mult) (rI CMul fun i j=>.int (i * j)):=opI fun _ _ _ _ _ _ _ hc q=>mul_int q hc.ok
theorem y1k:OpR X (binaryOp .FloorDiv) (rI CDiv fun i j=>.int (i / j)):=opI fun i j _ _ _ _ _ hc q=>by
 have h1:(0:Int) < j:=hc.1
 have h2:j < 1073741824:=hc.2
 exact floordiv_int (by lia) (by rw[Int.fdiv_eq_ediv_of_nonneg i (by lia)];exact q) (.inl (PyProof.noPylong_small (by lia)))
theorem y4l:OpR X (binaryOp .Mod) (rI (fun _ j=>0 < j) fun i j=>.int (i % j)):=opI fun i j _ _ _ _ _ hc q=>by
 have h1:(0:Int) < j:=hc
 exact mod_int' (by lia) (by rw[Int.fmod_eq_emod_of_nonneg i (by lia)];exact q)
end
section
variable {X:Cx} {a b c:Expr} {ta tb tc:TE} {pos:Pos}
theorem y0d{pins:List (Addr × Obj)}{σ:St}{H:Hp}{s:Shared}{Q:VK}{k k':Bool}(I:Inv X pins σ H s)(q:Q (.bl k) H)(e:k=k'):EP X pins σ Q (.bool k') s:=by
 subst e
 exact⟨.bl k,H,I,rfl,q⟩
theorem y1l:OpR X (compareOp .Lt) (rI0 fun i j=>.bl (decide (i < j))):=opB0 fun _ _ _ _ _ _ _ q=>lt_int q
theorem Yyg:OpR X (compareOp .LtE) (rI0 fun i j=>.bl (decide (i≤j))):=opB0 fun _ _ _ _ _ _ _ q=>le_int q
theorem y4m:OpR X (compareOp .Gt) (rI0 fun i j=>.bl (decide (j < i))):=opB0 fun _ _ _ _ _ _ _ q=>gt_int q
theorem y4n:OpR X (compareOp .GtE) (rI0 fun i j=>.bl (decide (j≤i))):=opB0 fun _ _ _ _ _ _ _ q=>ge_int q
theorem y0e:OpR X (compareOp .Is) (fun x y H Q=>y=.non∧Q (.bl (decide (x=.non))) H):=by
 intro pins s σ H x y v u Q I rx ry h
 obtain⟨rfl,q⟩:=h
 cases ry
 refine is_none_gen (y0d I q ?_)
 cases x<;>first
  | (cases rx;rfl)
  | (obtain⟨t,rfl⟩:=rx;rfl)
theorem Yu3:OpR X (compareOp .IsNot) (fun x y H Q=>y=.non∧Q (.bl (!decide (x=.non))) H):=by
 intro pins s σ H x y v u Q I rx ry h
 obtain⟨rfl,q⟩:=h
 cases ry
 refine isnot_none_gen (y0d I q ?_)
 cases x<;>first
  | (cases rx;rfl)
  | (obtain⟨t,rfl⟩:=rx;rfl)
theorem Ydb(b:Expr){op:CmpOp}(h:op≠.In:=by decide)(h2:op≠.NotIn:=by decide):behindInMarks op b=false:=by
 have e1:(op==CmpOp.In)=false:=by cases op<;>first | rfl | exact absurd rfl h
 have e2:(op==CmpOp.NotIn)=false:=by cases op<;>first | rfl | exact absurd rfl h2
 cases b with
 | Set elts k p=>
   show((k==0)&&((op==CmpOp.In)||(op==CmpOp.NotIn))&&_)=false
   rw[e1,e2]
   cases (k==0)<;>rfl
 | _=>rfl
theorem y1m{op:CmpOp}{r:R2}(ho:OpR X (compareOp op) r)(ha:PE X a ta)(hb:PE X b tb)(hm:behindInMarks op b=false):PE X (.Compare a [op] [b] pos) (tOp r ta tb):=by
 intro pins s σ H Q I h
 exact wpAny_Compare1 (binT ha hb I h fun v u s2 x y H2 I2 rx ry q=>ho pins s2 σ H2 x y v u Q I2 rx ry q) hm
noncomputable def y4o(t:TE):TT:=fun σ H Q=>t σ H fun x H'=>∃k,x=.bl k∧Q k H'
theorem Yu4{op:CmpOp}{r:R2}(ho:OpR X (compareOp op) r)(ha:PE X a ta)(hb:PE X b tb)(hm:behindInMarks op b=false):PT X (.Compare a [op] [b] pos) (y4o (tOp r ta tb)):=by
 intro pins s σ H Q I h
 refine wpAny_isTrue_Compare1 (thn (ha pins s σ H _ I h) fun v s1 hx_=>?_) hm
 obtain⟨x,H1,I1,r1,q1⟩:=hx_
 refine thn (hb pins s1 σ H1 _ I1 q1) fun u s2 hx_=>?_
 obtain⟨y,H2,I2,r2,q2⟩:=hx_
 refine thn (ho pins s2 σ H2 x y v u _ I2 r1 r2 q2) fun c s3 hx_=>?_
 obtain⟨z,H3,I3,r3,k,e,q3⟩:=hx_
 subst e
 cases r3
 exact wpAny_truthy_bool ⟨H3,I3,q3⟩
noncomputable def y4p(r r':R2)(ta tb tc:TE):TE:=fun σ H Q=>ta σ H fun x H1=>tb σ H1 fun y H2=>r x y H2 fun z H3=>∃k,z=.bl k∧
 (if k=true then tc σ H3 fun w' H4=>r' y w' H4 Q else Q (.bl false) H3)
theorem Yyh{op op':CmpOp}{r r':R2}(ho:OpR X (compareOp op) r)(ho':OpR X (compareOp op') r')(ha:PE X a ta)(hb:PE X b tb)(hc:PE X c tc)
 (hm:lastMarks [op,op'] [b,c]=false:=by with_unfolding_all rfl):PE X (.Compare a [op,op'] [b,c] pos) (y4p r r' ta tb tc):=by
 intro pins s σ H Q I h
 refine Compare_chain (thn (ha pins s σ H _ I h) fun v s1 hx_=>?_) hm
 obtain⟨x,H1,I1,r1,q1⟩:=hx_
 refine chain_link (thn (hb pins s1 σ H1 _ I1 q1) fun u s2 hx_=>?_)
 obtain⟨y,H2,I2,r2,q2⟩:=hx_
 refine thn (ho pins s2 σ H2 x y v u _ I2 r1 r2 q2) fun d s3 hx_=>?_
 obtain⟨z,H3,I3,r3,k,e,q3⟩:=hx_
 subst e
 cases r3
 refine wpAny_truthy_bool ?_
 cases k with
 | false=>exact ite_ff ⟨.bl false,H3,I3,rfl,q3⟩
 | true=>
   refine ite_tt (chain_last (thn (hc pins s3 σ H3 _ I3 q3) fun w' s4 hx_=>?_))
   obtain⟨z',H4,I4,r4,q4⟩:=hx_
   exact ho' pins s4 σ H4 y z' u w' Q I4 r2 r4 q4
def TruV(K:W.Frag)(x:V)(H:Hp)(k:Bool):Prop:=
 match x with
 | .non=>k=false
 | .bl b=>k=b
 | .int i=>k=(i != 0)
 | .str y=>y.length≤sizeLine∧k=((y.length:Int) != 0)
 | .byt y=>y.size≤sizeLine∧k=((y.size:Int) != 0)
 | .ref p=>(∃xs,SqL K H p xs∧k=!xs.isEmpty)∨(∃xs,SqT K H p xs∧k=!xs.isEmpty)∨∃kvs,H p=some (.dK kvs)∧k=!kvs.isEmpty
 | _=>False
theorem Ytv{κ:Type}{kvs:List (κ × V)}{vs:List (κ × Value)}(r:KV kvs vs):(!vs.isEmpty)=!kvs.isEmpty:=by
 cases r<;>rfl
theorem Ymi{xs:List V}{its:List Value}(r:Vals xs its):(!its.toArray.isEmpty)=!xs.isEmpty:=by
 cases r<;>simp
theorem Yon:(sizeLine:Nat) < 2 ^ 63:=by rw[sizeLine_eq];decide
theorem y4q:TruR X (fun x H Q=>∃k,TruV X.K x H k∧Q k H):=by
 intro pins s σ H x v Q I rx h
 obtain⟨k,e,q⟩:=h
 have hl:=Yon
 have hs:sizeLine=16777216:=sizeLine_eq
 cases x with
 | non=>
   cases rx
   have e':k=false:=e
   subst e'
   exact truthy_none ⟨H,I,q⟩
 | bl b=>
   cases rx
   have e':k=b:=e
   subst e'
   exact wpAny_truthy_bool ⟨H,I,q⟩
 | int i=>
   obtain⟨t,rfl⟩:=rx
   have e':k=(i != 0):=e
   subst e'
   exact PySem.P.truthy_int ⟨H,I,q⟩
 | str y=>
   obtain⟨t,rfl⟩:=rx
   obtain⟨hy,e'⟩:y.length≤sizeLine∧k=((y.length:Int) != 0):=e
   subst e'
   exact PySem.P.truthy_str (by lia) ⟨H,I.tok _,q⟩
 | byt y=>
   obtain⟨t,rfl⟩:=rx
   obtain⟨hy,e'⟩:y.size≤sizeLine∧k=((y.size:Int) != 0):=e
   subst e'
   exact W.truthy_bytes (by lia) ⟨H,I.tok _,q⟩
 | ref p=>
   cases rx
   have e':(∃xs,SqL X.K H p xs∧k=!xs.isEmpty)∨(∃xs,SqT X.K H p xs∧k=!xs.isEmpty)∨∃kvs,H p=some (.dK kvs)∧k=!kvs.isEmpty:=e
   rcases e' with⟨xs,hx,e'⟩ | ⟨xs,hx,e'⟩ | ⟨kvs,hx,e'⟩
   ·subst e'
    obtain⟨its,r,pl,hz⟩:=I.list hx
    have hlen:=r.length
    exact wpAny_truthy_list pl.isList (by simp only[qj];lia) ⟨H,I.tok _,by rw[Ymi r];exact q⟩
   ·subst e'
    obtain⟨its,r,pl,hz⟩:=I.tuple hx
    have hlen:=r.length
    exact truthy_tuple pl (by simp only[qj];lia) ⟨H,I.tok _,by rw[Ymi r];exact q⟩
   ·subst e'
    obtain⟨hz,hS,vs,r,m⟩:kvs.length≤sizeLine∧(p==sysModules)=false∧∃vs,KV kvs vs∧s.heap.DictOf (Yb0 X.prog X.w) p vs:=I.hok p _ hx
    have hlen:kvs.length=vs.length:=Paired.length r
    exact wpAny_truthy_dict hS m (by lia) ⟨H,I.tok _,by rw[Ytv r];exact q⟩
 | _=>exact(show False from e).elim
theorem Yyi(ha:PE X a ta)(he:∀whole,isTrue a X.env whole=(do let v ←whole;standAt a.pos;holding [v] (truthy v))) :
 PT X a (fun σ H Q=>ta σ H fun x H'=>∃k,TruV X.K x H' k∧Q k H'):=by
 intro pins s σ H Q I h
 refine isTrue_plain (thn (ha pins s σ H _ I h) fun v s1 hx_=>?_) (he _)
 obtain⟨x,H1,I1,r1,q1⟩:=hx_
 exact y4q pins s1 σ H1 x v Q I1 r1 q1
theorem Yfb{x:V}{us:List Value}(r:Vals [x] us):∃u,us=[u]∧RelV x u:=by
 cases r with
 | cons r1 r2=>cases r2;exact⟨_,rfl,r1⟩
theorem Yu5{x y:V}{us:List Value}(r:Vals [x,y] us):∃u w',us=[u,w']∧RelV x u∧RelV y w':=by
 cases r with
 | cons r1 r2=>
   cases r2 with
   | cons r3 r4=>cases r4;exact⟨_,_,rfl,r1,r3⟩
theorem Yj2:Ycv X (.type "int") (fun xs H Q=>(∃i,xs=[.int i]∧Q (.int i) H)∨∃k,xs=[.bl k]∧Q (.int (if k then 1 else 0)) H):=by
 intro pins s σ H xs us Q I r h
 rcases h with⟨i,rfl,q⟩ | ⟨k,rfl,q⟩
 ·obtain⟨u,rfl,t,rfl⟩:=Yfb r
  exact call_int_int ⟨.int i,H,I,⟨_,rfl⟩,q⟩
 ·obtain⟨u,rfl,r1⟩:=Yfb r
  cases r1
  exact call_int_bool ⟨.int (if k then 1 else 0),H,I.tok _,⟨_,rfl⟩,q⟩
theorem Ytw:Ycv X (.type "bool") (fun xs H Q=>(∃i,xs=[.int i]∧Q (.bl (i != 0)) H)∨∃k,xs=[.bl k]∧Q (.bl k) H):=by
 intro pins s σ H xs us Q I r h
 rcases h with⟨i,rfl,q⟩ | ⟨k,rfl,q⟩
 ·obtain⟨u,rfl,t,rfl⟩:=Yfb r
  exact call_bool_int ⟨.bl (i != 0),H,I,rfl,q⟩
 ·obtain⟨u,rfl,r1⟩:=Yfb r
  cases r1
  exact call_bool_bool ⟨.bl k,H,I,rfl,q⟩
end
end L2
namespace L2
open PySem PySem.Spec PyProof.Rows
structure ObjM(h:Heap)(x dx C:Addr)(mA:Str→Option Value):Prop where
 obj:h.get? x=some (W.instObj C dx)
 ns:h.Ns1 dx mA
 ne:dx≠x
theorem Yu6{h:Heap}{dx:Addr}{mA:Str→Option Value}(n:h.Ns1 dx mA):∃od,h.get? dx=some od∧∀name,W.lookIn name od=some (mA name):=by
 obtain⟨o,es,ep,ho,hd,hk,_,hm⟩:=n
 refine⟨o,ho,fun name=>?_⟩
 have e:=hm name
 unfold nsFind findBy at e
 rw[←Array.find?_toList]at e
 unfold W.lookIn
 rw[hd]
 dsimp only
 split
 ·rename_i y q
  rw[q]at e
  exact congrArg some e
 ·rename_i q
  rw[q]at e
  have a:es.toList.any (·.refKey)=false:=by
   rw[List.any_eq_false]
   intro y hy
   obtain⟨z,t,hkey⟩:=hk y (Array.mem_toList_iff.mp hy)
   simp[DictEntry.refKey,hkey]
  have a':¬es.toList.any (·.refKey)=true:=by rw[a];exact qh
  rw[if_neg a']
  exact congrArg some e
theorem ObjM.look{h:Heap}{x dx C:Addr}{mA:Str→Option Value}(I:ObjM h x dx C mA):∃od,W.InstAt h x (W.instObj C dx) C (some od)∧∀name,W.lookIn name od=some (mA name):=
 let ⟨od,ho,hl⟩:=Yu6 I.ns
 ⟨od,⟨I.obj,rfl,rfl,ho⟩,hl⟩
theorem RelO.some_of{v:V}{o:Option Value}(r:RelO (some v) o):∃u,o=some u∧RelV v u:=by
 cases o with
 | none=>exact(show False from r).elim
 | some u=>exact⟨u,rfl,r⟩
section
variable {P:Program} {w:World} {H H':Hp} {h h':Heap} {a C dx:Addr} {fs fs':List (Str × V)}
theorem y1n(hok:HOk P w H h)(e:H a=some (.ins C dx fs)):∃mA,ObjM h a dx C mA∧(∀f,RelO (fs.lookup f) (mA f))∧PySem.Within mA (fs.map (·.1))∧fs.length≤1000∧H dx=some (.own a):=by
 obtain⟨d,z,ne,ob,mA,n,r,q⟩:=(show ObjOk P w H h a (.ins C dx fs) from hok a _ e)
 exact⟨mA,⟨ob,n,ne⟩,r,q,z,d⟩
end
structure Cls(K:W.Frag)(C:Addr):Prop where
 pg:W.plainGet K C Str.empty=true
 hd:W.hasDictIn K C=true
 po:W.plainOver K C=true
 sa:W.findIn K (.ref C) "__setattr__"=some (some (.builtin "object.__setattr__"))
theorem Cls.get{K:W.Frag}{C:Addr}(c:Cls K C)(f:Str):W.plainGet K C f=true:=c.pg
structure Con(K:W.Frag)(C:Addr)(f:Str)(v:V)(u:Value):Prop where
 at_:W.findIn K (.ref C) f=some (some u)
 rel:RelV v u
 get:W.specialIn K u "__get__"=some none
 cp:W.copiedNames.contains f=false
structure Meth(K:W.Frag)(C:Addr)(m:Str)(f:Addr):Prop where
 at_:W.findIn K (.ref C) m=some (some (.ref f))
 fn:W.isFn K (.ref f)=true
 kp:W.keepIn K (.ref f)=true
section
variable {X:Cx} {pins:List (Addr × Obj)} {σ:St} {H:Hp} {s:Shared} {A:Around} {E:Value→Shared→Prop} {Q:Value→Shared→Prop} {c:Value} {b:Bool}
inductive TyOf (K:W.Frag) (H:Hp):V→Value→Prop where
 | non:TyOf K H .non (.type "NoneType")
 | bl (x:Bool):TyOf K H (.bl x) (.type "bool")
 | int (i:Int):TyOf K H (.int i) (.type "int")
 | str (x:Str):TyOf K H (.str x) (.type "str")
 | flt (x:UInt64):TyOf K H (.flt x) (.type "float")
 | lst {a:Addr} {xs:List V} (e:H a=some (.lst xs)):TyOf K H (.ref a) (.type "list")
 | frz {a:Addr} {o:Obj} {xs:List V} (e:H a=some (.frz o (.lst xs))):TyOf K H (.ref a) (.type "list")
 | tup {a:Addr} {xs:List V} (e:H a=some (.tup xs)):TyOf K H (.ref a) (.type "tuple")
 | dK {a:Addr} {kvs:List (Key × V)} (e:H a=some (.dK kvs)):TyOf K H (.ref a) (.type "dict")
 | dT {a:Addr} {kvs:List (List Key × V)} (e:H a=some (.dT kvs)):TyOf K H (.ref a) (.type "dict")
 | ins {a C dx:Addr} {fs:List (Str × V)} (e:H a=some (.ins C dx fs)) (cl:Cls K C) (ha:W.findIn K (.ref C) "__class__"=some (some (.builtin "object.__class__")))
  (hn:W.specialIn K (.builtin "object.__class__") "__get__"=some (some (.builtin "getset_descriptor.__get__"))) (htk:W.takesIn K (.builtin "object.__class__")=some true)
  (hm:W.mroIn K C (.type "object")=some true):TyOf K H (.ref a) (.ref C)
theorem Yu7{x:V}{u t:Value}(I:Inv X pins σ H s)(rx:RelV x u)(ty:TyOf X.K H x t)(e:W.kitOne X.K t c=some b)(h:∀tk,Q (.bool b) { s with toks:=tk }) :
 wpAny (model X.prog X.w) A (call (.builtin "isinstance") [u,c]) Q E s:=by
 cases ty with
 | non=>cases (show u=Value.none from rx);exact W.kia_one W.kitx_none I.kIn True.intro e (fun z=>nomatch z) h
 | bl y=>cases (show u=Value.bool y from rx);exact W.kia_one W.kitx_bool I.kIn True.intro e (fun z=>nomatch z) h
 | int i=>obtain⟨t,q⟩:=(show ∃t,u=Value.int i t from rx);cases q;exact W.kia_one W.kitx_int I.kIn True.intro e (fun z=>nomatch z) h
 | str y=>obtain⟨t,q⟩:=(show ∃t,u=Value.str y t from rx);cases q;exact W.kia_one W.kitx_str I.kIn True.intro e (fun z=>nomatch z) h
 | flt y=>obtain⟨t,q⟩:=(show ∃t,u=Value.float y t from rx);cases q;exact W.kia_one W.kitx_float I.kIn True.intro e (fun z=>nomatch z) h
 | @lst a xs ea=>
   cases (show u=Value.ref a from rx)
   obtain⟨_,_,n,_,h1⟩:=(show ObjOk X.prog X.w H s.heap a (.lst xs) from I.hok a _ ea)
   exact W.kia_one W.kitx_list I.kIn ⟨_,h1,rfl⟩ e (fun z=>nomatch z) h
 | @frz a ob xs ea=>
   cases (show u=Value.ref a from rx)
   obtain⟨_,_,_,n,_,h1⟩:=(show ObjOk X.prog X.w H s.heap a (.frz ob (.lst xs)) from I.hok a _ ea)
   exact W.kia_one W.kitx_list I.kIn ⟨_,h1,rfl⟩ e (fun z=>nomatch z) h
 | @tup a xs ea=>
   cases (show u=Value.ref a from rx)
   obtain⟨_,_,_,p⟩:=(show ObjOk X.prog X.w H s.heap a (.tup xs) from I.hok a _ ea)
   obtain⟨o,h1,h2,_⟩:=p
   exact W.kia_one W.kitx_tuple I.kIn ⟨o,h1,h2⟩ e (fun z=>nomatch z) h
 | @dK a kvs ea=>
   cases (show u=Value.ref a from rx)
   obtain⟨_,_,vs,_,p⟩:=(show ObjOk X.prog X.w H s.heap a (.dK kvs) from I.hok a _ ea)
   obtain⟨o,es,ep,h1,h2,_⟩:=p
   exact W.kia_one W.kitx_dict I.kIn ⟨o,h1,h2.1⟩ e (fun z=>nomatch z) h
 | @dT a kvs ea=>
   cases (show u=Value.ref a from rx)
   obtain⟨_,_,xs,_,o,es,ep,h1,h2,_⟩:=(show ObjOk X.prog X.w H s.heap a (.dT kvs) from I.hok a _ ea)
   exact W.kia_one W.kitx_dict I.kIn ⟨o,h1,h2.1⟩ e (fun z=>nomatch z) h
 | @ins a C dx fs ea cl ha hn htk hm=>
   cases (show u=Value.ref a from rx)
   obtain⟨mA,O,_⟩:=y1n I.hok ea
   obtain⟨od,J,_⟩:=O.look
   exact W.kia_one (W.kitx_own (cl.get _) cl.hd ha hn htk hm) I.kIn J e (fun z=>nomatch z) h
end
end L2
namespace L2
open PySem PySem.Spec PyProof.Rows
structure Room(k:Nat)(A:Around):Prop where
 hd:A.handled=none
 dp:A.depth+3 * k+5 < recursionLimit
 un:A.units+16 * k+200 < cLine
theorem Room.mono{j k:Nat}{A:Around}(r:Room k A)(h:j≤k):Room j A:=⟨r.hd,by have:=r.dp;lia,by have:=r.un;lia⟩
theorem Room.deeper{k:Nat}{A:Around}(r:Room (k+1) A)(env:Env):Room k (A.deeper env):=
 ⟨r.hd,by have:=r.dp;show A.depth+1+3 * k+5 < _;lia,by have:=r.un;show A.units+3+16 * k+200 < _;lia⟩
theorem Room.depth{k:Nat}{A:Around}(r:Room k A):A.depth < recursionLimit:=by have:=r.dp;lia
theorem Room.units{k:Nat}{A:Around}(r:Room k A):A.units+64 < cLine:=by have:=r.un;lia
noncomputable def tNil:TA:=fun _ H Q=>Q [] H
noncomputable def y7e(ta:TE)(tr:TA):TA:=fun σ H Q=>ta σ H fun x H1=>tr σ H1 fun xs H2=>Q (x::xs) H2
section
variable {X:Cx} {e:Expr} {es:List Expr} {te:TE} {t:TA} {pos:Pos}
theorem Ygz:PA X [] tNil:=fun _ _ _ _ H Q I h=>Calls.spliced_nil ⟨[],H,I,.nil,h⟩
theorem Ydn(ha:PE X e te)(hr:PA X es t)(hs:starEach (e::es) X.env=(false,eval e X.env)::starEach es X.env:=by rfl):PA X (e::es) (y7e te t):=by
 intro pos pins s σ H Q I h
 rw[hs]
 show wpAny _ _ (spliced ((false,eval e X.env)::backTo pos (starEach es X.env))) _ _ s
 refine Calls.spliced_cons (thn (ha pins s σ H _ I h) fun u s1 hx_=>?_)
 obtain⟨x,H1,I1,r1,q1⟩:=hx_
 refine thn (hr pos pins s1 σ H1 _ I1 q1) fun us s2 hx_=>?_
 obtain⟨xs,H2,I2,r2,q2⟩:=hx_
 exact⟨x::xs,H2,I2,.cons r1 r2,q2⟩
noncomputable def tTup(t:TA):TE:=fun σ H Q=>t σ H fun xs H1=>xs.length≤sizeLine∧∀p,H1 p=none→Q (.ref p) (upd H1 p (.tup xs))
noncomputable def tLst(t:TA):TE:=fun σ H Q=>t σ H fun xs H1=>xs.length≤sizeLine∧∀p,H1 p=none→Q (.ref p) (upd H1 p (.lst xs))
theorem y4r{x1}(h:PA X es t):PE X (.Tuple es x1 pos) (tTup t):=by
 intro pins s σ H Q I hq
 refine wpAny_Tuple_spliced (thn (h pos pins s σ H _ I hq) fun us s1 ⟨xs,H1,I1,r,z,q⟩=>⟨by rw[←r.length];exact z,?_⟩)
 have hf:H1 s1.heap.objs.size=none:=I1.hok.fresh (qt _)
 refine⟨.ref s1.heap.objs.size,upd H1 s1.heap.objs.size (.tup xs),I1.laid (t':=s1.toks) (fun b u e=>qd _ e) (qt _) ?_,rfl,q _ hf⟩
 exact⟨z,us,r,⟨_,qo _ rfl,rfl,_,rfl⟩⟩
theorem y4s(h:PA X es t):PE X (.List es pos) (tLst t):=by
 intro pins s σ H Q I hq
 refine wpAny_List_spliced (thn (h pos pins s σ H _ I hq) fun us s1 ⟨xs,H1,I1,r,z,q⟩=>⟨by rw[←r.length];exact z,?_⟩)
 have hf:H1 s1.heap.objs.size=none:=I1.hok.fresh (qt _)
 refine⟨.ref s1.heap.objs.size,upd H1 s1.heap.objs.size (.lst xs),I1.laid (t':=s1.toks) (fun b u e=>qd _ e) (qt _) ?_,rfl,q _ hf⟩
 exact⟨z,us,0,r,qo _ rfl⟩
end
noncomputable abbrev Sp:=List V→Hp→VK→XK→Prop
noncomputable abbrev CXT:=List Env→Hp→Shared→XK→Value→Shared→Prop
structure Env0(P:Program)(w:World)(K:W.Frag)(mg:Str→Option Value)(base:Heap)(A:Around)(outer:List Env)(s:Shared)(H:Hp):Prop where
 frames:A.frames=some outer
 mod:Mod K mg base
 bs:∀b o,base.get? b=some o→s.heap.get? b=some o∧H b=none
 bsz:base.objs.size≤s.heap.objs.size
 funs:s.heap.FunFrames base outer
 frf:∀b∈frs outer,H b=none
 hok:HOk P w H s.heap
 bare:AllBare s.gens
def CE(outer:List Env)(P:Program)(w:World)(H:Hp)(s:Shared)(Q:VK)(u:Value)(s':Shared):Prop:=
 ∃v H',s'.os=s.os∧AllBare s'.gens∧Un (frs outer) [] H H' s.heap s'.heap∧HOk P w H' s'.heap∧RelV v u∧Q v H'
def CR(CX:CXT)(outer:List Env)(P:Program)(w:World)(H:Hp)(s:Shared)(Q:VK)(E:XK)(r:Result)(s':Shared):Prop:=
 match r with
 | .ok (.ret u)=>CE outer P w H s Q u s'
 | .ok _=>False
 | .error e=>CX outer H s E e s'
structure FnOk(P:Program)(w:World)(K:W.Frag)(mg:Str→Option Value)(base:Heap)(CX:CXT)(k:Nat)(f:Addr)(fd:FuncData)(ps:List Str)(sp:Sp):Prop where
 len:∀vs H Q E,sp vs H Q E→vs.length=ps.length
 run:∀(A:Around) (outer:List Env) (s:Shared) (H:Hp) (args:Args) (us:List Value) (vs:List V) (Q:VK) (E:XK),Room k A→Env0 P w K mg base A outer s H→BindsTo s fd args (ps.zip us)→Vals vs us→sp vs H Q E→
  codeAny (model P w) A (.call (.ref f) args) (CR CX outer P w H s Q E) s
section
variable {X:Cx} {pins:List (Addr × Obj)} {σ:St} {H:Hp} {s s':Shared}
theorem Inv.env0(I:Inv X pins σ H s):Env0 X.prog X.w X.K X.mg X.base X.A X.stack s H:=
 ⟨I.ok.frames,I.ok.mod,I.bs,Nat.le_trans I.ok.bsz I.sz,I.stack,I.stkFree,I.hok,I.bare⟩
theorem Inv.after{Q:VK}{u:Value}(I:Inv X pins σ H s)(h:CE X.stack X.prog X.w H s Q u s'):EP X pins σ Q u s':=by
 obtain⟨v,H',os,bare,un,hok,r,q⟩:=h
 obtain⟨hh,g,d,t,os'⟩:=s'
 obtain rfl:os'=s.os:=os
 exact⟨v,H',I.call (h':=hh) (g':=g) (d':=d) (t':=t) (ch:=[]) un hok bare (fun b z=>absurd z (by simp)),r,q⟩
end
noncomputable def y7f(sp:Sp)(dvs:List V)(E:XK)(t:TA):TE:=fun σ H Q=>t σ H fun vs H1=>sp (vs++dvs) H1 Q E
def Binds(K:W.Frag)(fd:FuncData)(ps:List Str)(ds:List Value):Prop:=
 ∀(s:Shared) (us:List Value),K.In s.heap→(us++ds).length=ps.length→BindsTo s fd ⟨us,[]⟩ (ps.zip (us++ds))
theorem Binds.all{K:W.Frag}{fd:FuncData}{ps:List Str}(h:∀us:List Value,us.length=ps.length→bindArgs fd ⟨us,[]⟩=pure (ps.zip us)):Binds K fd ps []:=fun s us _ hl=>by
 rw[List.append_nil]at hl ⊢
 exact .of_eq (h us hl)
def Yu8(CX:CXT)(X:Cx)(E:XK):Prop:=∀(pins:List (Addr × Obj)) (σ:St) (H:Hp) (s:Shared) (e:Value) (s':Shared),Inv X pins σ H s→CX X.stack H s E e s'→X.xe e s'
section
variable {X:Cx} {CX:CXT} {k:Nat} {f C:Addr} {fd:FuncData} {ps:List Str} {sp:Sp} {dvs:List V} {ds:List Value} {E:XK} {x m:Str} {p pos apos:Pos} {e o:Expr} {es:List Expr} {ta:TE} {t:TA}
theorem y4t{pins:List (Addr × Obj)}{σ:St}{H:Hp}{s:Shared}{Q:VK}{us:List Value}{vs:List V}(F:FnOk X.prog X.w X.K X.mg X.base CX k f fd ps sp)(hr:Room k X.A)(hb:Binds X.K fd ps ds)(hd:Vals dvs ds)(hx:Yu8 CX X E)
 (I:Inv X pins σ H s) (r:Vals vs us) (h:sp (vs++dvs) H Q E):wpAny (model X.prog X.w) X.A (call (.ref f) us) (EP X pins σ Q) X.xe s:=by
 have r2:Vals (vs++dvs) (us++ds):=r.append hd
 have hl:(us++ds).length=ps.length:=by rw[←r2.length];exact F.len _ _ _ _ h
 refine wpAny_call (codeAny_mono (F.run X.A X.stack s H ⟨us,[]⟩ (us++ds) (vs++dvs) Q E hr I.env0 (hb s us I.kIn hl) r2 h) fun r s' hq=>?_)
 cases r with
 | error e=>exact hx pins σ H s e s' I hq
 | ok fl=>
   cases fl with
   | ret u=>exact I.after hq
   | next=>exact False.elim hq
   | brk=>exact False.elim hq
   | cont=>exact False.elim hq
theorem y1o(F:FnOk X.prog X.w X.K X.mg X.base CX k f fd ps sp)(hr:Room k X.A)(hg:Gl X x)(hm:X.mg x=some (.ref f))(hk:W.keepIn X.K (.ref f)=true)(hb:Binds X.K fd ps ds)(hd:Vals dvs ds)(hx:Yu8 CX X E)
 (ha:PA X (e::es) t) (hdb:(x==("__debug__":Str))=false:=by decide) (he:starEach (e::es) X.env=(false,eval e X.env)::starEach es X.env:=by rfl) (hpl:(backTo pos (starEach es X.env)).any (·.1)=false:=by rfl) :
 PE X (.Call (.Name x p) (e::es) [] pos) (y7f sp dvs E t):=by
 intro pins s σ H Q I h
 refine wpAny_Call_Name_kw (Yqw I hg hm ?_ hdb)
 refine W.callWith_K (h₀:=X.base) I.ok.mod.kin hk (thn (ha pos pins s σ H _ I h) fun us s1 hx_=>?_) he hpl
 obtain⟨vs,H1,I1,r,q⟩:=hx_
 refine⟨I1.kIn,?_⟩
 exact y4t F hr hb hd hx I1 r q
structure Mk(K:W.Frag)(C f:Addr):Prop where
 makes:W.makesIn K C=true
 init:W.findIn K (.ref C) "__init__"=some (some (.ref f))
 fn:W.isFn K (.ref f)=true
 kp:W.keepIn K (.ref C)=true
end
section
variable {X:Cx} {CX:CXT} {k:Nat} {f C:Addr} {fd:FuncData} {ps ks:List Str} {sp:Sp} {E:XK} {x m:Str} {p pos apos kpos:Pos} {e o:Expr} {es:List Expr} {kws:List Keyword} {te ta:TE} {t tk:TA} {nm:Option Str}
structure KBinds(K:W.Frag)(fd:FuncData)(ps ks:List Str)(g:List Value→List Value→List Value)(gV:List V→List V→List V):Prop where
 to:∀(s:Shared) (us ws:List Value),K.In s.heap→(g us ws).length=ps.length→BindsTo s fd ⟨us,ks.zip ws⟩ (ps.zip (g us ws))
 rel:∀{vs:List V} {us:List Value} {zs:List V} {ws:List Value},Vals vs us→Vals zs ws→Vals (gV vs zs) (g us ws)
variable {g:List Value→List Value→List Value} {gV:List V→List V→List V}
end
structure FnScope(N P:List Str)(sc:Scope):Prop where
 kind:sc.kind=.function
 co:sc.isCoroutine=false
 gen:sc.isGenerator=false
 nd:N.Nodup
 pre:N.take P.length=P
 par:∀x∈P,sc.names.lookup x=some .local∨sc.names.lookup x=some .cell
 nofree:∀y∈sc.names,y.2≠.free
theorem Yoo{kindOf:Str→Option NameKind}{x:Str}:∀{binds:List (Str × Value)} {m:Str→Option Value},(∀v,(x,v)∉binds)→bindL kindOf binds m x=m x
 | [],_,_=>rfl
 | (n,v)::r,m,h=>by
   unfold bindL
   rw[Yoo fun w hw=>h w (qf _ hw)]
   split
   ·have:x≠n:=by rintro rfl;exact h v qg
    simp[this]
   ·rfl
theorem Yop{kindOf:Str→Option NameKind}{x:Str}:∀{binds:List (Str × Value)} {m:Str→Option Value},(∀v,(x,v)∉binds)→bindC kindOf binds m x=m x
 | [],_,_=>rfl
 | (n,v)::r,m,h=>by
   unfold bindC
   rw[Yop fun w hw=>h w (qf _ hw)]
   split
   ·rfl
   ·have:x≠n:=by rintro rfl;exact h v qg
    simp[this]
theorem Yoq{kindOf:Str→Option NameKind}{x:Str}{v:Value}:∀{P:List Str} {vs:List Value} {i:Nat} {m:Str→Option Value},P.Nodup→P[i]?=some x→vs[i]?=some v→kindOf x=some .local→
 bindL kindOf (P.zip vs) m x=some v
 | [],_,_,_,_,h,_,_=>by simp at h
 | _::_,[],_,_,_,_,h,_=>by simp at h
 | p::P,w::vs,0,m,nd,h1,h2,hk=>by
   simp at h1 h2;subst h1;subst h2
   show bindL kindOf ((p,w)::P.zip vs) m p=_
   unfold bindL
   rw[Yoo fun v hv=>(List.nodup_cons.mp nd).1 (List.of_mem_zip hv).1,if_pos hk]
   simp
 | p::P,w::vs,i+1,m,nd,h1,h2,hk=>by
   show bindL kindOf ((p,w)::P.zip vs) m x=_
   unfold bindL
   exact Yoq (i:=i) (List.nodup_cons.mp nd).2 (by simpa using h1) (by simpa using h2) hk
theorem Yor{kindOf:Str→Option NameKind}{x:Str}{v:Value}:∀{P:List Str} {vs:List Value} {i:Nat} {m:Str→Option Value},P.Nodup→P[i]?=some x→vs[i]?=some v→kindOf x≠some .local→
 bindC kindOf (P.zip vs) m x=some v
 | [],_,_,_,_,h,_,_=>by simp at h
 | _::_,[],_,_,_,_,h,_=>by simp at h
 | p::P,w::vs,0,m,nd,h1,h2,hk=>by
   simp at h1 h2;subst h1;subst h2
   show bindC kindOf ((p,w)::P.zip vs) m p=_
   unfold bindC
   rw[Yop fun v hv=>(List.nodup_cons.mp nd).1 (List.of_mem_zip hv).1,if_neg hk]
   simp
 | p::P,w::vs,i+1,m,nd,h1,h2,hk=>by
   show bindC kindOf ((p,w)::P.zip vs) m x=_
   unfold bindC
   exact Yor (i:=i) (List.nodup_cons.mp nd).2 (by simpa using h1) (by simpa using h2) hk
noncomputable def start(N:List Str)(vs:List V):St:=vs.map some++List.replicate (N.length - vs.length) none
noncomputable def cxOf(CX:CXT)(P:Program)(w:World)(K:W.Frag)(mg:Str→Option Value)(base:Heap)(N:List Str)(qual:Str)(scope:Scope)(f:Addr)(cd:Value)(A:Around)(outer:List Env)(s:Shared)(H:Hp)(E:XK):Cx where
 prog:=P
 w:=w
 K:=K
 mg:=mg
 base:=base
 A:=A.deeper (envOfC qual scope s.heap.objs.size f cd)
 N:=N
 s₀:=s
 H₀:=H
 env:=envOfC qual scope s.heap.objs.size f cd
 outer:=outer
 stack:=envOfC qual scope s.heap.objs.size f cd::outer
 ex:=[]
 calm:=true
 fn:=fun _=>true
 pn:=[]
 xe:=fun e s'=>wpAny (model P w) (A.deeper (envOfC qual scope s.heap.objs.size f cd)) (leaving (envOfC qual scope s.heap.objs.size f cd) e) (fun _ s''=>CX outer H s E e s'') (fun e' s''=>CX outer H s E e' s'') s'
theorem Ysq{sc:Scope}{n:Nat}{x:Str}(h:sc.names.lookup x=some .cell):∃c,(cellsFrom n sc.names []).lookup x=some c:=by
 have q:=PySem.W.cellsFrom_some sc.names n [] (.inl h)
 exact Option.isSome_iff_exists.mp q
theorem Yu9{CX:CXT}{P:Program}{w:World}{K:W.Frag}{mg:Str→Option Value}{base:Heap}{N ps:List Str}{qual:Str}{scope:Scope}{f:Addr}{cd:Value}{A:Around}{outer:List Env}{s s1:Shared}{H:Hp}{E:XK}{us:List Value}{vs:List V}
 (S:FnScope N ps scope) (hd:A.handled=none) (e0:Env0 P w K mg base A outer s H) (hl:vs.length=ps.length) (r:Vals vs us)
 (x:InCallC s s.heap.objs.size (bindL (envOfC qual scope s.heap.objs.size f cd).kindOf (ps.zip us) fun _=>none) (cellsFrom (s.heap.objs.size+1) scope.names []) (bindC (envOfC qual scope s.heap.objs.size f cd).kindOf (ps.zip us) fun _=>none) s1) :
 Inv (cxOf CX P w K mg base N qual scope f cd A outer s H E) [] (start N vs) H s1:=by
 have hpl:ps.length≤N.length:=by have:=congrArg List.length S.pre;rw[List.length_take]at this;lia
 obtain⟨h1,tk,rfl,hk⟩:=x.done
 have noA:∀b:Addr,b∉(cxOf CX P w K mg base N qual scope f cd A outer s H E).ex:=fun b z=>absurd (show b∈([]:List Addr) from z) (by simp)
 refine⟨⟨e0.mod,S.kind,rfl,rfl,qt _,fun y z c h1 h2=>?_,fun y hy=>?_,fun y c _ h=>?_,fun _=>hd,Around.frames_deeper e0.frames,.inr ⟨rfl,rfl⟩,fun b z=>absurd z (noA b),e0.bs,e0.bsz,fun b _ _=>noA b,fun b z=>absurd z (noA b),e0.funs,e0.frf⟩,
  rfl,e0.bare,Un.kept hk,⟨_,x.toInCall.ns,fun i y v h1 h2 h3=>?_⟩,fun y c h=>⟨_,x.cell y c h⟩,e0.hok.fresh (qt _),fun y c h=>?_,fun p hp=>absurd (show p∈([]:List (Addr × Obj)) from hp) (by simp),e0.hok.kept hk,?_⟩
 ·exact name_of_addr x.apart (PySem.mem_of_lookup h1) (PySem.mem_of_lookup h2)
 ·have hy:scope.names.lookup y=some .cell∨scope.names.lookup y=some .free:=hy
  rcases hy with hy | hy
  ·exact Ysq hy
  ·exact absurd rfl (S.nofree _ (PySem.mem_of_lookup hy))
 ·exact Nat.le_of_lt (x.above y c (PySem.mem_of_lookup h))
 ·have hi:i < vs.length:=by
   unfold start at h2
   by_cases hi:i < vs.length
   ·exact hi
   ·rw[List.getElem?_append_right (by simpa using hi)]at h2
    rw[List.getElem?_replicate]at h2
    split at h2<;>cases h2
  have ha:vs[i]?=some v:=by
   unfold start at h2
   rw[List.getElem?_append_left (by simpa using hi),Qh]at h2
   cases e:vs[i]? with
   | none=>rw[e]at h2;cases h2
   | some a=>rw[e]at h2;cases h2;rfl
  obtain⟨u,hu,rv⟩:=r.get ha
  have hp:ps[i]?=some y:=by
   rw[←S.pre,List.getElem?_take_of_lt (by lia)];exact h1
  have ndP:ps.Nodup:=by rw[←S.pre];exact S.nd.sublist (List.take_sublist _ _)
  refine⟨u,rv,?_⟩
  rcases S.par y (List.mem_of_getElem? hp)with k | k
  ·exact .inl ⟨k,Yoq ndP hp hu k⟩
  ·obtain⟨c,e⟩:=Ysq (n:=s.heap.objs.size+1) k
   refine .inr ⟨.inl k,c,e,?_⟩
   have q:=x.cell y c e
   rw[Yor ndP hp hu (by show scope.names.lookup y≠_;rw[k];decide)]at q
   exact q
 ·exact e0.hok.fresh (Nat.le_of_lt (x.above y c (PySem.mem_of_lookup h)))
 ·unfold start
  show _=N.length
  rw[qy,qe,List.length_replicate]
  lia
theorem y7g{CX:CXT}{P:Program}{w:World}{K:W.Frag}{mg:Str→Option Value}{base:Heap}{k:Nat}{f:Addr}{name qual:Str}{params:Arguments}{body:List Stmt}{scope:Scope}{dV kV doc pm cdv ct oc:Value}{an od:Option Addr}
 {osl:Array (Option Value)} {N ps:List Str} {sp:Sp} (lk:K.lookup f=some ⟨oc,od,.func (W.fnOf name qual params body scope dV kV doc pm an cdv ct),osl⟩) (hcd:W.codeIn K cdv qual=true) (S:FnScope N ps scope)
 (len:∀vs H Q E,sp vs H Q E→vs.length=ps.length)
 (hbody:∀(A:Around) (outer:List Env) (s:Shared) (H:Hp) (vs:List V) (Q:VK) (E:XK),Room k (A.deeper (envOfC qual scope s.heap.objs.size f cdv))→sp vs H Q E→
  ∃t,PSs (cxOf CX P w K mg base N qual scope f cdv A outer s H E) body t∧t { nx:=fun _ H'=>Q .non H',rt:=Q } (start N vs) H) :
 FnOk P w K mg base CX (k+1) f (W.fnOf name qual params body scope dV kV doc pm an cdv ct) ps sp:=by
 refine⟨len,fun A outer s H args us vs Q E hr e0 hb r hsp=>?_⟩
 have hl:=len _ _ _ _ hsp
 have KX:K.In s.heap:=e0.mod.kin.keeps fun b o e=>(e0.bs b o e).1
 have lim:s.heap.NoLimit:=e0.mod.nolimit.keeps fun b o e=>(e0.bs b o e).1
 have hkind:∀y∈ps.zip us,scope.names.lookup y.1=some .local∨(scope.names.lookup y.1=some .cell∧((cellsFrom (s.heap.objs.size+1) scope.names []).lookup y.1).isSome=true):=fun⟨n,v⟩ hy=>by
  rcases S.par n (List.of_mem_zip hy).1 with q | q
  ·exact .inl q
  ·exact .inr ⟨q,PySem.W.cellsFrom_some _ _ _ (.inl q)⟩
 refine codeAny_call_function hr.depth (KX _ _ lk) rfl S.co S.gen rfl (W.codeRec_of KX hcd) (hb _ _ _ _ ?_)
 refine wpAny_newFunctionEnv_cells S.kind hkind fun env he s1 x=>?_
 subst he
 refine⟨lim.keeps x.toInCall.keep,codeAny_func ?_⟩
 obtain⟨t,ht,hq⟩:=hbody A outer s H vs Q E (hr.deeper _) hsp
 have I:Inv (cxOf CX P w K mg base N qual scope f cdv A outer s H E) [] (start N vs) H s1:=Yu9 S hr.hd e0 hl r x
 refine wpAny_mono (ht [] s1 (start N vs) H _ I hq) (fun fl s' hs=>?_) fun e s' hs=>hs
 have fin:∀{σ':St} {H':Hp} {v:V} {u:Value},Inv (cxOf CX P w K mg base N qual scope f cdv A outer s H E) [] σ' H' s'→RelV v u→Q v H'→CE outer P w H s Q u s':=
  fun {σ' H' v u} J rv q=>⟨v,H',J.os,J.bare,J.base,J.hok,rv,q⟩
 cases fl with
 | ret u=>
   obtain⟨v,σ',H',J,rv,q⟩:=hs
   exact fin J rv q
 | next=>
   obtain⟨σ',H',J,q⟩:=hs
   exact fin (v:=V.non) (u:=Value.none) J rfl q
 | brk=>
   obtain⟨_,_,_,q⟩:=hs
   exact False.elim q
 | cont=>
   obtain⟨_,_,_,q⟩:=hs
   exact False.elim q
end L2
namespace L2
open PySem PySem.Spec PyProof.Rows
section
variable {X:Cx} {x:Str} {p pos:Pos} {e:Expr} {es:List Expr} {t:TA} {id T:String} {r:List V→Hp→VK→Prop}
noncomputable def tCB(r:List V→Hp→VK→Prop)(t:TA):TE:=fun σ H Q=>t σ H fun vs H1=>r vs H1 Q
theorem Yfx(hc:Ycv X (.builtin id) r)(hg:Gl X x)(hm:X.mg x=none)(hv:bootBuiltins x=some (.builtin id))(ha:PA X (e::es) t)(hn:x≠"__name__":=by decide)(hdb:(x==("__debug__":Str))=false:=by decide)
 (he:starEach (e::es) X.env=(false,eval e X.env)::starEach es X.env:=by rfl) (hpl:(backTo pos (starEach es X.env)).any (·.1)=false:=by rfl):PE X (.Call (.Name x p) (e::es) [] pos) (tCB r t):=by
 intro pins s σ H Q I h
 refine wpAny_Call_Name_kw (Yj1 I hg hm hv ?_ hn hdb)
 refine PyProof.Rows.callWith_builtin1 (thn (ha pos pins s σ H _ I h) fun us s1 hx_=>?_) he hpl
 obtain⟨vs,H1,I1,r1,q1⟩:=hx_
 exact hc pins s1 σ H1 vs us Q I1 r1 q1
theorem Yfc(hc:Ycv X (.type T) r)(hg:Gl X x)(hm:X.mg x=none)(hv:bootBuiltins x=some (.type T))(ha:PA X (e::es) t)(hn:x≠"__name__":=by decide)(hdb:(x==("__debug__":Str))=false:=by decide)
 (he:starEach (e::es) X.env=(false,eval e X.env)::starEach es X.env:=by rfl) (hpl:(backTo pos (starEach es X.env)).any (·.1)=false:=by rfl):PE X (.Call (.Name x p) (e::es) [] pos) (tCB r t):=by
 intro pins s σ H Q I h
 refine wpAny_Call_Name_kw (Yj1 I hg hm hv ?_ hn hdb)
 refine PyProof.Rows.callWith_type1 (thn (ha pos pins s σ H _ I h) fun us s1 hx_=>?_) he hpl
 obtain⟨vs,H1,I1,r1,q1⟩:=hx_
 exact hc pins s1 σ H1 vs us Q I1 r1 q1
end
end L2
namespace L2
open PySem PySem.Spec PyProof.Rows
section
variable {κ:Type} [DecidableEq κ]
noncomputable def valV(kvs:List (κ × V))(k:κ):Option V:=(kvs.find? fun kv=>decide (kv.1=k)).map (·.2)
noncomputable def putK(kvs:List (κ × V))(k:κ)(v:V):List (κ × V):=
 if (kvs.any fun kv=>decide (kv.1=k))=true then kvs.map (fun kv=>if kv.1=k then (kv.1,v)else kv)else kvs++[(k,v)]
theorem Yd2{p:κ × V}{r:List (κ × V)}{k:κ}(e:p.1=k):valV (p::r) k=some p.2:=by simp[valV,List.find?_cons,e]
theorem Yd3{p:κ × V}{r:List (κ × V)}{k:κ}(e:¬p.1=k):valV (p::r) k=valV r k:=by simp[valV,List.find?_cons,e]
theorem Ysr(k:κ):∀kvs:List (κ × V),(kvs.any fun kv=>decide (kv.1=k))=(valV kvs k).isSome
 | []=>rfl
 | p::r=>by
   rw[List.any_cons]
   by_cases e:p.1=k
   ·simp only[Yd2 e,decide_eq_true e,Bool.true_or,Option.isSome_some]
   ·rw[Yd3 e,decide_eq_false e,Bool.false_or];exact Ysr k r
theorem Yos(k j:κ)(y:V):∀kvs:List (κ × V),valV kvs k=none→valV (kvs++[(k,y)]) j=if j=k then some y else valV kvs j
 | [],_=>by
   by_cases e:k=j
   ·rw[if_pos e.symm];exact Yd2 (p:=(k,y)) e
   ·rw[if_neg (fun z=>e z.symm)];exact Yd3 (p:=(k,y)) e
 | p::r,hn=>by
   rw[List.cons_append]
   have hk:¬p.1=k:=fun z=>by rw[Yd2 z]at hn;cases hn
   rw[Yd3 hk]at hn
   have ih:=Yos k j y r hn
   by_cases e:p.1=j
   ·rw[Yd2 e,Yd2 e,if_neg (fun z=>hk (e.trans z))]
   ·rw[Yd3 e,Yd3 e,ih]
theorem Yqy(kvs:List (κ × V))(k:κ)(v:V):(putK kvs k v).length≤kvs.length+1:=by
 unfold putK
 split
 ·rw[qe];lia
 ·rw[qy,qq,List.length_nil];lia
theorem Yyj{kvs:List (κ × V)}{k:κ}(v:V)(h:valV kvs k=none):putK kvs k v=kvs++[(k,v)]:=by
 unfold putK
 rw[Ysr,h]
 exact if_neg (by decide)
theorem RelO.isSome_eq{o:Option V}{u:Option Value}(r:RelO o u):o.isSome=u.isSome:=by
 cases o with
 | none=>cases u with
   | none=>rfl
   | some _=>exact(show False from r).elim
 | some _=>cases u with
   | none=>exact(show False from r).elim
   | some _=>rfl
theorem KV.val{kvs:List (κ × V)}{vs:List (κ × Value)}(r:KV kvs vs)(k:κ):RelO (valV kvs k) (valueAt vs k):=by
 unfold KV at r
 induction r with
 | nil=>exact True.intro
 | @cons p q ps qs h t ih=>
   obtain⟨h1,h2⟩:=h
   by_cases e:p.1=k
   ·have e':q.1=k:=h1.symm.trans e
    have b:valueAt (q::qs) k=some q.2:=by simp[valueAt,List.find?_cons,e']
    rw[Yd2 e,b];exact h2
   ·have e':¬q.1=k:=fun z=>e (h1.trans z)
    have b:valueAt (q::qs) k=valueAt qs k:=by simp[valueAt,List.find?_cons,e']
    rw[Yd3 e,b];exact ih
theorem KV.any{kvs:List (κ × V)}{vs:List (κ × Value)}(r:KV kvs vs)(k:κ):(kvs.any fun kv=>decide (kv.1=k))=vs.any fun kv=>decide (kv.1=k):=by
 unfold KV at r
 induction r with
 | nil=>rfl
 | cons h t ih=>rw[List.any_cons,List.any_cons,ih,h.1]
theorem KV.repl{kvs:List (κ × V)}{vs:List (κ × Value)}(r:KV kvs vs)(k:κ){y:V}{u:Value}(ry:RelV y u) :
 KV (kvs.map fun kv=>if kv.1=k then (kv.1,y)else kv) (vs.map fun kv=>if kv.1=k then (kv.1,u)else kv):=by
 unfold KV at r ⊢
 induction r with
 | nil=>exact .nil
 | @cons p q ps qs h t ih=>
   rw[Qc,Qc]
   refine .cons ?_ ih
   obtain⟨h1,h2⟩:=h
   by_cases e:p.1=k
   ·rw[if_pos e,if_pos (h1.symm.trans e)];exact⟨h1,ry⟩
   ·rw[if_neg e,if_neg (fun z=>e (h1.trans z))];exact⟨h1,h2⟩
theorem KV.put{kvs:List (κ × V)}{vs:List (κ × Value)}(r:KV kvs vs)(k:κ){y:V}{u:Value}(ry:RelV y u):KV (putK kvs k y) (stored vs k u):=by
 unfold putK stored
 rw[r.any k]
 by_cases e:(vs.any fun kv=>decide (kv.1=k))=true
 ·rw[if_pos e,if_pos e];exact r.repl k ry
 ·rw[if_neg e,if_neg e];exact Paired.snoc r ⟨rfl,ry⟩
end
theorem y1p{P:Program}{w:World}{k:Key}{u:Value}(r:RelV (kV k) u):(Yb0 P w).is k u=true:=by
 cases k with
 | inl i=>obtain⟨t,e⟩:=(show ∃t,u=Value.int i t from r);subst e;exact Yqu P w i t
 | inr x=>obtain⟨t,e⟩:=(show ∃t,u=Value.str x t from r);subst e;exact Yqv P w x t
theorem Yot{P:Program}{w:World}:∀{ks:List Key} {us:List Value},Vals (ks.map kV) us→ItemsAre (Yb0 P w) ks us
 | [],_,r=>by rw[List.map_nil]at r;cases r;exact .nil
 | k::ks,_,r=>by
   rw[Qc]at r
   cases r with
   | cons h t=>exact .cons (y1p h) (Yot t)
noncomputable abbrev KT(H:Hp):List (List Key × V)→List (List Key × Addr × Value)→Prop:=Paired fun p q=>p.1=q.1∧H q.2.1=some (.tup (p.1.map kV))∧RelV p.2 q.2.2
theorem KT.val{H:Hp}{kvs:List (List Key × V)}{xs:List (List Key × Addr × Value)}(r:KT H kvs xs)(k:List Key):RelO (valV kvs k) ((atKey xs k).map (·.2)):=by
 induction r with
 | nil=>exact True.intro
 | @cons p q ps qs h t ih=>
   obtain⟨h1,_,h2⟩:=h
   by_cases e:p.1=k
   ·have e':q.1=k:=h1.symm.trans e
    have b:atKey (q::qs) k=some q.2:=by simp[atKey,List.find?_cons,e']
    rw[Yd2 e,b];exact h2
   ·have e':¬q.1=k:=fun z=>e (h1.trans z)
    have b:atKey (q::qs) k=atKey qs k:=by simp[atKey,List.find?_cons,e']
    rw[Yd3 e,b];exact ih
section
variable {P:Program} {w:World} {H:Hp} {h:Heap} {a:Addr}
theorem y4u{u:HO}(ok:HOk P w H h)(e:Rd H a u):ObjOk P w H h a u:=e.ok ok
theorem y1q{kvs:List (Key × V)}(ok:HOk P w H h)(e:Rd H a (.dK kvs)):kvs.length≤sizeLine∧(a==sysModules)=false∧∃vs,KV kvs vs∧h.DictOf (Yb0 P w) a vs:=
 show ObjOk P w H h a (.dK kvs) from y4u ok e
theorem y7h{kvs:List (Key × V)}(ok:HOk P w H h)(e:H a=some (.dK kvs)):kvs.length≤sizeLine∧(a==sysModules)=false∧∃vs,KV kvs vs∧h.DictOf (Yb0 P w) a vs:=y1q ok (.inl e)
theorem y0f{ks:List Key}(ok:HOk P w H h)(e:H a=some (.tup (ks.map kV))):(tupleKind (Yb0 P w)).is h ks a:=by
 obtain⟨_,its,r,o,h1,h2,n,h3⟩:=(show ObjOk P w H h a (.tup (ks.map kV)) from ok a _ e)
 exact⟨o,its.toArray,n,h1,h2,h3,by simpa using Yot r⟩
theorem y4v{kvs:List (List Key × V)}(ok:HOk P w H h)(e:Rd H a (.dT kvs)):kvs.length≤sizeLine∧(a==sysModules)=false∧
 ∃xs,KT H kvs xs∧h.DictOfH (tupleKind (Yb0 P w)) a xs:=by
 obtain⟨z,y,xs,r,o,es,ep,h1,h2,h3,h4,h5⟩:=(show ObjOk P w H h a (.dT kvs) from y4u ok e)
 refine⟨z,y,xs,r,o,es,ep,h1,h2,h3,h4,fun x hx=>?_,h5⟩
 have all:∀{l:List (List Key × V)} {m:List (List Key × Addr × Value)},KT H l m→∀x∈m,(tupleKind (Yb0 P w)).is h x.1 x.2.1:=by
  intro l m q
  induction q with
  | nil=>intro x hx;exact nomatch hx
  | @cons p q ps qs hq t ih=>
    intro x hx
    rcases qr hx with e | hx
    ·subst e
     exact y0f ok (by rw[←hq.1];exact hq.2.1)
    ·exact ih x hx
 exact all r x hx
end
def DGet(H:Hp)(a:Addr)(y:V)(r:Option V):Prop:=
 (∃kvs k,Rd H a (.dK kvs)∧y=kV k∧r=valV kvs k)∨∃kvs k b,Rd H a (.dT kvs)∧y=.ref b∧H b=some (.tup (k.map kV))∧r=valV kvs k
section
variable {X:Cx} {pins:List (Addr × Obj)} {σ:St} {H:Hp} {s:Shared} {a:Addr} {y v:V} {u r:Value} {o:Option V} {A:Around} {E:Value→Shared→Prop}
theorem Inv.big(I:Inv X pins σ H s):sysModules < s.heap.objs.size:=by
 have h:mainGlobals < s.heap.objs.size:=(I.mod.glob.keeps I.bk).lt
 exact Nat.lt_trans (by decide) h
theorem Yva{Q:Value→Shared→Prop}(hu:A.units+1 < cLine)(I:Inv X pins σ H s)(g:DGet H a y (some v))(ry:RelV y u)(h:∀w' s',Inv X pins σ H s'→RelV v w'→Q w' s') :
 wpAny (model X.prog X.w) A (getItem (.ref a) u) Q E s:=by
 rcases g with⟨kvs,k,e,ey,l⟩ | ⟨kvs,k,b,e,ey,eb,l⟩
 ·subst ey
  obtain⟨z,hd,vs,rel,dd⟩:=y1q I.hok e
  obtain⟨w',hw,rw'⟩:=RelO.some_of (v:=v) (o:=valueAt vs k) (by rw[l];exact rel.val k)
  exact wpAny_getItem_of (y1p ry) dd.mapOf hw (h w' _ (I.tok _) rw')
 ·subst ey
  cases (show u=Value.ref b from ry)
  obtain⟨z,hd,xs,rel,dd⟩:=y4v I.hok e
  obtain⟨w',hw,rw'⟩:=RelO.some_of (v:=v) (o:=(atKey xs k).map (·.2)) (by rw[l];exact rel.val k)
  obtain⟨p,hp,hp2⟩:=qb hw
  refine wpAny_getItem_heap (tupleKind_room_in1 hu) (y0f I.hok eb) dd hp ?_
  rw[hp2]
  exact h w' _ (I.tok _) rw'
theorem y1r{h':Heap}{t':Nat}{ob:HO}(I:Inv X pins σ H s)(mu:Mut (H a))(hs:Heap.SameBut a s.heap h')(he:∃q,h'.get? a=some q)(new:ObjOk X.prog X.w (upd H a ob) h' a ob) :
 Inv X pins σ (upd H a ob) { s with heap:=h',toks:=t' }:=
 I.write (x:=a) (e:=a) mu (.inl rfl) (fun b q hb z=>(hs.2 b hb).trans z) he new
theorem y4w{P:Program}{w:World}{H':Hp}{h':Heap}{kvs:List (Key × V)}{vs:List (Key × Value)}(z:kvs.length≤sizeLine)(hd:(a==sysModules)=false)(rel:KV kvs vs)(dd:h'.DictOf (Yb0 P w) a vs) :
 ObjOk P w H' h' a (.dK kvs):=⟨z,hd,vs,rel,dd⟩
end
def NoSl(i:Expr):Prop:=∀ov iv,subscripted i false ov iv=operate [ov,iv] (getItem ov iv)
theorem Yvb{prog:Program}{w:World}{A:Around}{E:Value→Shared→Prop}{s:Shared}{env:Env}{value slice:Expr}{pos:Pos}{T id:String}{Q:Value→Shared→Prop}
 (hl:typeLookup (.type T) "__getitem__"=pure (some (.builtin id))) (hs:NoSl slice)
 (h:wpAny (model prog w) A (eval value env) (fun o s₁=>wpAny (model prog w) A (eval slice env) (fun i s₂=>s₂.TypeIs o T∧wpAny (model prog w) A (getItem o i) Q E s₂) E s₁) E s) :
 wpAny (model prog w) A (eval (.Subscript value slice pos) env) Q E s:=by
 refine Subscript_ (wpAny_mono h (fun o s₁ h₁=>wpAny_mono h₁ (fun i s₂ h₂=>?_) fun _ _ x=>x) fun _ _ x=>x)
 obtain⟨hT,h₂⟩:=h₂
 unfold subscriptTail
 refine wpAny_bind ?_
 rw[getitemInPython_of_ne hT.not_modules]
 refine wpAny_bind (wpAny_specialOf hT hl ?_)
 have fin:wpAny (model prog w) A (subscripted slice false o i) (fun r s₃=>wpAny (model prog w) A (letTemporaryGo value o r >>= fun _=>pure r) Q E s₃) E s₂:=by
  rw[hs o i]
  exact wpAny_operating (wpAny_mono h₂ (fun r s₃ h₃=>wpAny_bind (wpAny_letTemporaryGo (wpAny_pure h₃))) fun _ _ x=>x)
 first
  | exact wpAny_pure (wpAny_bind fin)
  | exact wpAny_bind (wpAny_pure (wpAny_bind fin))
  | exact wpAny_bind fin
theorem Yqz{X:Cx}{pins:List (Addr × Obj)}{σ:St}{H:Hp}{s:Shared}{a:Addr}{y:V}{o:Option V}(I:Inv X pins σ H s)(g:DGet H a y o):s.TypeIs (.ref a) "dict":=by
 rcases g with⟨kvs,k,e,_,_⟩ | ⟨kvs,k,b,e,_,_,_⟩
 ·obtain⟨_,_,vs,_,dd⟩:=y1q I.hok e
  exact dd.typeIs
 ·obtain⟨_,_,xs,_,dd⟩:=y4v I.hok e
  exact dd.typeIs
noncomputable def y7i(td ty:TE):TE:=fun σ H Q=>td σ H fun x H1=>ty σ H1 fun y H2=>∃a v,x=.ref a∧DGet H2 a y (some v)∧Q v H2
section
variable {X:Cx} {o i e value:Expr} {pos pos' tpos:Pos} {td ty tv:TE}
theorem y1s(hu:X.A.units+1 < cLine)(ho:PE X o td)(hi:PE X i ty)(hs:NoSl i):PE X (.Subscript o i pos) (y7i td ty):=by
 intro pins s σ H Q I h
 refine Yvb PySem.F.slot_dict_getitem.lookup hs (thn (ho pins s σ H _ I h) fun u s1 hx_=>?_)
 obtain⟨x,H1,I1,rx,q1⟩:=hx_
 refine thn (hi pins s1 σ H1 _ I1 q1) fun iv s2 hx_=>?_
 obtain⟨y,H2,I2,ry,a,v,ex,g,q2⟩:=hx_
 subst ex
 obtain rfl:u=Value.ref a:=rx
 exact⟨Yqz I2 g,Yva hu I2 g ry fun w' s3 I3 rw'=>⟨v,H2,I3,rw',q2⟩⟩
end
theorem Yyk{P:Program}{w:World}{H:Hp}(h:Heap)(hb:sysModules < h.objs.size):ObjOk P w H (h.push { cls:=.type "dict",data:=.dict #[] }) h.objs.size (.dK []):=
 ⟨Qe _,beq_eq_false_iff_ne.mpr (Ne.symm (ql hb)),[],.nil,Heap.DictOf.new h⟩
noncomputable def Yss:List (TE × TE)→St→Hp→(List (V × V)→Hp→Prop)→Prop
 | [],_,H,Q=>Q [] H
 | (tk,tv)::r,σ,H,Q=>tk σ H fun x H1=>tv σ H1 fun y H2=>Yss r σ H2 fun ps H3=>Q ((x,y)::ps) H3
noncomputable abbrev VV:List (V × V)→List (Value × Value)→Prop:=Paired fun p q=>RelV p.1 q.1∧RelV p.2 q.2
def PPs(X:Cx)(pos:Pos)(keys:List (Option Expr))(values:List Expr)(trs:List (TE × TE)):Prop:=
 ∀(pins:List (Addr × Obj)) (s:Shared) (σ:St) (H:Hp) (Q:List (V × V)→Hp→Prop),Inv X pins σ H s→Yss trs σ H Q→
  wpAny (model X.prog X.w) X.A (evalPairs (pairTrees keys values X.env pos)) (fun vs s'=>∃ps H',Inv X pins σ H' s'∧VV ps vs∧Q ps H') X.xe s
theorem y1t{X:Cx}{pos:Pos}:PPs X pos [] [] []:=fun pins s σ H Q I h=>pairTrees_nil_walk ⟨[],H,I,.nil,h⟩
theorem Yyl{X:Cx}{pos:Pos}{k v:Expr}{ks:List (Option Expr)}{vs:List Expr}{tk tv:TE}{trs:List (TE × TE)}(hk:PE X k tk)(hv:PE X v tv)(hr:PPs X pos ks vs trs) :
 PPs X pos (some k::ks) (v::vs) ((tk,tv)::trs):=fun pins s σ H Q I h=>
 pairTrees_cons_walk (thn (hk pins s σ H _ I h) fun u s1 ⟨x,H1,I1,rx,q1⟩=>thn (hv pins s1 σ H1 _ I1 q1) fun w2 s2 ⟨y,H2,I2,ry,q2⟩=>
  thn (hr pins s2 σ H2 _ I2 q2) fun ws s3 ⟨ps,H3,I3,rel,q3⟩=>⟨(x,y)::ps,H3,I3,.cons ⟨rx,ry⟩ rel,q3⟩)
noncomputable def Yg0(kvs more:List (Key × V)):List (Key × V):=more.foldl (fun acc kv=>putK acc kv.1 kv.2) kvs
theorem KV.merge:∀{more:List (Key × V)} {rs:List (Key × Value)} {kvs:List (Key × V)} {vs:List (Key × Value)},KV more rs→KV kvs vs→KV (Yg0 kvs more) (merged vs rs):=by
 intro more rs kvs vs r
 unfold KV at r
 induction r generalizing kvs vs with
 | nil=>intro q;exact q
 | @cons p q ps qs h t ih=>
   intro r0
   have e:KV (putK kvs p.1 p.2) (stored vs q.1 q.2):=by
    have:=r0.put p.1 h.2
    rw[←h.1];exact this
   exact ih e
theorem Yg1:∀(more kvs:List (Key × V)),(Yg0 kvs more).length≤kvs.length+more.length
 | [],kvs=>by show kvs.length≤kvs.length+0;lia
 | p::r,kvs=>by
   have h1:=Yg1 r (putK kvs p.1 p.2)
   have h2:=Yqy kvs p.1 p.2
   show(Yg0 (putK kvs p.1 p.2) r).length≤_
   rw[qq];lia
theorem Ymj{P:Program}{w:World}:∀{kvs:List (Key × V)} {ws:List (Value × Value)},VV (kvs.map fun kv=>(kV kv.1,kv.2)) ws→∃rs,Carries (Yb0 P w) ws rs∧KV kvs rs
 | [],_,r=>by rw[List.map_nil]at r;cases r;exact⟨[],True.intro,.nil⟩
 | p::kvs,_,r=>by
   rw[Qc]at r
   cases r with
   | @cons a b as bs h t=>
     obtain⟨rs,c,q⟩:=Ymj (P:=P) (w:=w) t
     obtain⟨b1,b2⟩:=b
     exact⟨(p.1,b2)::rs,⟨y1p h.1,rfl,c⟩,.cons ⟨rfl,h.2⟩ q⟩
noncomputable def y7j(trs:List (TE × TE)):TE:=fun σ H Q=>∀p,H p=none→Yss trs σ (upd H p (.dK [])) fun ps H2=>H2 p=some (.dK [])∧∃kvs:List (Key × V),ps=kvs.map (fun kv=>(kV kv.1,kv.2))∧kvs.length≤15∧Q (.ref p) (upd H2 p (.dK (Yg0 [] kvs)))
theorem y1u{X:Cx}{pos:Pos}{keys:List (Option Expr)}{values:List Expr}{trs:List (TE × TE)}(h:PPs X pos keys values trs)(hall:keys.all (·.isSome)=true)(hl:keys.length=values.length)(h0:keys≠[])
 (h15:keys.length≤15):PE X (.Dict keys values pos) (y7j trs):=by
 intro pins s σ H Q I q
 have hn:=I.hok.fresh (qt s.heap.objs.size)
 have I1:=I.laid (a:=s.heap.objs.size) (o:=.dK []) (h':=s.heap.push { cls:=.type "dict",data:=.dict #[] }) (t':=s.toks) (fun _ _ q=>qd _ q) (qt _) (Yyk s.heap I.big)
 refine wpAny_Dict_walk (knd:=Yb0 X.prog X.w) hall hl h0 h15 (thn (h pins _ σ _ _ I1 (q _ hn)) fun ws s2 hx_=>?_)
 obtain⟨ps,H2,I2,rel,e,kvs,ep,lk,q2⟩:=hx_
 subst ep
 obtain⟨rs,c,rk⟩:=Ymj (P:=X.prog) (w:=X.w) rel
 obtain⟨z,hd,vs0,r0,dd⟩:=y7h I2.hok e
 cases r0
 refine⟨rs,c,dd,fun h' dd' hs=>⟨.ref s.heap.objs.size,_,?_,rfl,q2⟩⟩
 have hz:(Yg0 [] kvs).length≤sizeLine:=by
  have h1:=Yg1 kvs []
  rw[List.length_nil]at h1
  rw[sizeLine_eq];lia
 have he:∃q,h'.get? s.heap.objs.size=some q:=let ⟨q,_,_,hq,_⟩:=dd';⟨q,hq⟩
 exact y1r I2 (by rw[e];exact True.intro) hs he (y4w hz hd (rk.merge .nil) dd')
structure M1(X:Cx)(o:Expr)(m:Str)(apos:Pos)(e:Expr)(cpos:Pos):Prop where
 base:attributeBase o m X.env (eval o X.env)=eval o X.env
 few:((backTo cpos (starEach [e] X.env)).all (fun x=>!x.1)&&(backToKw cpos (keywordEach [] X.env)).all (fun x=>x.1.isSome)
  &&decide (([e]:List Expr).length+([]:List Keyword).length+(if ([]:List Keyword).isEmpty then 0 else 1) < 30))=true
 line:(apos.endLine==cpos.line)=true
 trees:backTo cpos (starEach [e] X.env)=[(false,eval e X.env)]
structure M2(X:Cx)(o:Expr)(m:Str)(apos:Pos)(e f:Expr)(cpos:Pos):Prop where
 base:attributeBase o m X.env (eval o X.env)=eval o X.env
 few:((backTo cpos (starEach [e,f] X.env)).all (fun x=>!x.1)&&(backToKw cpos (keywordEach [] X.env)).all (fun x=>x.1.isSome)
  &&decide (([e,f]:List Expr).length+([]:List Keyword).length+(if ([]:List Keyword).isEmpty then 0 else 1) < 30))=true
 line:(apos.endLine==cpos.line)=true
 trees:backTo cpos (starEach [e,f] X.env)=[(false,eval e X.env),(false,eval f X.env)]
end L2
namespace HT
open PySem PyProof.Rows
section
variable {prog:Program} {w:World} {A:Around} {E:Value→Shared→Prop} {s:Shared}
theorem cat_tup{t b:Addr}{vs ws:List Value}{Q:Value→Shared→Prop}(ht:IsTup s.heap t vs.toArray)(hb:IsTup s.heap b ws.toArray)(hv:vs≠[])
 (h1:ws=[]→Q (.ref t) s) (h2:ws≠[]→Q (.ref s.heap.objs.size) { s with heap:=s.heap.push { cls:=.type "tuple",data:=.seq (vs++ws).toArray } })
 (hsz:vs.length+ws.length≤sizeLine):wpAny (model prog w) A (binaryOp .Add (.ref t) (.ref b)) Q E s:=by
 obtain⟨⟨cls,dd,data,sl⟩,ho,hc,n,hd⟩:=id ht
 obtain⟨⟨cls2,dd2,data2,sl2⟩,ho2,hc2,n2,hd2⟩:=id hb
 simp only at hc hd hc2 hd2
 subst hc hd hc2 hd2
 have e:vs.toArray++ws.toArray=(vs++ws).toArray:=by simp
 by_cases hw:ws=[]
 ·exact concat_meets ⟨_,ho,rfl⟩ ⟨_,ho2,rfl⟩ noFill_tuple_add seq_tuple_add PySem.F.slot_tuple_add PySem.F.entry_tuple_add (PySem.F.args_tuple_add_2 _ _)
   (tuple_addW1 t b vs.toArray ws.toArray n n2 dd dd2 sl sl2 (by simpa using hv) (by simp[hw])) ⟨ho,ho2,h1 hw⟩
 ·refine concat_meets ⟨_,ho,rfl⟩ ⟨_,ho2,rfl⟩ noFill_tuple_add seq_tuple_add PySem.F.slot_tuple_add PySem.F.entry_tuple_add (PySem.F.args_tuple_add_2 _ _)
   (tuple_addW2 t b vs.toArray ws.toArray n n2 dd dd2 sl sl2 (by simpa using hv) (by simpa using hw) (by rw[qj,qj];exact hsz)) ⟨ho,ho2,?_⟩
  rw[e]
  exact h2 hw
noncomputable def sIx(n d:Nat):Option Int→Nat
 | none=>d
 | some v=>if v < 0 then (v+(n:Int)).toNat else min v.toNat n
theorem sIx_none(n d:Nat):sIx n d none=d:=rfl
theorem sIx_nat(n d k:Nat):sIx n d (some (k:Int))=min k n:=by
 show(if (k:Int) < 0 then ((k:Int)+(n:Int)).toNat else min (k:Int).toNat n)=min k n
 rw[if_neg (by lia),Int.toNat_natCast]
end
end HT
namespace L2
open PySem PySem.Spec PyProof.Rows
noncomputable abbrev TO:=St→Hp→(Option Int→Hp→Prop)→Prop
def PO(X:Cx)(e:Option Expr)(t:TO):Prop:=
 ∀(pins:List (Addr × Obj)) (s:Shared) (σ:St) (H:Hp) (Q:Option Int→Hp→Prop),Inv X pins σ H s→t σ H Q→
  wpAny (model X.prog X.w) X.A (evalPart e X.env) (fun u s'=>∃o H',Inv X pins σ H' s'∧IsPart u o∧Q o H') X.xe s
noncomputable def Yvc:TO:=fun _ H Q=>Q none H
noncomputable def y4x(t:TE):TO:=fun σ H Q=>t σ H fun x H1=>∃i,x=.int i∧Q (some i) H1
theorem Yfy{ns:List Int}:∀{us:List Value},Vals (ns.map V.int) us→IntsAre us ns:=by
 induction ns with
 | nil=>intro us r;rw[List.map_nil]at r;cases r;exact .nil
 | cons n ns ih=>
   intro us r
   rw[Qc]at r
   cases r with
   | cons r1 r2=>
     obtain⟨t,e⟩:=r1
     subst e
     exact .cons n t (ih r2)
section
variable {X:Cx} {e:Expr} {te:TE} {lo hi:Option Expr} {tl th:TO} {pos p2:Pos}
theorem y1v:PO X none Yvc:=by
 intro pins s σ H Q I h
 rw[evalPart_none]
 exact wpAny_pure ⟨none,H,I,.none,h⟩
theorem y1w(h:PE X e te):PO X (some e) (y4x te):=by
 intro pins s σ H Q I hw
 rw[evalPart_some]
 refine thn (h pins s σ H _ I hw) fun u s1 hx_=>?_
 obtain⟨x,H1,I1,r1,q1⟩:=hx_
 obtain⟨i,rfl,q⟩:=q1
 obtain⟨t,rfl⟩:=r1
 exact⟨some i,H1,I1,.int i t,q⟩
def SlR(X:Cx)(r:V→Option Int→Option Int→Hp→VK→Prop):Prop:=
 ∀(pins:List (Addr × Obj)) (s:Shared) (σ:St) (H:Hp) (x:V) (v vl vu:Value) (lo hi:Option Int) (sl:Addr) (Q:VK),Inv X pins σ H s→RelV x v→s.heap.IsSliceOf sl vl vu .none→IsPart vl lo→IsPart vu hi→r x lo hi H Q→
  ∃T id,typeLookup (.type T) "__getitem__"=pure (some (.builtin id))∧s.TypeIs v T∧wpAny (model X.prog X.w) X.A (getItem v (.ref sl)) (EP X pins σ Q) X.xe s
noncomputable def tSl(r:V→Option Int→Option Int→Hp→VK→Prop)(te:TE)(tl th:TO):TE:=fun σ H Q=>te σ H fun x H1=>tl σ H1 fun l H2=>th σ H2 fun u H3=>r x l u H3 Q
theorem Yym{r:V→Option Int→Option Int→Hp→VK→Prop}(hr:SlR X r)(he:PE X e te)(hl:PO X lo tl)(hu:PO X hi th):PE X (.Subscript e (.Slice lo hi none p2) pos) (tSl r te tl th):=by
 intro pins s σ H Q I h
 refine Subscript_ (thn (he pins s σ H _ I h) fun v s1 hx_=>?_)
 obtain⟨x,H1,I1,r1,q1⟩:=hx_
 refine wpAny_Slice (thn (hl pins s1 σ H1 _ I1 q1) fun vl s2 hx_=>?_)
 obtain⟨l,H2,I2,pl,q2⟩:=hx_
 refine thn (hu pins s2 σ H2 _ I2 q2) fun vu s3 hx_=>?_
 obtain⟨u,H3,I3,pu,q3⟩:=hx_
 rw[evalPart_none]
 refine wpAny_pure ?_
 have I4:Inv X pins σ H3 { s3 with heap:=s3.heap.push { cls:=.type "slice",data:=.fields #[vl,vu,.none] } }:=I3.kept (t':=s3.toks) fun b ob q=>qd _ q
 obtain⟨T,id,hT,ht,hg⟩:=hr pins { s3 with heap:=s3.heap.push { cls:=.type "slice",data:=.fields #[vl,vu,.none] } } σ H3 x v vl vu l u s3.heap.objs.size Q I4 r1 (Heap.IsSliceOf.new ..) pl pu q3
 show wpAny (model X.prog X.w) X.A (subscriptTail e (.Slice lo hi none p2) v (.ref s3.heap.objs.size)) (EP X pins σ Q) X.xe { s3 with heap:=s3.heap.push { cls:=.type "slice",data:=.fields #[vl,vu,.none] } }
 exact tail_any (ops:=[.ref s3.heap.objs.size,v]) ht hT hg (by with_unfolding_all rfl)
noncomputable def cutV(xs:List V)(lo hi:Option Int):List V:=(xs.drop (HT.sIx xs.length 0 lo)).take (HT.sIx xs.length xs.length hi - HT.sIx xs.length 0 lo)
theorem Yq0(xs:List V)(lo hi:Option Int):(cutV xs lo hi).length≤xs.length:=by
 unfold cutV
 rw[List.length_take,List.length_drop]
 lia
noncomputable def y7k(K:W.Frag):R2:=fun x y H Q=>∃a b xs ys,x=.ref a∧y=.ref b∧SqT K H a xs∧SqT K H b ys∧xs≠[]∧xs.length+ys.length≤sizeLine∧
 (ys=[]→Q (.ref a) H)∧(ys≠[]→∀p,H p=none→Q (.ref p) (upd H p (.tup (xs++ys))))
theorem Vals.nil_iff{xs:List V}{us:List Value}(r:Vals xs us):us=[]↔xs=[]:=by
 cases r with
 | nil=>simp
 | cons _ _=>simp
theorem y1x:OpR X (binaryOp .Add) (y7k X.K):=by
 intro pins s σ H x y v u Q I rx ry h
 obtain⟨a,b,xs,ys,rfl,rfl,ha,hb,hx,hz,q1,q2⟩:=h
 cases rx
 cases ry
 obtain⟨its,r1,p1,_⟩:=I.tuple ha
 obtain⟨its2,r2,p2,_⟩:=I.tuple hb
 refine HT.cat_tup p1 p2 (fun z=>hx (r1.nil_iff.mp z)) (fun z=>⟨.ref a,H,I,rfl,q1 (r2.nil_iff.mp z)⟩) (fun z=>?_) (by rw[←r1.length,←r2.length];exact hz)
 refine⟨.ref s.heap.objs.size,_,I.laid (t':=s.toks) (o:=.tup (xs++ys)) (fun b ob q=>qd _ q) (qt _) ?_,rfl,q2 (fun w=>z (r2.nil_iff.mpr w)) _ (I.hok.fresh (qt _))⟩
 exact⟨by rw[qy];exact hz,_,r1.append r2,IsTup.new _ _⟩
end
end L2
namespace L2
open PySem PySem.Spec PyProof.Rows
noncomputable def ixN(n:Nat)(i:Int):Option Nat:=if 0≤i then (if i < n then some i.toNat else none)else if -(n:Int)≤i then some (i+n).toNat else none
noncomputable def atI{α:Type}(xs:List α)(i:Int):Option α:=(ixN xs.length i).bind fun j=>xs[j]?
theorem y1y{n:Nat}{i:Int}{j:Nat}(h:ixN n i=some j):seqIndex? i n=some j∧j < n∧-(n:Int)≤i∧i < n:=by
 unfold ixN at h
 by_cases h0:0≤i
 ·rw[if_pos h0]at h
  by_cases h1:i < n
  ·rw[if_pos h1]at h
   have e:i.toNat=j:=Option.some.inj h
   exact⟨by rw[seqIndex_of h0 h1,e],by lia,by lia,h1⟩
  ·rw[if_neg h1]at h;cases h
 ·rw[if_neg h0]at h
  by_cases h1:-(n:Int)≤i
  ·rw[if_pos h1]at h
   have e:(i+n).toNat=j:=Option.some.inj h
   exact⟨by rw[seqIndex_neg (by lia) h1,e],by lia,h1,by lia⟩
  ·rw[if_neg h1]at h;cases h
theorem Yq1{α:Type}{xs:List α}{i:Int}{v:α}(h:atI xs i=some v):∃j,seqIndex? i xs.length=some j∧xs[j]?=some v∧j < xs.length∧-(xs.length:Int)≤i∧i < xs.length:=by
 unfold atI at h
 cases e:ixN xs.length i with
 | none=>rw[e]at h;cases h
 | some j=>
   rw[e]at h
   obtain⟨h1,h2,h3,h4⟩:=y1y e
   exact⟨j,h1,h,h2,h3,h4⟩
theorem Yq2{α:Type}{xs:List α}{j:Nat}{v:α}(h:xs[j]?=some v):atI xs (j:Int)=some v:=by
 have hj:j < xs.length:=(qm h).1
 have e:ixN xs.length (j:Int)=some j:=by
  unfold ixN
  rw[if_pos (by lia),if_pos (by lia)];simp
 unfold atI;rw[e];exact h
def Ymw(b:Expr):Prop:=∀o i,subscripted b false o i=operate [o,i] (getItem o i)
def IxR(X:Cx)(r:R2):Prop:=
 ∀(value slice:Expr) (pins:List (Addr × Obj)) (s:Shared) (σ:St) (H:Hp) (x y:V) (v u:Value) (Q:VK),Inv X pins σ H s→RelV x v→RelV y u→r x y H Q→
  subscripted slice false v u=operate [v,u] (getItem v u)→wpAny (model X.prog X.w) X.A (subscriptTail value slice v u) (EP X pins σ Q) X.xe s
def MtR(X:Cx)(id:String)(r:V→List V→Hp→VK→Prop):Prop:=
 ∀(pins:List (Addr × Obj)) (s:Shared) (σ:St) (H:Hp) (x:V) (xs:List V) (v:Value) (us:List Value) (Q:VK),Inv X pins σ H s→RelV x v→Vals xs us→r x xs H Q→
  wpAny (model X.prog X.w) X.A (call (.builtin id) (v::us)) (EP X pins σ Q) X.xe s
section
variable {X:Cx} {a b:Expr} {ta tb:TE} {pos:Pos}
theorem IxR.or{r r':R2}(h:IxR X r)(h':IxR X r'):IxR X (fun x y H Q=>r x y H Q∨r' x y H Q):=by
 intro value slice pins s σ H x y v u Q I rx ry q hs
 rcases q with q | q
 ·exact h value slice pins s σ H x y v u Q I rx ry q hs
 ·exact h' value slice pins s σ H x y v u Q I rx ry q hs
theorem y7l{r:R2}(hr:IxR X r)(ha:PE X a ta)(hb:PE X b tb)(hs:Ymw b):PE X (.Subscript a b pos) (tOp r ta tb):=by
 intro pins s σ H Q I h
 exact Subscript_ (binT ha hb I h fun v u s2 x y H2 I2 rx ry q=>hr a b pins s2 σ H2 x y v u Q I2 rx ry q (hs _ _))
noncomputable def rIxL(K:W.Frag):R2:=fun x y H Q=>∃p xs i v,x=.ref p∧y=.int i∧SqL K H p xs∧atI xs i=some v∧Q v H
noncomputable def rIxT(K:W.Frag):R2:=fun x y H Q=>∃p xs i v,x=.ref p∧y=.int i∧SqT K H p xs∧atI xs i=some v∧Q v H
noncomputable def rIxS:R2:=fun x y H Q=>∃z i c,x=.str z∧y=.int i∧z.length≤sizeLine∧atI z.cps.toList i=some c∧Q (.str ⟨#[c]⟩) H
theorem ix_list:IxR X (rIxL X.K):=by
 intro value slice pins s σ H x y v u Q I rx ry h hs
 obtain⟨p,xs,i,z,rfl,rfl,hq,he,q⟩:=h
 cases rx
 obtain⟨t,rfl⟩:=ry
 obtain⟨its,r,pl,hz⟩:=I.list hq
 obtain⟨j,h1,h2,h3,h4,h5⟩:=Yq1 he
 obtain⟨w,ew,rw'⟩:=r.get h2
 have hl:=r.length
 have hn:=Yon
 have fin:EP X pins σ Q w s:=⟨z,H,I,rw',q⟩
 by_cases h0:0≤i
 ·have hj:i.toNat=j:=by
   rw[seqIndex_of h0 h5]at h1
   exact Option.some.inj h1
  exact item_listR pl.isList h0 (by lia) (by rw[hj];simpa using ew) fin hs
 ·have hj:(i+(its.toArray.size:Int)).toNat=j:=by
   rw[seqIndex_neg (by lia) h4]at h1
   rw[qj,←hl]
   exact Option.some.inj h1
  exact subscriptTail_builtinR (x:=w) pl.isList.typeIs slot_list_getitem.lookup
   (wpAny_getItem_list_neg (Q:=fun r s'=>r=w∧EP X pins σ Q r s') pl.isList (by lia) (by rw[qj]<;>lia) (by lia) (by rw[hj];simpa using ew) ⟨rfl,fin⟩) hs
theorem ix_tup:IxR X (rIxT X.K):=by
 intro value slice pins s σ H x y v u Q I rx ry h hs
 obtain⟨p,xs,i,z,rfl,rfl,hq,he,q⟩:=h
 cases rx
 obtain⟨t,rfl⟩:=ry
 obtain⟨its,r,pl,hz⟩:=I.tuple hq
 obtain⟨j,h1,h2,h3,h4,h5⟩:=Yq1 he
 obtain⟨w,ew,rw'⟩:=r.get h2
 have hl:=r.length
 have hn:=Yon
 have fin:EP X pins σ Q w s:=⟨z,H,I,rw',q⟩
 exact subscriptTail_builtinR (x:=w) pl.typeIs slot_tuple_getitem.lookup
  (getItem_tuple (j:=j) (Q:=fun r s'=>r=w∧EP X pins σ Q r s') pl (by lia) (by lia) (by rw[qj,←hl];exact h1) (by simpa using ew) ⟨rfl,fin⟩) hs
theorem y4y:IxR X rIxS:=by
 intro value slice pins s σ H x y v u Q I rx ry h hs
 obtain⟨z,i,c,rfl,rfl,hz,he,q⟩:=h
 obtain⟨t,rfl⟩:=rx
 obtain⟨t',rfl⟩:=ry
 obtain⟨j,h1,h2,h3,h4,h5⟩:=Yq1 he
 have hl:z.cps.toList.length=z.length:=by simp[Str.length]
 rw[hl]at h1 h4 h5
 have hn:=Yon
 exact tail_any (typeIs_str s z t) slot_str_getitem.lookup (getItem_str (c:=c) (by
  have e1:decide (i < -(2 ^ 63:Int))=false:=decide_eq_false (by lia)
  have e2:decide (i≥2 ^ 63)=false:=decide_eq_false (by lia)
  rw[e1,e2,Bool.or_false]) (by rw[h1];simpa using h2) ⟨.str ⟨#[c]⟩,H,I.tok _,⟨_,rfl⟩,q⟩) hs
noncomputable def rIx(K:W.Frag):R2:=fun x y H Q=>rIxL K x y H Q∨rIxT K x y H Q∨rIxS x y H Q
theorem y4z:IxR X (rIx X.K):=ix_list.or (ix_tup.or y4y)
theorem You(lo hi:Option Int)(n:Nat):(sliceBounds lo hi none n).1=((HT.sIx n 0 lo:Nat):Int)∧(sliceBounds lo hi none n).2.1=((HT.sIx n n hi:Nat):Int)∧(sliceBounds lo hi none n).2.2=1:=by
 refine⟨?_,?_,rfl⟩
 ·cases lo with
  | none=>simp[sliceBounds,HT.sIx]
  | some i=>
    simp only[sliceBounds,HT.sIx,Option.getD_none,show(1:Int) > 0 by decide,if_true]
    by_cases h:i < 0
    ·simp only[h,if_true]<;>lia
    ·simp only[h,if_false]<;>lia
 ·cases hi with
  | none=>simp[sliceBounds,HT.sIx]
  | some i=>
    simp only[sliceBounds,HT.sIx,Option.getD_none,show(1:Int) > 0 by decide,if_true]
    by_cases h:i < 0
    ·simp only[h,if_true]<;>lia
    ·simp only[h,if_false]<;>lia
theorem Ymx(its:List Value)(lo hi:Option Int):slicePick its.toArray lo hi none=((its.drop (HT.sIx its.length 0 lo)).take (HT.sIx its.length its.length hi - HT.sIx its.length 0 lo)).toArray:=by
 obtain⟨h1,h2,h3⟩:=You lo hi its.toArray.size
 unfold slicePick
 rw[h1,h2,h3]
 simp only[sliceRange_one,pick_run,qj]<;>rfl
noncomputable def rSlL(K:W.Frag):V→Option Int→Option Int→Hp→VK→Prop:=fun x lo hi H Q=>∃a xs,x=.ref a∧SqL K H a xs∧∀p,H p=none→Q (.ref p) (upd H p (.lst (cutV xs lo hi)))
theorem y1z:SlR X (rSlL X.K):=by
 intro pins s σ H x v vl vu lo hi sl Q I rx hs pl pu h
 obtain⟨a,xs,rfl,hx,q⟩:=h
 cases rx
 obtain⟨its,r,ht,hz⟩:=I.list hx
 have hlen:=r.length
 refine⟨"list",_,slot_list_getitem.lookup,ht.isList.typeIs,?_⟩
 refine wpAny_getItem_list_slice ht.isList hs pl pu .none (by simp) ?_ (by rw[qj]<;>lia)
 rw[Ymx,←hlen]
 refine⟨.ref s.heap.objs.size,_,I.laid (t':=s.toks) (o:=.lst (cutV xs lo hi)) (fun b ob q=>qd _ q) (qt _) ?_,rfl,q _ (I.hok.fresh (qt _))⟩
 exact⟨Nat.le_trans (Yq0 xs lo hi) hz,_,0,(r.drop (HT.sIx xs.length 0 lo)).take (HT.sIx xs.length xs.length hi - HT.sIx xs.length 0 lo),qo _ rfl⟩
theorem Yu:Ycv X (.builtin "len") (fun xs H Q=>∃p ys,xs=[.ref p]∧(SqL X.K H p ys∨SqT X.K H p ys)∧Q (.int ys.length) H):=by
 intro pins s σ H xs us Q I r h
 obtain⟨p,ys,rfl,hq,q⟩:=h
 obtain⟨u,rfl,rx⟩:=Yfb r
 cases rx
 have hn:=Yon
 rcases hq with hq | hq
 ·obtain⟨its,r',pl,hz⟩:=I.list hq
  have hlen:=r'.length
  exact Calls.call_len_list pl.isList (by simp only[qj]<;>lia) ⟨.int ys.length,H,I.tok _,⟨s.toks+1,by rw[qj,hlen]⟩,q⟩
 ·obtain⟨its,r',pl,hz⟩:=I.tuple hq
  have hlen:=r'.length
  exact len_tuple pl (by simp only[qj]<;>lia) ⟨.int ys.length,H,I.tok _,⟨s.toks+1,by rw[qj,hlen]⟩,q⟩
theorem Yiy:Ycv X (.type "list") (fun xs H Q=>∃p ys,xs=[.ref p]∧(SqL X.K H p ys∨SqT X.K H p ys)∧∀l,H l=none→Q (.ref l) (upd H l (.lst ys))):=by
 intro pins s σ H xs us Q I r h
 obtain⟨p,ys,rfl,hq,q⟩:=h
 obtain⟨u,rfl,rx⟩:=Yfb r
 cases rx
 have fin:∀(its:List Value),Vals ys its→ys.length≤sizeLine→∀(h':Heap) (c':Nat),(∀b o',s.heap.get? b=some o'→h'.get? b=some o')→
  h'.get? s.heap.objs.size=some { cls:=.type "list",dict:=none,data:=.seq its.toArray c',slots:=#[] }→EP X pins σ Q (.ref s.heap.objs.size) { s with heap:=h' }:=fun its r' hz h' c' kp e=>
  ⟨.ref s.heap.objs.size,_,I.laid (t':=s.toks) kp (qt _) (show ObjOk X.prog X.w _ h' _ (.lst ys) from⟨hz,its,c',r',e⟩),rfl,q _ (I.hok.fresh (qt _))⟩
 rcases hq with hq | hq
 ·obtain⟨its,r',pl,hz⟩:=I.list hq
  have hlen:=r'.length
  obtain⟨o,ho,hc,n,hd⟩:=pl.isList
  exact call_list_seq p (.inl rfl) ho hc hd (fun h' c' kp e=>fin its r' hz h' c' kp e) (by simp only[qj]<;>lia)
 ·obtain⟨its,r',pl,hz⟩:=I.tuple hq
  have hlen:=r'.length
  obtain⟨o,ho,hc,n,hd⟩:=pl
  exact call_list_seq p (.inr rfl) ho hc hd (fun h' c' kp e=>fin its r' hz h' c' kp e) (by simp only[qj]<;>lia)
theorem Yaq:Ycv X (.type "tuple") (fun xs H Q=>∃p ys,xs=[.ref p]∧((SqL X.K H p ys∧∀l,H l=none→Q (.ref l) (upd H l (.tup ys)))∨(SqT X.K H p ys∧Q (.ref p) H))):=by
 intro pins s σ H xs us Q I r h
 obtain⟨p,ys,rfl,h⟩:=h
 obtain⟨u,rfl,rx⟩:=Yfb r
 cases rx
 rcases h with⟨hq,q⟩ | ⟨hq,q⟩
 ·obtain⟨its,r',pl,hz⟩:=I.list hq
  have hlen:=r'.length
  refine call_tuple_list pl.isList (fun h' kp=>?_) (by simp only[qj]<;>lia)
  have I1:Inv X pins σ H { s with heap:=h' }:=I.kept (t':=s.toks) kp
  have I2:Inv X pins σ (upd H h'.objs.size (.tup ys)) { s with heap:=h'.push { cls:=.type "tuple",data:=.seq its.toArray } }:=
   I1.laid (t':=s.toks) (fun b o e=>qd _ e) (qt _) (show ObjOk X.prog X.w _ _ _ (.tup ys) from⟨hz,its,r',IsTup.new _ _⟩)
  exact⟨.ref h'.objs.size,_,I2,rfl,q _ (I1.hok.fresh (qt _))⟩
 ·obtain⟨its,r',pl,hz⟩:=I.tuple hq
  exact call_tuple_same pl ⟨.ref p,H,I,rfl,q⟩
def tyV(K:W.Frag)(T:String)(x:V)(H:Hp):Prop:=match x with
 | .str _=>T="str"
 | .int _=>T="int"
 | .ref p=>(T="list"∧∃xs,SqL K H p xs)∨(T="tuple"∧∃o,K.lookup p=some o∧o.cls=.type "tuple"∧o.dict=none)∨
  (T="dict"∧((∃kvs,H p=some (.dK kvs))∨∃kvs,H p=some (.dT kvs)))∨(T="set"∧∃S n,H p=some (.set S n))
 | _=>False
theorem y40{pins:List (Addr × Obj)}{σ:St}{H:Hp}{s:Shared}{T:String}{x:V}{v:Value}(I:Inv X pins σ H s)(r:RelV x v)(ty:tyV X.K T x H) :
 s.TypeIs v T∧∀a,v=.ref a→∃ob,s.heap.get? a=some ob∧ob.dict=none:=by
 cases x with
 | str z=>
   obtain⟨t,rfl⟩:=r
   cases (show T="str" from ty)
   exact⟨typeIs_str s z t,fun _ e=>nomatch e⟩
 | int i=>
   obtain⟨t,rfl⟩:=r
   cases (show T="int" from ty)
   exact⟨typeIs_int s i t,fun _ e=>nomatch e⟩
 | ref p=>
   cases r
   rcases ty with⟨rfl,xs,hq⟩ | ⟨rfl,o,hk,hc,hd⟩ | ⟨rfl,hk⟩ | ⟨rfl,S,n,hk⟩
   ·obtain⟨its,_,pl,_⟩:=I.list hq
    refine⟨pl.isList.typeIs,fun a e=>?_⟩
    cases e
    obtain⟨o,n,e,c,hd,_⟩:=pl
    exact⟨o,e,hd⟩
   ·refine⟨⟨o,I.kIn p o hk,hc⟩,fun a e=>?_⟩
    cases e
    exact⟨o,I.kIn _ o hk,hd⟩
   ·have z:∃o,s.heap.get? p=some o∧o.ExactDict:=by
     rcases hk with⟨kvs,hk⟩ | ⟨kvs,hk⟩
     ·obtain⟨_,_,_,_,o,_,_,e,ex,_⟩:=I.hok p _ hk
      exact⟨o,e,ex⟩
     ·obtain⟨_,_,_,_,o,_,_,e,ex,_⟩:=I.hok p _ hk
      exact⟨o,e,ex⟩
    obtain⟨o,e,ex⟩:=z
    refine⟨⟨o,e,ex.1⟩,fun a e2=>?_⟩
    cases e2
    exact⟨o,e,ex.2.1⟩
   ·obtain⟨o,_,_,_,e,ex,_⟩:=I.hok p _ hk
    refine⟨⟨o,e,ex.1⟩,fun a e2=>?_⟩
    cases e2
    exact⟨o,e,ex.2.1⟩
 | _=>exact False.elim ty
noncomputable def tBM(K:W.Frag)(T:String)(r:V→List V→Hp→VK→Prop)(to:TE)(t:TA):TE:=fun σ H Q=>to σ H fun x H1=>tyV K T x H1∧t σ H1 fun xs H2=>r x xs H2 Q
variable {o e:Expr} {es:List Expr} {to:TE} {t:TA} {name:Str} {apos cpos:Pos} {T id:String} {r:V→List V→Hp→VK→Prop}
theorem y10(pa:PlainAttrs T)(slot:Slot T name id)(hty:typeOf (.builtin id)=pure (.type "method_descriptor"))(hm:MtR X id r)(ho:PE X o to)(ha:PA X (e::es) t)
 (hbase:attributeBase o name X.env (eval o X.env)=eval o X.env:=by rfl)
 (hfew:((backTo cpos (starEach (e::es) X.env)).all (fun x=>!x.1)&&(backToKw cpos (keywordEach [] X.env)).all (fun x=>x.1.isSome)
  &&decide ((e::es).length+([]:List Keyword).length+(if ([]:List Keyword).isEmpty then 0 else 1) < 30))=true:=by rfl)
 (hline:(apos.endLine==cpos.line)=true:=by rfl) (hs:starEach (e::es) X.env=(false,eval e X.env)::starEach es X.env:=by rfl) (hplain:(backTo cpos (starEach es X.env)).any (·.1)=false:=by rfl) :
 PE X (.Call (.Attribute o name apos) (e::es) [] cpos) (tBM X.K T r to t):=by
 intro pins s σ H Q I h
 refine wpAny_Call_method_late hbase hfew hline rfl (thn (ho pins s σ H _ I h) fun v s1 hx_=>?_)
 obtain⟨x,H1,I1,r1,ty,q1⟩:=hx_
 obtain⟨h1,h2⟩:=y40 I1 r1 ty
 refine⟨T,id,pa,slot,hty,h1,h2,?_⟩
 have hA:=ha cpos pins s1 σ H1 _ I1 q1
 rw[hs]at hA ⊢
 refine Calls.callWith_builtin (by show(false||(backTo cpos (starEach es X.env)).any (·.1))=false;rw[hplain]<;>rfl) (Calls.evalArgs_plain ?_)
 refine thn hA fun us s2 hx_=>?_
 obtain⟨vs,H2,I2,r2,q2⟩:=hx_
 exact hm pins s2 σ H2 x vs v us Q I2 r1 r2 q2
end
end L2
namespace L2
open PySem PySem.Spec PyProof.Rows
def MtM(X:Cx)(id:String)(r:V→List V→Hp→VK→Prop):Prop:=
 ∀(pins:List (Addr × Obj)) (s:Shared) (σ:St) (H:Hp) (x:V) (xs:List V) (v:Value) (us:List Value) (Q:VK),Inv X pins σ H s→RelV x v→Vals xs us→r x xs H Q→
  wpAny (model X.prog X.w) X.A (call (.builtin id) (v::us)) (EP X pins σ Q) X.xe s
theorem Vals.one:∀{x:V} {us:List Value},Vals [x] us→∃u,us=[u]∧RelV x u
 :=by
  intro x us h
  cases h with
  | cons r t=>
    cases t
    exact⟨_,rfl,r⟩
section
variable {X:Cx} {pins:List (Addr × Obj)} {σ:St} {H:Hp} {s:Shared} {l b:Addr} {xs ys zs:List V}
theorem Inv.lset{its its':List Value}{n:Nat}{f:Array Value→Array Value}{t':Nat}(I:Inv X pins σ H s)(hH:H l=some (.lst xs))
 (e:s.heap.get? l=some { cls:=.type "list",data:=.seq its.toArray n }) (hf:f its.toArray=its'.toArray) (hv:Vals ys its') (hz:ys.length≤sizeLine) :
 Inv X pins σ (upd H l (.lst ys)) { s with heap:=s.heap.update l (Obj.mapSeq f),toks:=t' }:=by
 have q:=PySem.IsL.update e f
 rw[hf]at q
 refine I.write (x:=l) (e:=l) (by rw[hH];exact trivial) (.inl rfl) (fun b' u hb hu=>(Heap.get?_update_other s.heap (Obj.mapSeq f) (Ne.symm hb)).trans hu) ⟨_,q⟩ ?_
 exact⟨hz,its',_,hv,q⟩
theorem Inv.lnew{its:List Value}{t':Nat}(I:Inv X pins σ H s)(hv:Vals ys its)(hz:ys.length≤sizeLine) :
 Inv X pins σ (upd H s.heap.objs.size (.lst ys)) { s with heap:=s.heap.push { cls:=.type "list",data:=.seq its.toArray },toks:=t' }:=
 I.laid (fun _ _ q=>qd _ q) (qt _) ⟨hz,its,0,hv,qo _ rfl⟩
theorem Inv.fresh(I:Inv X pins σ H s):H s.heap.objs.size=none:=I.hok.fresh (qt _)
theorem Inv.lstM(I:Inv X pins σ H s)(hH:H l=some (.lst xs)):xs.length≤sizeLine∧∃(its:List Value) (n:Nat),Vals xs its∧xs.length=its.length∧s.heap.get? l=some { cls:=.type "list",data:=.seq its.toArray n }:=by
 obtain⟨z,its,n,r,e⟩:=I.hok l _ hH
 exact⟨z,its,n,r,r.length,e⟩
theorem Yyn{n:Nat}(h:n≤sizeLine):Builtin.List.listTooLong n=false:=by
 unfold Builtin.List.listTooLong
 exact decide_eq_false (by lia)
end
section
variable {X:Cx}
noncomputable def y11:V→List V→Hp→VK→Prop:=fun x vs H Q=>∃l xs y,x=.ref l∧vs=[y]∧H l=some (.lst xs)∧xs.length < sizeLine∧Q .non (upd H l (.lst (xs++[y])))
theorem Yov:MtM X "list.append" y11:=by
 intro pins s σ H x vs v us Q I rx rv h
 obtain⟨l,xs,y,rfl,rfl,hH,hz,q⟩:=h
 cases rx
 obtain⟨u,rfl,ru⟩:=rv.one
 obtain⟨z,its,n,r,hl,e⟩:=I.lstM hH
 refine call_meets F.slot_list_append ⟨_,e,rfl⟩ F.entry_list_append (F.args_list_append_2 _ _) (PySem.list_append l its.toArray n u (by rw[qj];lia)) ⟨e,?_⟩
 refine⟨.non,_,I.lset (its':=its++[u]) hH e (by simp) (r.append (.cons ru .nil)) ?_,rfl,q⟩
 rw[qy,List.length_singleton]
 lia
end
end L2
namespace Att
open PySem PySem.W PySem.Calls PyProof.Rows
theorem Yj3{P:Params}{h:Heap}:∀(ns:List Int) (vs:List Value),WellAll P h vs (ns.map WData.int)→IntsAre vs ns:=by
 intro ns
 induction ns with
 | nil=>
   intro vs w
   rw[List.map_nil]at w
   cases w
   exact .nil
 | cons n ns ih=>
   intro vs w
   rw[Qc]at w
   cases w with
   | cons a b=>
     cases a
     exact .cons _ _ (ih _ b)
theorem Yvd{l:OpenLaw}{n:Nat}(hn:l.most=some n){P:Params}{h:Heap}{args:List WData}{vals:List Value}
 (hpre:l.row.toRowW.claim.pre args=true) (hwl:WellAll P h vals args) :
 ∃a vs ns,vals=[Value.ref a]∧args=[WData.list (ns.map WData.int)]∧h.get? a=some { cls:=.type "list",data:=.seq vs.toArray }∧IntsAre vs ns∧ns.length≤n:=by
 have hsh:WShape.hasAll [] args [.list .int]=true:=(pre_splitW hpre).1
 have hc:l.pre.holds [] { args:=args }=true:=(pre_splitW hpre).2
 obtain⟨d,r,rfl,h1,h2⟩:=hasAllW_cons hsh
 obtain rfl:=hasAllW_nil h2
 obtain⟨xs,rfl,h3⟩:=hasW_list h1
 obtain⟨ns,rfl⟩:=items_int h3
 have hlen:ns.length≤n:=by
  unfold OpenLaw.pre at hc
  have h4:(WTm.not (.lt (.lit (.int (n:Int))) (.len (.arg 0)))).holds [] { args:=[.list (ns.map .int)] }=true:=by
   have h4:=(holds_andW hc).1
   rw[hn]at h4
   exact h4
  have h5:=condW_of h4 (w_not (w_lt w_lit (w_len_list (w_arg rfl))))
  rw[qe]at h5
  refine Nat.le_of_not_lt fun q=>?_
  have q':(n:Int) < ((ns.length:Nat):Int):=by lia
  first
   | (rw[decide_eq_true q']at h5;exact absurd h5 (by decide))
   | (simp at h5;lia)
 cases hwl with
 | cons w1 w2=>
   cases w2
   cases w1 with
   | list ho hall=>exact⟨_,_,ns,rfl,rfl,ho,Yj3 ns _ hall,hlen⟩
theorem Yve(l:OpenLaw)(args:List WData):l.row.toRowW.claim.post args (.bool true) args=true:=
 postW_of (r:=l.row.toRowW) (X:=(true==true))
  (show WShape.has [] (.bool true) .bool=true by first | rfl | decide | simp[WShape.has,WShape.arms,WShape.armsAll])
  (show(WTm.eq .res (.lit (.bool true))).value [] { args:=args,res:=some (.bool true),after:=args }=some (.bool (true==true)) from w_eq_bool (w_res rfl) w_lit) rfl
theorem attach_call{l:OpenLaw}{n:Nat}{q:Program}{loose:List Str}{XP:(Str→Option Value)→Heap→Prop}{YP:World→Heap→Prop}{d:DefRec}
 (hn:l.most=some n) (hdf:d.params.defaults=[])
 (call:∀(w:World) (s₀ s₁:Shared) (mg mb:Str→Option Value) (fa:Addr) (o:Obj) (pm cd doc:Value) (a:Addr) (vs:List Value) (ns:List Int),
  Ground q loose [] XP w s₀ mg mb s₁.heap→YP w s₁.heap→
  s₁.heap.get? fa=some o→o.data=.func (docDef d.name d.params d.body d.scope pm cd doc)→s₁.heap.CodeRec cd d.name→mg d.name=some (.ref fa)→
  s₁.heap.get? a=some { cls:=.type "list",data:=.seq vs.toArray }→IntsAre vs ns→ns.length≤n→s₁.gens=#[]→
  codeAny (model l.prog w) callerA (.call (.ref fa) ⟨[.ref a],[]⟩) (fun r s'=>r=.ok (.ret (.bool true))∧OldK s₁.heap s'.heap∧s'.os=s₁.os∧AllBare s'.gens) s₁) :
 WalkO q loose XP YP l.row.toRowW d [] (fun f vs=>PySem.call f vs):=by
 intro w s₀ s₁ mg mb G Y fa o pm cd doc dV kV ho hd hcd hD hmg hg args vals as hpre hlay hrd hwl hlo
 obtain rfl:dV=.none:=Dflts.none hD hdf
 obtain rfl:kV=.none:=Dflts.noKw hD
 obtain⟨a,vs,ns,rfl,rfl,hobj,hints,hlen⟩:=Yvd hn hpre hwl
 refine enter_call (codeAny_mono (call w s₀ s₁ mg mb fa o pm cd doc a vs ns G Y ho (fd_plain hd) hcd hmg hobj hints hlen hg) fun r s' hq=>?_)
 obtain⟨rfl,h2,h3,h4⟩:=hq
 exact⟨.inl ⟨.bool true,.bool true,[],rfl,fun _=>rfl,.bool true,Yve l _,fun _=>⟨List.Pairwise.nil,fun _ hm=>(nomatch hm)⟩⟩,h2,h3,h4⟩
end Att
namespace L2
open PySem PySem.Spec PyProof.Rows
theorem Yj4:∀{vs:List Value} {ns:List Int},IntsAre vs ns→Vals (ns.map V.int) vs
 | _,_,.nil=>.nil
 | _,_,.cons n t h=>.cons ⟨t,rfl⟩ (Yj4 h)
def Only(H:Hp):Prop:=∀b,H b=none∨∃o xs,H b=some (.frz o (.lst xs))
theorem Yyo{P:Program}{w:World}{K:W.Frag}{mg mb:Str→Option Value}{CX:CXT}{k:Nat}{fa a:Addr}{fd:FuncData}{x:Str}{sp:Sp}{s₁:Shared}{vs:List Value}{ns:List Int}
 (KX:K.In s₁.heap) (hns:s₁.heap.Ns mainGlobals mg) (hb:s₁.heap.Ns builtinsNs mb) (hbb:∀x:Str,x≠"__name__"→mb x=bootBuiltins x) (hlim:s₁.heap.NoLimit) (hg:s₁.gens=#[])
 (ha:s₁.heap.get? a=some { cls:=.type "list",data:=.seq vs.toArray }) (hi:IntsAre vs ns) (hl:ns.length≤sizeLine) (hr:Room k callerA)
 (F:∀base:Heap,K.In base→base.Ns mainGlobals mg→FnOk P w K mg base CX k fa fd [x] sp) (hbind:∀(s:Shared) (u:Value),BindsTo s fd ⟨[u],[]⟩ [(x,u)])
 (hsp:∀H:Hp,Only H→SqL K H a (ns.map V.int)→sp [.ref a] H (fun v _=>v=.bl true) fun _ _ _=>False)
 (hCX:∀H e s',CX [] H s₁ (fun _ _ _=>False) e s'→False) :
 codeAny (model P w) callerA (.call (.ref fa) ⟨[.ref a],[]⟩) (fun r s'=>r=.ok (.ret (.bool true))∧OldK s₁.heap s'.heap∧s'.os=s₁.os∧AllBare s'.gens) s₁:=by
 have rv:=Yj4 hi
 have lenV:=hi.length
 have core:∀H:Hp,Only H→SqL K H a (ns.map V.int)→HOk P w H s₁.heap→(∀b,H b≠none→b=a)→(H a≠none→K.lookup a=none)→
  codeAny (model P w) callerA (.call (.ref fa) ⟨[.ref a],[]⟩) (fun r s'=>r=.ok (.ret (.bool true))∧OldK s₁.heap s'.heap∧s'.os=s₁.os∧AllBare s'.gens) s₁:=by
  intro H hO hS hok hA hK
  have base_of:∀{b:Addr} {o:Obj},s₁.heap.get? b=some o→H b=none→(hidT s₁.heap H).get? b=some o:=fun e n=>Yyc e n
  have noA:∀{b:Addr} {o:Obj} {es:Array DictEntry} {ep:Nat},s₁.heap.get? b=some o→o.data=.dict es ep→H b=none:=fun {b o es ep} e d=>by
   cases q:H b with
   | none=>rfl
   | some u=>
     have e':b=a:=hA b (by rw[q];simp)
     subst e'
     rw[ha]at e;cases e
     have d':Data.seq vs.toArray _=Data.dict es ep:=d
     cases d'
  have nsK:∀{b:Addr} {m:Str→Option Value},s₁.heap.Ns b m→(hidT s₁.heap H).Ns b m:=fun {b m} ⟨o,es,ep,e,d,r⟩=>⟨o,es,ep,base_of e (noA e d),d,r⟩
  have hKb:K.In (hidT s₁.heap H):=fun b o e=>base_of (KX b o e) (by
   cases q:H b with
   | none=>rfl
   | some u=>
     have e':b=a:=hA b (by rw[q];simp)
     subst e'
     rw[hK (by rw[q];simp)]at e;cases e)
  have hM:Mod K mg (hidT s₁.heap H):=⟨hKb,nsK hns,⟨mb,nsK hb,hbb⟩,let ⟨mc,h1,h2⟩:=hlim;⟨mc,nsK h1,h2⟩⟩
  have e0:Env0 P w K mg (hidT s₁.heap H) callerA [] s₁ H:=⟨rfl,hM,fun b o e=>y1c e,Nat.le_of_eq (Yuy _ _),trivial,fun b hb=>absurd (show b∈([]:List Addr) from hb) (by simp),hok,.of_eq hg⟩
  refine codeAny_mono ((F _ hKb (nsK hns)).run callerA [] s₁ H ⟨[.ref a],[]⟩ [.ref a] [.ref a] _ _ hr e0 (hbind s₁ (.ref a)) (.cons rfl .nil) (hsp H hO hS)) fun r s' h=>?_
  cases r with
  | error e=>exact(hCX H e s' h).elim
  | ok fl=>
    cases fl with
    | next=>exact False.elim h
    | brk=>exact False.elim h
    | cont=>exact False.elim h
    | ret u=>
      obtain⟨v,H',os,bare,un,hok',r',q⟩:=h
      have q':v=.bl true:=q
      subst q'
      obtain rfl:u=Value.bool true:=r'
      refine⟨rfl,OldK.of_keep fun b o e=>?_,os,bare⟩
      cases q:H b with
      | none=>exact un.keep b o e q (by intro z;exact absurd (show b∈([]:List Addr) from z) (by simp)) (by simp)
      | some u=>
        rcases hO b with z | ⟨ob,xs,z⟩
        ·rw[q]at z;cases z
        ·have z2:=un.frzs b ob _ z
         obtain⟨e1,_⟩:=hok b _ z
         obtain⟨e2,_⟩:=hok' b _ z2
         rw[e]at e1;cases e1
         exact e2
 cases hk:K.lookup a with
 | some o=>
   have e:=KX a o hk
   rw[ha]at e
   cases e
   refine core (fun _=>none) (fun _=>.inl rfl) (.inr ⟨_,vs.toArray,_,hk,rfl,rfl,rfl,by rw[qj,lenV];exact hl,by simpa using rv⟩) (fun b u z=>by have z':(none:Option HO)=some u:=z;cases z') (fun b z=>absurd rfl z) fun z=>absurd rfl z
 | none=>
   refine core (fun b=>if b=a then some (.frz { cls:=.type "list",data:=.seq vs.toArray } (.lst (ns.map V.int)))else none) (fun b=>?_) (.inl (.inr ⟨{ cls:=.type "list",data:=.seq vs.toArray },if_pos rfl⟩)) (fun b u z=>?_) (fun b z=>?_) fun _=>hk
   ·by_cases hb:b=a
    ·exact .inr ⟨_,_,if_pos hb⟩
    ·exact .inl (if_neg hb)
   ·by_cases hb:b=a
    ·have z':=(if_pos hb).symm.trans z
     cases z'
     subst hb
     exact⟨ha,by rw[qe];exact hl,vs,_,rv,ha⟩
    ·have z':=(if_neg hb).symm.trans z
     cases z'
   ·by_cases hb:b=a
    ·exact hb
    ·exact absurd (if_neg hb) z
end L2
namespace L2
open PySem PySem.Spec PyProof.Rows
theorem walk_of{l:W.OpenLaw}{n k:Nat}{q:Program}{loose:List Str}{XP:(Str→Option Value)→Heap→Prop}{YP:World→Heap→Prop}{d:DefRec}{K:Params→W.Frag}{CX:World→CXT}{sp:World→Sp}{x:Str}
 (hn:l.most=some n) (hn2:n≤sizeLine) (hdf:d.params.defaults=[]) (hr:Room k callerA)
 (hY:∀(w:World) (h:Heap),YP w h→(K w.params).In h)
 (F:∀(w:World) (mg:Str→Option Value) (fa:Addr) (h:Heap),(K w.params).In h→h.Ns mainGlobals mg→mg d.name=some (.ref fa)→
  ∃fd:FuncData,(∀(s:Shared) (u:Value),BindsTo s fd ⟨[u],[]⟩ [(x,u)])∧
   ∀base:Heap,(K w.params).In base→base.Ns mainGlobals mg→FnOk l.prog w (K w.params) mg base (CX w) k fa fd [x] (sp w))
 (hsp:∀(w:World) (H:Hp) (a:Addr) (ns:List Int),ns.length≤n→Only H→SqL (K w.params) H a (ns.map V.int)→sp w [.ref a] H (fun v _=>v=.bl true) fun _ _ _=>False)
 (hCX:∀(w:World) (H:Hp) (s:Shared) (e:Value) (s':Shared),CX w [] H s (fun _ _ _=>False) e s'→False) :
 W.WalkO q loose XP YP l.row.toRowW d [] (fun f vs=>PySem.call f vs):=by
 refine Att.attach_call hn hdf fun w s₀ s₁ mg mb fa o pm cd doc a vs ns G Y ho hd hcd hmg hobj hints hlen hg=>?_
 have KX:=hY w _ Y
 obtain⟨fd,hb,hF⟩:=F w mg fa _ KX G.T.g hmg
 exact Yyo KX G.T.g G.T.b G.T.builtins G.T.nolimit hg hobj hints (Nat.le_trans hlen hn2) hr hF hb (fun H hO hS=>hsp w H a ns hlen hO hS) fun H e s'=>hCX w H s₁ e s'
end L2
namespace L2
open PySem PySem.Spec PyProof.Rows
noncomputable def defArgs(s:Stmt):Arguments:=match s with
 | .FunctionDef _ a _ _ _ _ _ _ _ _=>a
 | _=>{ posonlyargs:=[],args:=[],vararg:=none,kwonlyargs:=[],kw_defaults:=[],kwarg:=none,defaults:=[] }
noncomputable def defBody(s:Stmt):List Stmt:=match s with
 | .FunctionDef _ _ b _ _ _ _ _ _ _=>b
 | _=>[]
noncomputable def defScope(s:Stmt):Scope:=match s with
 | .FunctionDef _ _ _ _ _ _ sc _ _ _=>sc
 | _=>{ kind:=.function,names:=[],isGenerator:=false,isCoroutine:=false }
noncomputable abbrev CX0:CXT:=fun _ _ _ _ _ _=>False
noncomputable abbrev E0:XK:=fun _ _ _=>False
theorem y7m{X:Cx}:Yu8 CX0 X E0:=fun _ _ _ _ _ _ _ h=>h.elim
structure Fun(K:W.Frag)(x qual:Str)(st:Stmt)(f:Addr)(fd:FuncData):Prop where
 ex:∃(oc:Value) (od:Option Addr) (kV doc pm:Value) (an:Option Addr) (cdv ct:Value) (osl:Array (Option Value)),
  fd=W.fnOf x qual (defArgs st) (defBody st) (defScope st) .none kV doc pm an cdv ct∧K.lookup f=some ⟨oc,od,.func fd,osl⟩∧W.codeIn K cdv qual=true
 kp:W.keepIn K (.ref f)=true
section
variable {P:Program} {w:World} {K:W.Frag} {mg:Str→Option Value} {base:Heap}
theorem Fun.ok{x qual:Str}{st:Stmt}{f:Addr}{fd:FuncData}{N ps:List Str}{k:Nat}{sp:Sp}(F:Fun K x qual st f fd)(S:FnScope N ps (defScope st))(len:∀vs H Q E,sp vs H Q E→vs.length=ps.length)
 (hbody:∀(cdv:Value) (A:Around) (outer:List Env) (s:Shared) (H:Hp) (vs:List V) (Q:VK) (E:XK),Room k (A.deeper (envOfC qual (defScope st) s.heap.objs.size f cdv))→sp vs H Q E→
  ∃t,PSs (cxOf CX0 P w K mg base N qual (defScope st) f cdv A outer s H E).nox (defBody st) t∧t { nx:=fun _ H'=>Q .non H',rt:=Q } (start N vs) H):FnOk P w K mg base CX0 (k+1) f fd ps sp:=by
 obtain⟨oc,od,kV,doc,pm,an,cdv,ct,osl,rfl,lk,hcd⟩:=F.ex
 refine y7g lk hcd S len fun A outer s H vs Q E hr hsp=>?_
 obtain⟨t,h,q⟩:=hbody cdv A outer s H vs Q E hr hsp
 exact⟨t,h.nox,q⟩
theorem Fun.binds{x qual:Str}{st:Stmt}{f:Addr}{fd:FuncData}{ps:List Str}(F:Fun K x qual st f fd)
 (h:∀(kV doc pm:Value) (an:Option Addr) (cdv ct:Value) (us:List Value),us.length=ps.length→bindArgs (W.fnOf x qual (defArgs st) (defBody st) (defScope st) .none kV doc pm an cdv ct) ⟨us,[]⟩=pure (ps.zip us)):Binds K fd ps []:=by
 obtain⟨oc,od,kV,doc,pm,an,cdv,ct,osl,rfl,lk,hcd⟩:=F.ex
 exact .all (h kV doc pm an cdv ct)
theorem fun_mk{x qual:Str}{st:Stmt}{f:Addr}{oc:Value}{od an:Option Addr}{osl:Array (Option Value)}{kV doc pm cdv ct:Value}(l:K.lookup f=some ⟨oc,od,.func (W.fnOf x qual (defArgs st) (defBody st) (defScope st) .none kV doc pm an cdv ct),osl⟩)
 (c:W.codeIn K cdv qual=true) (k:W.keepIn K (.ref f)=true):Fun K x qual st f (W.fnOf x qual (defArgs st) (defBody st) (defScope st) .none kV doc pm an cdv ct):=⟨⟨oc,od,kV,doc,pm,an,cdv,ct,osl,rfl,l,c⟩,k⟩
end
def Same(H H':Hp):Prop:=∀b o,H b=some o→H' b=some o
theorem Same.refl(H:Hp):Same H H:=fun _ _ h=>h
theorem Same.trans{H H1 H2:Hp}(a:Same H H1)(b:Same H1 H2):Same H H2:=fun c o h=>b c o (a c o h)
theorem Same.free{H H':Hp}(e:Same H H'){l:Addr}(h:H' l=Option.none):H l=Option.none:=by
 cases q:H l with
 | none=>rfl
 | some o=>
   rw[e l o q]at h
   cases h
theorem Same.seq{K:W.Frag}{H H':Hp}{a:Addr}{xs:List V}(e:Same H H')(h:SqL K H a xs):SqL K H' a xs:=by
 rcases h with(h | ⟨o,h⟩) | h
 ·exact .inl (.inl (e _ _ h))
 ·exact .inl (.inr ⟨o,e _ _ h⟩)
 ·exact .inr h
end L2
namespace L2
open PySem PySem.Spec PyProof.Rows
noncomputable def clOf(env:Env):List (Str × NameKind)→List (Str × Addr)→List (Str × Addr)
 | [],cs=>cs
 | (n,k)::r,cs=>if (k==NameKind.free)=true then (match env.cells.lookup n with | some c=>clOf env r ((n,c)::cs) | none=>clOf env r cs)else clOf env r cs
theorem Yfd{scope:Scope}{env:Env}(h:∀x∈scope.names,x.2=NameKind.free→∃c,env.cells.lookup x.1=some c):closureFor scope env=pure (clOf env scope.names []):=by
 have key:∀(l:List (Str × NameKind)) (cs:List (Str × Addr)),(∀x∈l,x.2=NameKind.free→∃c,env.cells.lookup x.1=some c)→
  (forIn l cs fun(x:Str × NameKind) (r:List (Str × Addr))=>if (x.2==NameKind.free)=true then (do let c ←cellOf env x.1;pure (ForInStep.yield ((x.1,c)::r)))else pure (ForInStep.yield r))=(pure (clOf env l cs):Sem (List (Str × Addr))):=by
  intro l
  induction l with
  | nil=>intro cs _;rfl
  | cons x l ih=>
    intro cs hl
    obtain⟨n,k⟩:=x
    have ht:=fun y hy=>hl y (qf _ hy)
    rw[List.forIn_cons]
    by_cases hk:k=NameKind.free
    ·subst hk
     obtain⟨c,hc⟩:=hl (n,NameKind.free) qg rfl
     have hc':env.cells.lookup n=some c:=hc
     have e1:cellOf env n=pure c:=by unfold cellOf;rw[hc']
     have hff:(NameKind.free==NameKind.free)=true:=rfl
     show(if (NameKind.free==NameKind.free)=true then (do let c ←cellOf env n;pure (ForInStep.yield ((n,c)::cs)))else pure (ForInStep.yield cs)) >>= _=_
     rw[if_pos hff,e1,pure_bind,pure_bind]
     show forIn l ((n,c)::cs) _=_
     rw[ih _ ht]
     show _=pure (if (NameKind.free==NameKind.free)=true then (match env.cells.lookup n with | some c=>clOf env l ((n,c)::cs) | none=>clOf env l cs)else clOf env l cs)
     rw[if_pos hff,hc']
    ·have hb:(k==NameKind.free)=false:=by simpa using hk
     show(if (k==NameKind.free)=true then _ else pure (ForInStep.yield cs)) >>= _=_
     rw[if_neg (by rw[hb];exact qh),pure_bind]
     show forIn l cs _=_
     rw[ih _ ht]
     show _=pure (if (k==NameKind.free)=true then (match env.cells.lookup n with | some c=>clOf env l ((n,c)::cs) | none=>clOf env l cs)else clOf env l cs)
     rw[if_neg (by rw[hb];exact qh)]
 have:=key scope.names [] h
 unfold closureFor
 simpa using this
theorem Yjo{env:Env}:∀(l:List (Str × NameKind)) (cs:List (Str × Addr)),(∀x c,(x,c)∈cs→env.cells.lookup x=some c)→∀x c,(x,c)∈clOf env l cs→env.cells.lookup x=some c
 | [],cs,h,x,c,e=>h x c e
 | (n,k)::r,cs,h,x,c,e=>by
   unfold clOf at e
   split at e
   ·split at e
    ·rename_i d hd
     refine Yjo r _ (fun y b hy=>?_) x c e
     rcases qr hy with q | q
     ·cases q;exact hd
     ·exact h y b q
    ·exact Yjo r cs h x c e
   ·exact Yjo r cs h x c e
theorem Yfz{env:Env}:∀(l:List (Str × NameKind)) (cs:List (Str × Addr)) (p:Str × Addr),p∈cs→p∈clOf env l cs
 | [],_,_,h=>h
 | (n,k)::r,cs,p,h=>by
   unfold clOf
   split
   ·split
    ·exact Yfz r _ p (qf _ h)
    ·exact Yfz r _ p h
   ·exact Yfz r _ p h
theorem Yg2{env:Env}:∀(l:List (Str × NameKind)) (cs:List (Str × Addr)) (x:Str) (c:Addr),(x,NameKind.free)∈l→env.cells.lookup x=some c→(x,c)∈clOf env l cs
 | (n,k)::r,cs,x,c,h,hc=>by
   rcases qr h with q | q
   ·cases q
    unfold clOf
    rw[if_pos (show(NameKind.free==NameKind.free)=true from rfl),hc]
    exact Yfz r _ _ qg
   ·unfold clOf
    split
    ·split
     ·exact Yg2 r _ x c q hc
     ·exact Yg2 r _ x c q hc
    ·exact Yg2 r _ x c q hc
theorem Yg3{x:Str}{c:Addr}{cl:List (Str × Addr)}(h:(x,c)∈cl):∃d,cl.lookup x=some d:=by
 induction cl with
 | nil=>cases h
 | cons p r ih=>
   obtain⟨n,b⟩:=p
   rw[List.lookup_cons]
   cases e:(x==n)with
   | true=>exact⟨b,rfl⟩
   | false=>
     rcases qr h with q | q
     ·cases q;simp at e
     ·exact ih q
structure CompSc(XN:List Str)(xsc:Scope)(N:List Str)(src:List (Option Nat))(sc:Scope):Prop where
 kind:sc.kind=.function
 xkind:xsc.kind=.function
 cellU:∀y∈sc.names,y.2=NameKind.cell→sc.names.lookup y.1=some NameKind.cell
 names:∀y∈sc.names,y.2=NameKind.local→sc.names.lookup y.1=some NameKind.local
 len:src.length=N.length
 nd:N.Nodup
 cap:∀(i j:Nat) (x:Str),N[i]?=some x→src[i]?=some (some j)→XN[j]?=some x∧sc.names.lookup x=some NameKind.free
 fr:∀y∈sc.names,y.2=NameKind.free→xsc.names.lookup y.1=some NameKind.cell∨xsc.names.lookup y.1=some NameKind.free
noncomputable def capB(XN:List Str)(sc:Scope):List Str→List (Option Nat)→Bool
 | [],[]=>true
 | x::N,none::src=>capB XN sc N src
 | x::N,some j::src=>decide (XN[j]?=some x)&&decide (sc.names.lookup x=some NameKind.free)&&capB XN sc N src
 | _,_=>false
theorem Ymy{XN:List Str}{sc:Scope}:∀{N:List Str} {src:List (Option Nat)},capB XN sc N src=true→src.length=N.length
 | [],[],_=>rfl
 | _::N,none::src,h=>by
   have:=Ymy (N:=N) (src:=src) h
   simp[this]
 | _::N,some j::src,h=>by
   replace h:(decide (XN[j]?=some _)&&decide (sc.names.lookup _=some NameKind.free)&&capB XN sc N src)=true:=h
   simp only[Qi]at h
   have:=Ymy (N:=N) (src:=src) h.2
   simp[this]
 | [],_::_,h=>Bool.noConfusion h
 | _::_,[],h=>Bool.noConfusion h
theorem Ymz{XN:List Str}{sc:Scope}:∀{N:List Str} {src:List (Option Nat)},capB XN sc N src=true→∀(i j:Nat) (x:Str),N[i]?=some x→src[i]?=some (some j)→XN[j]?=some x∧sc.names.lookup x=some NameKind.free
 | [],[],_,i,j,x,h,_=>by simp at h
 | _::N,none::src,h,i,j,x,h1,h2=>by
   cases i with
   | zero=>simp at h2
   | succ i=>exact Ymz (N:=N) (src:=src) h i j x (by simpa using h1) (by simpa using h2)
 | y::N,some k::src,h,i,j,x,h1,h2=>by
   replace h:(decide (XN[k]?=some y)&&decide (sc.names.lookup y=some NameKind.free)&&capB XN sc N src)=true:=h
   simp only[Qi,decide_eq_true_eq]at h
   cases i with
   | zero=>
     simp at h1 h2
     subst h1;subst h2
     exact h.1
   | succ i=>exact Ymz (N:=N) (src:=src) h.2 i j x (by simpa using h1) (by simpa using h2)
 | [],_::_,h,_,_,_,_,_=>Bool.noConfusion h
 | _::_,[],h,_,_,_,_,_=>Bool.noConfusion h
noncomputable def y41(XN:List Str)(xsc:Scope)(N:List Str)(src:List (Option Nat))(sc:Scope):Bool:=
 decide (sc.kind=.function)&&decide (xsc.kind=.function)&&sc.names.all (fun y=>decide (y.2=NameKind.cell→sc.names.lookup y.1=some NameKind.cell))&&sc.names.all (fun y=>decide (y.2=NameKind.local→sc.names.lookup y.1=some NameKind.local))&&
  decide N.Nodup&&capB XN sc N src&&sc.names.all (fun y=>decide (y.2=NameKind.free→xsc.names.lookup y.1=some NameKind.cell∨xsc.names.lookup y.1=some NameKind.free))
theorem Yy{XN:List Str}{xsc:Scope}{N:List Str}{src:List (Option Nat)}{sc:Scope}(h:y41 XN xsc N src sc=true):CompSc XN xsc N src sc:=by
 unfold y41 at h
 simp only[Qi,decide_eq_true_eq,List.all_eq_true]at h
 obtain⟨⟨⟨⟨⟨⟨h1,h2⟩,h3⟩,h4⟩,h5⟩,h6⟩,h7⟩:=h
 exact⟨h1,h2,h3,h4,Ymy h6,h5,Ymz h6,h7⟩
noncomputable abbrev Yaz(X:Cx)(scope:Scope)(N:List Str)(cl:List (Str × Addr))(C:Addr)(fp:List Addr)(s:Shared)(H:Hp):Cx where
 prog:=X.prog
 w:=X.w
 K:=X.K
 mg:=X.mg
 base:=X.base
 A:=X.A
 N:=N
 s₀:=s
 H₀:=H
 env:=compEnvC scope cl C X.env
 outer:=X.stack
 stack:=X.stack
 ex:=fp
 fn:=fun x=>scope.names.lookup x==some NameKind.cell
 calm:=X.calm
 pn:=[]
 xe:=fun _ _=>False
noncomputable def capσ(src:List (Option Nat))(σ:St):St:=src.map fun o=>o.bind fun j=>(σ[j]?).join
def PIfs(X:Cx)(ifs:List Expr)(t:TT):Prop:=
 ∀(pins:List (Addr × Obj)) (s:Shared) (σ:St) (H:Hp) (Q:Bool→Hp→Prop),Inv X pins σ H s→t σ H Q→
  wpAny (model X.prog X.w) X.A (forIn ifs true fun c r=>if r=true then do let ok ←isTrue c X.env (eval c X.env);pure (ForInStep.yield ok)else pure (ForInStep.yield r)) (TP X pins σ Q) X.xe s
noncomputable def tYes:TT:=fun _ H Q=>Q true H
theorem y12{X:Cx}:PIfs X [] tYes:=fun _ _ _ H _ I h=>wpAny_tests_nil ⟨H,I,h⟩
theorem y13{X:Cx}{c:Expr}{t:TT}(h:PT X c t):PIfs X [c] t:=fun pins s σ H Q I hq=>wpAny_tests_one (h pins s σ H Q I hq)
noncomputable def tLC(wi:TI)(src:List (Option Nat))(g:TG)(ti:TT)(te:TE):TE:=fun σ H Q=>wi σ H fun J H1=>∀p,H1 p=none→
 ∃W:Nat→Nat→St→Hp→Prop,(∃m,W 0 m (capσ src σ) (upd H1 p (.lst [])))∧∀i m σ1 H2,W i m σ1 H2→
  (J.stop i H2∧Q (.ref p) H2)∨
  (J.go i H2∧∀x H3,J.yld i H2 x H3→g x σ1 H3 fun σ4 H4=>ti σ4 H4 fun b H5=>if b=true then te σ4 H5 fun v H6=>∃xs,H6 p=some (.lst xs)∧xs.length < sizeLine∧∃m',m' < m∧W (i+1) m' σ4 (upd H6 p (.lst (xs++[v])))else ∃m',m' < m∧W (i+1) m' σ4 H5)
section
variable {prog:Program} {w:World} {A:Around} {R:Result→Shared→Prop} {s:Shared}
theorem Yf4{elt target iter:Expr}{ifs:List Expr}{scope:Scope}{pos:Pos}{it acc:Value}{env:Env}(I:Nat→Shared→Prop)
 (turn:∀n s,I n s→wpAny (model prog w) A (pyNext it) (fun r s₁=>match r with
  | none=>R (.ok .next) s₁
  | some v=>wpAny (model prog w) A (letOwnedTupleGo target it v) (fun _ s₁=>wpAny (model prog w) A (assign target env v) (fun _ s₂=>
   wpAny (model prog w) A (forIn ifs true fun c r=>if r=true then do let ok ←isTrue c env (eval c env);pure (ForInStep.yield ok)else pure (ForInStep.yield r)) (fun ok s₃=>
    if ok=true then wpAny (model prog w) A (eval elt env) (fun x s₄=>
     wpAny (model prog w) A (call (.builtin "list.append") [acc,x]) (fun _ s₅=>∃m,m < n∧I m s₅) (notedBy (model prog w) A env fun e s'=>R (.error e) s') s₄) (notedBy (model prog w) A env fun e s'=>R (.error e) s') s₃
    else ∃m,m < n∧I m s₃) (notedBy (model prog w) A env fun e s'=>R (.error e) s') s₂) (notedBy (model prog w) A env fun e s'=>R (.error e) s') s₁) (notedBy (model prog w) A env fun e s'=>R (.error e) s') s₁) (notedBy (model prog w) A env fun e s'=>R (.error e) s') s)
 (n:Nat) (h:I n s) :
 codeAny (model prog w) A (.compLoop (.ListComp elt [⟨target,iter,ifs,0⟩] scope pos) 0 it acc env) R s:=by
 refine codeAny_loop rfl I (fun n s hI=>?_) n h
 show wpAny _ A ((compTurn (.ListComp elt [⟨target,iter,ifs,0⟩] scope pos) 0 it acc env).onRaise (fun x=>do noteFrame x env;theTreesLotGoes x)) _ _ s
 refine wpAny_noted ?_
 rw[compTurn_list]
 refine wpAny_bind (wpAny_standAt (wpAny_bind (wpAny_mono (turn n s hI) (fun r s₁ h₁=>?_) fun _ _ h'=>h')))
 cases r with
 | none=>exact wpAny_pure h₁
 | some v=>
   refine wpAny_bind (wpAny_mono h₁ (fun _ s₁ h₁=>?_) fun _ _ h'=>h')
   refine wpAny_bind (wpAny_mono h₁ (fun _ s₂ h₂=>wpAny_bind (wpAny_mono h₂ (fun ok s₃ h₃=>?_) fun _ _ h'=>h')) fun _ _ h'=>h')
   cases ok with
   | false=>exact wpAny_pure ⟨rfl,h₃⟩
   | true=>
     exact wpAny_bind (wpAny_bind (wpAny_mono h₃ (fun x s₄ h₄=>wpAny_bind (wpAny_mono h₄ (fun _ s₅ h₅=>wpAny_pure (wpAny_pure ⟨rfl,h₅⟩)) fun _ _ h'=>h')) fun _ _ h'=>h'))
end
section
variable {X:Cx} {elt tg iter:Expr} {ifs:List Expr} {scope:Scope} {pos:Pos} {wi:TI} {g:TG} {ti:TT} {te:TE} {N:List Str} {src:List (Option Nat)}
theorem Ygd{scope:Scope}{env:Env}{x:Str}(h:scope.names.lookup x=some NameKind.free)(hk:env.kindOf x=some NameKind.cell∨env.kindOf x=some NameKind.free) :
 (relabel scope env).names.lookup x=some NameKind.cell∨(relabel scope env).names.lookup x=some NameKind.free:=by
 unfold relabel
 show List.lookup x (scope.names.map _)=_∨List.lookup x (scope.names.map _)=_
 generalize scope.names=l at h
 induction l with
 | nil=>cases h
 | cons p r ih=>
   obtain⟨n,k⟩:=p
   rw[List.lookup_cons]at h
   rw[Qc]
   cases e:(x==n)with
   | true=>
     rw[e]at h
     cases h
     by_cases hc:(NameKind.free==NameKind.free&&env.scope.kind==ScopeKind.function&&env.kindOf n==some NameKind.cell)=true
     ·left;simp only[hc,if_true];rw[List.lookup_cons,e]
     ·right;simp only[hc];rw[if_neg qh,List.lookup_cons,e]
   | false=>
     rw[e]at h
     have q:=ih h
     by_cases hc:(k==NameKind.free&&env.scope.kind==ScopeKind.function&&env.kindOf n==some NameKind.cell)=true
     ·simp only[hc,if_true];rw[List.lookup_cons,e];exact q
     ·simp only[hc];rw[if_neg qh,List.lookup_cons,e];exact q
theorem Yj5{scope:Scope}{env:Env}{x:Str}(h:(relabel scope env).names.lookup x=some NameKind.cell∨(relabel scope env).names.lookup x=some NameKind.free) :
 (x,NameKind.free)∈scope.names∨(x,NameKind.cell)∈scope.names:=by
 unfold relabel at h
 change List.lookup x (scope.names.map _)=_∨List.lookup x (scope.names.map _)=_ at h
 revert h
 generalize scope.names=l
 intro h
 induction l with
 | nil=>rcases h with h | h<;>cases h
 | cons p r ih=>
   obtain⟨n,k⟩:=p
   rw[Qc]at h
   have hr:=fun z=>ih z
   cases e:(x==n)with
   | true=>
     have en:x=n:=by simpa using e
     subst en
     by_cases hk:k=NameKind.free
     ·subst hk;exact .inl qg
     ·have hb:(k==NameKind.free)=false:=by simpa using hk
      simp only[hb,Bool.false_and,Bool.false_eq_true,if_false]at h
      rw[List.lookup_cons,e]at h
      rcases h with h | h
      ·cases h;exact .inr qg
      ·cases h;exact absurd rfl hk
   | false=>
     refine(hr ?_).imp (qf _) (qf _)
     by_cases hk:(k==NameKind.free&&env.scope.kind==ScopeKind.function&&env.kindOf n==some NameKind.cell)=true
     ·simp only[hk,if_true]at h;rw[List.lookup_cons,e]at h;exact h
     ·simp only[hk]at h;rw[if_neg qh,List.lookup_cons,e]at h;exact h
theorem Yb6:∀(names:List (Str × NameKind)) (n:Nat) (acc:List (Str × Addr)),cellsFrom n names acc=cellsFrom n names []++acc
 | [],_,_=>rfl
 | (x,k)::r,n,acc=>by
   unfold cellsFrom
   split
   ·rw[Yb6 r (n+1) ((x,n)::acc),Yb6 r (n+1) [(x,n)],List.append_assoc];rfl
   ·exact Yb6 r n acc
theorem Ye0:∀(names:List (Str × NameKind)) (n:Nat) (x:Str) (c:Addr),(x,c)∈cellsFrom n names []→(x,NameKind.cell)∈names
 | [],_,_,_,h=>(nomatch h)
 | (y,k)::r,n,x,c,h=>by
   unfold cellsFrom at h
   split at h
   ·rename_i hk
    rw[Yb6]at h
    rcases qu h with h | h
    ·exact qf _ (Ye0 r _ x c h)
    ·rw[List.mem_singleton]at h
     cases h
     have:k=NameKind.cell:=by simpa using hk
     rw[this];exact qg
   ·exact qf _ (Ye0 r n x c h)
theorem Yh1{own cl:List (Str × Addr)}{x:Str}:(own++cl).lookup x=(own.lookup x).or (cl.lookup x):=by
 induction own with
 | nil=>rfl
 | cons p r ih=>
   obtain⟨y,b⟩:=p
   rw[List.cons_append,List.lookup_cons,List.lookup_cons]
   cases (x==y)with
   | true=>rfl
   | false=>exact ih
theorem Yba{own cl:List (Str × Addr)}{x:Str}{c:Addr}(h:(own++cl).lookup x=some c):own.lookup x=some c∨(own.lookup x=none∧cl.lookup x=some c):=by
 rw[Yh1]at h
 cases e:own.lookup x with
 | none=>rw[e]at h;exact .inr ⟨rfl,h⟩
 | some d=>rw[e]at h;exact .inl h
theorem Yq3{M:Model}{A:Around}{E:Value→Shared→Prop}{scope:Scope}{globals:Addr}{cl:List (Str × Addr)}{qual:Str}{outer:Env}{Q:Env→Shared→Prop}{s:Shared}{bt:Addr}
 (h:Q (newEnv scope s.heap.objs.size globals (cellsFrom (s.heap.objs.size+1) scope.names []++cl) qual none .none (some outer) bt) { s with heap:=pushCells (s.heap.push { cls:=.type "dict",data:=.dict #[] }) scope.names }) :
 wpAny M A (newFunctionEnv scope globals cl [] qual none .none (some outer) bt) Q E s:=by
 simp only[newFunctionEnv,Option.isSome_some,if_true]
 refine wpAny_bind (wpAny_alloc ?_)
 refine wpAny_bind (wpAny_layCells _ (fun name kind cells=>by cases hkc:kind==NameKind.cell<;>simp[hkc]) _ _ _ _ ?_)
 rw[show({ s with heap:=s.heap.push { cls:=.type "dict",data:=.dict #[] } }:Shared).heap.objs.size=s.heap.objs.size+1 from Heap.size_push ..,Yb6]
 rw[List.forIn_nil]
 exact wpAny_bind (wpAny_pure (wpAny_pure h))
theorem Ytx{pins:List (Addr × Obj)}{σ:St}{H:Hp}{s:Shared}{fp:List Addr}{h₁:Heap}{tk:Nat}{own:List (Str × Addr)}(S:CompSc X.N X.env.scope N src scope)(I:Inv X pins σ H s)(hf:∀b∈fp,FpOk X pins H b)(ho:∀b∈fp,∃o,s.heap.get? b=some o)
 (hn:h₁.Ns s.heap.objs.size fun _=>none) (hk:∀b o,s.heap.get? b=some o→h₁.get? b=some o) (hc:CellsOk h₁ (s.heap.objs.size+1) own) (ow:∀x c,(x,c)∈own→(x,NameKind.cell)∈scope.names) (has:∀x,scope.names.lookup x=some NameKind.cell→∃c,own.lookup x=some c) :
 Inv (Yaz X scope N (own++clOf X.env scope.names []) s.heap.objs.size fp s H) [] (capσ src σ) H { s with heap:=h₁,toks:=tk }:=by
 have sub:∀x c,(clOf X.env scope.names []).lookup x=some c→X.env.cells.lookup x=some c:=fun x c e=>Yjo scope.names [] (fun _ _ z=>nomatch z) x c (PySem.mem_of_lookup e)
 have clt:∀x c,(clOf X.env scope.names []).lookup x=some c→c < s.heap.objs.size:=fun x c e=>by
  obtain⟨v,q⟩:=I.cell x c (sub x c e)
  exact q.lt
 have owl:∀x c,own.lookup x=some c→s.heap.objs.size < c:=fun x c e=>(hc.empty x c (PySem.mem_of_lookup e)).2
 have nofree:∀x,scope.names.lookup x=some NameKind.free→own.lookup x=none:=fun x hx=>by
  cases e:own.lookup x with
  | none=>rfl
  | some c=>
    have:=S.cellU _ (ow x c (PySem.mem_of_lookup e)) rfl
    rw[hx]at this
    cases this
 have fpl:∀b∈fp,b < s.heap.objs.size:=fun b hb=>by
  obtain⟨o,e⟩:=ho b hb
  exact qk e
 have nfs:∀b∈fp,b∉frs X.stack:=fun b hb z=>by
  rcases qr (I.stkSub b z)with e | e
  ·exact(hf b hb).2.1 e
  ·exact(hf b hb).2.2.1 e
 refine⟨⟨I.ok.mod,S.kind,I.ok.glob,I.ok.blt,qt _,fun x y c h1 h2=>?_,fun x hx=>?_,fun x c z e=>?_,I.ok.hd,I.ok.frames,.inl rfl,fun b hb=>⟨ql (fpl b hb),fun x c e=>?_⟩,
  I.bs,Nat.le_trans I.ok.bsz I.sz,fun b o e hb=>?_,nfs,I.stack,I.stkFree⟩,rfl,I.bare,Un.kept hk,⟨_,hn,fun i x v h1 h2 h3=>?_⟩,fun x c e=>?_,I.fresh,fun x c e=>?_,fun p hp=>(nomatch hp),I.hok.kept hk,?_⟩
 ·rcases Yba h1 with h1 | ⟨_,h1⟩
  ·rcases Yba h2 with h2 | ⟨_,h2⟩
   ·exact name_of_addr hc.apart (PySem.mem_of_lookup h1) (PySem.mem_of_lookup h2)
   ·exact absurd (Nat.lt_trans (owl x c h1) (clt y c h2)) (Qf _)
  ·rcases Yba h2 with h2 | ⟨_,h2⟩
   ·exact absurd (Nat.lt_trans (owl y c h2) (clt x c h1)) (Qf _)
   ·exact I.ok.inj x y c (sub x c h1) (sub y c h2)
 ·show ∃c,(own++clOf X.env scope.names []).lookup x=some c
  rw[Yh1]
  cases e:own.lookup x with
  | some c=>exact⟨c,rfl⟩
  | none=>
    rcases Yj5 hx with hm | hm
    ·obtain⟨c,hc⟩:=I.ok.has x (S.fr _ hm rfl)
     exact Yg3 (Yg2 scope.names [] x c hm hc)
    ·obtain⟨c,hc⟩:=has x (S.cellU _ hm rfl)
     rw[e]at hc
     cases hc
 ·have z':scope.names.lookup x=some NameKind.cell:=by simpa using z
  obtain⟨d,hd⟩:=has x z'
  rcases Yba e with e | ⟨e,_⟩
  ·exact Nat.le_of_lt (owl x c e)
  ·rw[hd]at e;cases e
 ·rcases Yba e with e | ⟨_,e⟩
  ·exact Nat.ne_of_gt (Nat.lt_trans (fpl b hb) (owl x c e))
  ·exact(hf b hb).2.2.2.2.1 x c (sub x c e)
 ·rcases(hf b hb).2.2.2.1 with z | z
  ·exact I.ok.noex b o e z
  ·exact absurd (Qd (qk e) (Nat.le_trans I.ok.bsz z)) (Qf _)
 ·have hi:i < src.length:=by
   have:=(qm h2).1
   unfold capσ at this
   simpa using this
  have hs:src[i]?=some src[i]:=qp hi
  unfold capσ at h2
  rw[Qh,hs]at h2
  have h2':(src[i].bind fun j=>(σ[j]?).join)=some v:=Option.some.inj h2
  cases q:src[i]with
  | none=>rw[q]at h2';cases h2'
  | some j=>
    rw[q]at h2' hs
    have h2'':(σ[j]?).join=some v:=h2'
    obtain⟨hx,hfr⟩:=S.cap i j x h1 hs
    obtain⟨m,_,hl⟩:=I.loc
    have hk2:X.env.kindOf x=some NameKind.cell∨X.env.kindOf x=some NameKind.free:=S.fr (x,NameKind.free) (PySem.mem_of_lookup hfr) rfl
    have hσ:σ[j]?=some (some v):=by
     cases z:σ[j]? with
     | none=>rw[z]at h2'';cases h2''
     | some o=>
       rw[z]at h2''
       have:o=some v:=h2''
       rw[this]
    obtain⟨u,r,l⟩:=hl j x v hx hσ (.inr hk2)
    refine⟨u,r,.inr ⟨Ygd hfr hk2,?_⟩⟩
    rcases l with⟨z,_⟩ | ⟨_,c,hc,hcell⟩
    ·rcases hk2 with q2 | q2
     ·rw[q2]at z;cases z
     ·rw[q2]at z;cases z
    ·obtain⟨d,hd⟩:=Yg3 (Yg2 (env:=X.env) scope.names [] x c (PySem.mem_of_lookup hfr) hc)
     have e2:=sub x d hd
     rw[hc]at e2
     cases e2
     refine⟨c,?_,hcell.keeps hk⟩
     show(own++clOf X.env scope.names []).lookup x=some c
     rw[Yh1,nofree x hfr]
     exact hd
 ·rcases Yba e with e | ⟨_,e⟩
  ·exact⟨_,(hc.empty x c (PySem.mem_of_lookup e)).1⟩
  ·obtain⟨v,q⟩:=I.cell x c (sub x c e)
   exact⟨v,q.keeps hk⟩
 ·rcases Yba e with e | ⟨_,e⟩
  ·exact I.hok.fresh (Nat.le_of_lt (owl x c e))
  ·exact I.freeC x c (sub x c e)
 ·unfold capσ
  rw[qe]
  exact S.len
theorem Yyp{pins:List (Addr × Obj)}{σ σ1:St}{H H':Hp}{s s':Shared}{fp:List Addr}{cl:List (Str × Addr)}{C:Addr}{pn:List (Addr × Obj)}(I:Inv X pins σ H s)(hf:∀b∈fp,FpOk X pins H b)(J:Inv (Yaz X scope N cl C fp s H) pn σ1 H' s'):Inv X pins σ H' s':=
 I.call' J.os J.base J.hok J.bare fun b hb=>⟨(hf b hb).2.2.2.1,(hf b hb).2.1,(hf b hb).2.2.2.2.1,(hf b hb).2.2.2.2.2⟩
theorem Yow{pins:List (Addr × Obj)}{σ:St}{H:Hp}{s:Shared}{Q:VK}{it:Addr}{fp:List Addr}{tn:Nat→Heap→Prop}{J:It}{R:Value→Addr→Result→Shared→Prop}{E:Value→Shared→Prop}
 (S:CompSc X.N X.env.scope N src scope) (hc:X.calm=true) (hg:∀cl C fp s H,PG (Yaz X scope N cl C fp s H) tg g) (hi:∀cl C fp s H,PIfs (Yaz X scope N cl C fp s H) ifs ti) (he:∀cl C fp s H,PE (Yaz X scope N cl C fp s H) elt te)
 (I:Inv X pins σ H s) (T:Turn X.prog X.w X.K tg J fp it tn) (st:tn 0 s.heap) (hf:∀b∈fp,FpOk X pins H b)
 (h:∀p,H p=none→∃W:Nat→Nat→St→Hp→Prop,(∃m,W 0 m (capσ src σ) (upd H p (.lst [])))∧∀i m σ1 H2,W i m σ1 H2→
  (J.stop i H2∧Q (.ref p) H2)∨
  (J.go i H2∧∀x H3,J.yld i H2 x H3→g x σ1 H3 fun σ4 H4=>ti σ4 H4 fun b H5=>if b=true then te σ4 H5 fun v H6=>∃xs,H6 p=some (.lst xs)∧xs.length < sizeLine∧∃m',m' < m∧W (i+1) m' σ4 (upd H6 p (.lst (xs++[v])))else ∃m',m' < m∧W (i+1) m' σ4 H5))
 (hR:∀(D C:Addr) (s':Shared) (H':Hp) (m:Str→Option Value),Inv X pins σ H' s'→s'.heap.Ns C m→H' C=none→C≠X.env.locals→X.s₀.heap.objs.size≤C→(∀x c,X.env.cells.lookup x=some c→c≠C)→(∀p∈X.pn++pins,p.1≠C)→Q (.ref D) H'→R (.ref D) C (.ok .next) s') :
 wpAny (model X.prog X.w) X.A (newList []) (fun acc s₃=>wpAny (model X.prog X.w) X.A (newFunctionEnv scope X.env.globals (clOf X.env scope.names []) [] X.env.qual none .none (some X.env)) (fun cenv s₄=>
  codeAny (model X.prog X.w) X.A (.compStart (.ListComp elt [⟨tg,iter,ifs,0⟩] scope pos) 0 (.ref it) acc { cenv with scope:=relabel scope X.env }) (R acc cenv.locals) s₄) E s₃) E s:=by
 refine wpAny_newObj_type (Yq3 ?_)
 have hfree:H s.heap.objs.size=none:=I.fresh
 obtain⟨W,⟨m0,w0⟩,turn⟩:=h s.heap.objs.size hfree
 have I3:Inv X pins σ (upd H s.heap.objs.size (.lst [])) { s with heap:=s.heap.push { cls:=.type "list",dict:=none,data:=.seq ([]:List Value).toArray },toks:=s.toks }:=I.lnew (ys:=[]) (its:=[]) .nil (Qe _)
 generalize hD:s.heap.objs.size=Dd at *
 generalize hH3:upd H Dd (.lst [])=H3 at *
 have kp0:∀b o,s.heap.get? b=some o→(s.heap.push { cls:=.type "list",dict:=none,data:=.seq ([]:List Value).toArray }).get? b=some o:=fun b o e=>qd _ e
 have lt0:∀b o,s.heap.get? b=some o→b≠Dd:=fun b o e=>by rw[←hD];exact ql (qk e)
 generalize hs3:s.heap.push { cls:=.type "list",dict:=none,data:=.seq ([]:List Value).toArray }=hp3 at *
 have f3:∀b∈fp,FpOk X pins H3 b:=fun b hb=>by
  obtain⟨o,e,_⟩:=T.obj _ _ st b hb
  refine⟨?_,(hf b hb).2⟩
  rw[←hH3,Yaa (lt0 b o e)]
  exact(hf b hb).1
 have ob3:∀b∈fp,∃o,hp3.get? b=some o:=fun b hb=>by
  obtain⟨o,e,_⟩:=T.obj _ _ st b hb
  exact⟨o,kp0 b o e⟩
 dsimp only
 have hns₁:(pushCells (hp3.push { cls:=.type "dict",data:=.dict #[] }) scope.names).Ns hp3.objs.size (fun _=>none):=(Heap.Ns.new hp3 (.type "dict")).keeps (pushCells_keeps _ _)
 have old:∀b o,hp3.get? b=some o→(pushCells (hp3.push { cls:=.type "dict",data:=.dict #[] }) scope.names).get? b=some o:=fun b o e=>pushCells_keeps _ _ b o (qd _ e)
 have cok:=cellsFrom_ok scope.names (hp3.push { cls:=.type "dict",data:=.dict #[] }) (hp3.objs.size+1) [] ⟨fun _ _ hm=>(nomatch hm),List.Pairwise.nil⟩ (by rw[Heap.size_push];exact qt _)
 rw[Heap.size_push]at cok
 have chas:∀x,scope.names.lookup x=some NameKind.cell→∃c,(cellsFrom (hp3.objs.size+1) scope.names []).lookup x=some c:=fun x hx=>Option.isSome_iff_exists.mp (PySem.W.cellsFrom_some _ _ _ (.inl hx))
 have cmem:∀x c,(x,c)∈cellsFrom (hp3.objs.size+1) scope.names []→(x,NameKind.cell)∈scope.names:=fun x c h=>Ye0 _ _ x c h
 generalize cellsFrom (hp3.objs.size+1) scope.names []=own at *
 generalize pushCells (hp3.push { cls:=.type "dict",data:=.dict #[] }) scope.names=h₁ at *
 have I4:Inv (Yaz X scope N (own++clOf X.env scope.names []) hp3.objs.size fp { s with heap:=hp3,toks:=s.toks } H3) [] (capσ src σ) H3 { s with heap:=h₁,toks:=s.toks }:=
  Ytx (s:={ s with heap:=hp3,toks:=s.toks }) (tk:=s.toks) S I3 f3 ob3 hns₁ old cok cmem chas
 have st4:tn 0 h₁:=T.keep _ _ _ st fun b _ o e=>old b o (kp0 b o e)
 have hCl:hp3.objs.size≠X.env.locals:=Nat.ne_of_gt I3.lt
 have hCc:∀x c,X.env.cells.lookup x=some c→c≠hp3.objs.size:=fun x c e=>by
  obtain⟨v,q⟩:=I3.cell x c e
  exact ql q.lt
 have hCp:∀p∈X.pn++pins,p.1≠hp3.objs.size:=fun p hp=>ql (qk (I3.pin p hp).1)
 have stat:∀{H':Hp},(∀b∈fp,H' b=none)→∀b∈fp,FpOk (Yaz X scope N (own++clOf X.env scope.names []) hp3.objs.size fp { s with heap:=hp3,toks:=s.toks } H3) [] H' b:=fun {H'} hn b hb=>by
  obtain⟨e1,e2⟩:=I4.ok.exf b hb
  exact⟨hn b hb,e1,I4.ok.exfs b hb,.inl hb,e2,fun p hp=>nomatch hp⟩
 have loop:codeAny (model X.prog X.w) X.A (.compLoop (.ListComp elt [⟨tg,iter,ifs,0⟩] scope pos) 0 (.ref it) (.ref Dd) (compEnvC scope (own++clOf X.env scope.names []) hp3.objs.size X.env)) (R (.ref Dd) hp3.objs.size) { s with heap:=h₁,toks:=s.toks }:=by
  refine Yf4 (fun n s'=>∃i σ' H',Inv (Yaz X scope N (own++clOf X.env scope.names []) hp3.objs.size fp { s with heap:=hp3,toks:=s.toks } H3) [] σ' H' s'∧tn i s'.heap∧(∀b∈fp,H' b=none)∧W i n σ' H') ?_ m0 ⟨0,_,H3,I4,st4,fun b hb=>(f3 b hb).1,w0⟩
  rintro n s3 ⟨i,σ3,H3',I3',st3,fr3,w3⟩
  rcases turn i n σ3 H3' w3 with⟨stop,qn⟩ | ⟨go,step⟩
  ·refine thn (T.done (Yaz X scope N (own++clOf X.env scope.names []) hp3.objs.size fp { s with heap:=hp3,toks:=s.toks } H3) rfl rfl rfl hc i [] s3 σ3 H3' _ I3' (stat fr3) st3 stop) fun r s4 hx_=>?_
   obtain⟨hr,I5⟩:=hx_
   subst hr
   obtain⟨m,hm,_⟩:=I5.loc
   exact hR Dd hp3.objs.size s4 H3' m (Yyp I3 f3 I5) hm I5.free hCl (Nat.le_trans I3.sz (qt _)) hCc hCp qn
  ·refine thn (T.item (Yaz X scope N (own++clOf X.env scope.names []) hp3.objs.size fp { s with heap:=hp3,toks:=s.toks } H3) rfl rfl rfl hc i [] s3 σ3 H3' _ I3' (stat fr3) st3 go) fun r s4 hx_=>?_
   obtain⟨u,hr,h4⟩:=hx_
   subst hr
   refine thn h4 fun _ s5 hx_=>?_
   obtain⟨x,H5,I5,r5,y5,st5,fr5⟩:=hx_
   have I5':=I5.pinned (stat fr5) (T.obj _ _ st5)
   have un:∀{α:Type} {t:Sem α} {Q':α→Shared→Prop} {E':Value→Shared→Prop} {s':Shared},wpAny (model X.prog X.w) X.A t Q' (fun _ _=>False) s'→wpAny (model X.prog X.w) X.A t Q' E' s':=fun h=>wpAny_mono h (fun _ _ q=>q) fun _ _ f=>f.elim
   refine un (thn (hg _ _ _ _ _ _ s5 σ3 H5 x u _ I5' r5 (step x H5 y5)) fun _ s6 hx_=>?_)
   obtain⟨σ6,H6,I6,q6⟩:=hx_
   refine un (thn (hi _ _ _ _ _ _ s6 σ6 H6 _ I6 q6) fun ok s7 hx_=>?_)
   obtain⟨H7,I7,q7⟩:=hx_
   have again:∀{H8:Hp} {s8:Shared} {m':Nat},m' < n→Inv (Yaz X scope N (own++clOf X.env scope.names []) hp3.objs.size fp { s with heap:=hp3,toks:=s.toks } H3) ([]++Yom fp s5.heap) σ6 H8 s8→W (i+1) m' σ6 H8→
    ∃m,m < n∧∃i σ' H',Inv (Yaz X scope N (own++clOf X.env scope.names []) hp3.objs.size fp { s with heap:=hp3,toks:=s.toks } H3) [] σ' H' s8∧tn i s8.heap∧(∀b∈fp,H' b=none)∧W i m σ' H':=fun {H8 s8 m'} hm I8 w8=>by
    refine⟨m',hm,i+1,σ6,H8,I8.unpinned,T.keep _ _ _ st5 fun b hb o e=>(I8.pin (b,o) (Qj _ (Qj _ (Yfw hb e)))).1,fun b hb=>?_,w8⟩
    obtain⟨o,e,d⟩:=T.obj _ _ st5 b hb
    exact(I8.pin (b,o) (Qj _ (Qj _ (Yfw hb e)))).2.1
   cases ok with
   | false=>
     rw[if_neg qh]at q7 ⊢
     obtain⟨m',hm,w7⟩:=q7
     exact again hm I7 w7
   | true=>
     rw[if_pos rfl]at q7 ⊢
     refine un (thn (he _ _ _ _ _ _ s7 σ6 H7 _ I7 q7) fun y s8 hx_=>?_)
     obtain⟨v,H8,I8,r8,q8⟩:=hx_
     obtain⟨xs,e8,z8,m',hm,w8⟩:=q8
     refine un (thn (Yov _ s8 σ6 H8 (.ref Dd) [v] (.ref Dd) [y] (fun _ H9=>H9=upd H8 Dd (.lst (xs++[v]))) I8 rfl (.cons r8 .nil) ⟨Dd,xs,v,rfl,rfl,e8,z8,rfl⟩) fun _ s9 hx_=>?_)
     obtain⟨_,H9,I9,_,q9⟩:=hx_
     subst q9
     exact again hm I9 w8
 exact codeAny_compStart_list loop (T.self _ _ _ _ _ st4 loop)
theorem y14(S:CompSc X.N X.env.scope N src scope)(hc:X.calm=true)(hit:PI X tg iter wi)(hg:∀cl C fp s H,PG (Yaz X scope N cl C fp s H) tg g)(hi:∀cl C fp s H,PIfs (Yaz X scope N cl C fp s H) ifs ti)(he:∀cl C fp s H,PE (Yaz X scope N cl C fp s H) elt te)
 (hs:∀x,foldedSetIterable iter X.env x=pure x:=by intro _;rfl):PE X (.ListComp elt [⟨tg,iter,ifs,0⟩] scope pos) (tLC wi src g ti te):=by
 intro pins s σ H Q I h
 rw[eval_ListComp]
 have hcl:closureFor scope X.env=pure (clOf X.env scope.names []):=Yfd fun y hy hf=>I.ok.has y.1 (S.fr y hy hf)
 refine wpAny_comprehension_free (use:=none) rfl hs hcl S.kind S.names ?_
 refine thn (hit pins s σ H _ I h) fun v s1 h1=>thn h1 fun itv s2 hx_=>?_
 obtain⟨it,fp,tn,J,H2,e,I2,T,st2,f2,q⟩:=hx_
 subst e
 refine Yow (Q:=Q) (R:=fun acc C=>compPost (model X.prog X.w) X.A X.xe none (EP X pins σ Q) acc C) S hc hg hi he I2 T st2 f2 q fun D C s' H' m I' hm hC hCl hCs hCc hCp hq=>?_
 refine⟨m,hm,fun h' sb=>?_⟩
 exact⟨.ref D,H',I'.turned (t':=s'.toks) (fun b o hb e=>(sb.2 b hb).trans e) hC hCl (.inr hCs) hCc hCp,rfl,hq⟩
theorem y15{i:Nat}{y:Str}{py spos:Pos}(S:CompSc X.N X.env.scope N src scope)(hc:X.calm=true)(hit:PI X tg iter wi)(hg:∀cl C fp s H,PG (Yaz X scope N cl C fp s H) tg g)(hi:∀cl C fp s H,PIfs (Yaz X scope N cl C fp s H) ifs ti)(he:∀cl C fp s H,PE (Yaz X scope N cl C fp s H) elt te)
 (hN:X.N.Nodup) (hy:X.N[i]?=some y) (hx:Loc X.env.scope y) (hsw:swapsWith (.ListComp elt [⟨tg,iter,ifs,0⟩] scope pos) (some (.Name y py)) spos.line X.env=pure true)
 (hf:X.fn y=true∨X.env.scope.names.lookup y=some .local:=by first | exact .inl rfl | exact .inr rfl | assumption)
 (hs:∀x,foldedSetIterable iter X.env x=pure x:=by intro _;rfl):PS X (.Assign [.Name y py] (.ListComp elt [⟨tg,iter,ifs,0⟩] scope pos) spos) (tAsg (tLC wi src g ti te) (Yts i)):=by
 intro pins s σ H D I h
 rw[exec_Assign_Name_used _ _ _ _ hsw]
 refine wpAny_bind (wpAny_standAt (wpAny_bind ?_))
 show wpAny _ X.A (do let _ ←comprehension (.ListComp elt [⟨tg,iter,ifs,0⟩] scope pos) scope X.env _ (newList []) false (eval iter X.env) (some (assign (.Name y py) X.env))) _ _ s
 have hcl:closureFor scope X.env=pure (clOf X.env scope.names []):=Yfd fun y hy hf=>I.ok.has y.1 (S.fr y hy hf)
 refine wpAny_bind (wpAny_mono (wpAny_comprehension_free (use:=some (assign (.Name y py) X.env)) (Q:=fun _ s'=>SP X pins D .next s') rfl hs hcl S.kind S.names ?_) (fun _ s' hq=>wpAny_pure (wpAny_pure hq)) fun _ _ e=>e)
 refine thn (hit pins s σ H _ I h) fun v s1 h1=>thn h1 fun itv s2 hx_=>?_
 obtain⟨it,fp,tn,J,H2,e,I2,T,st2,f2,q⟩:=hx_
 subst e
 refine Yow (Q:=fun x H1=>Yts i x σ H1 D.nx) (R:=fun acc C=>compPost (model X.prog X.w) X.A X.xe (some (assign (.Name y py) X.env)) (fun _ s'=>SP X pins D .next s') acc C) S hc hg hi he I2 T st2 f2 q fun Dd C s' H' m I' hm hC hCl hCs hCc hCp hq=>?_
 show wpAny _ X.A (assign (.Name y py) X.env (.ref Dd)) _ _ s'
 refine wpAny_assign_Name (Yok I' hN hy hx (v:=.ref Dd) rfl (fun s'' I'' hsb=>?_) hf)
 obtain⟨a,sb,ha⟩:=hsb
 have hCa:C≠a:=by
  rcases ha with e | e
  ·rw[e];exact hCl
  ·exact Ne.symm (hCc y a e)
 refine⟨m,hm.sameBut sb hCa,fun h' sb'=>?_⟩
 exact⟨_,H',I''.turned (t':=s''.toks) (fun b o hb e=>(sb'.2 b hb).trans e) hC hCl (.inr hCs) hCc hCp,hq⟩
end
end L2
namespace M
open PySem PySem.Spec PyProof.Rows L2
section
section
def Rise(xs:Array Nat):Prop:=xs.toList.Pairwise (· < ·)
theorem Ym0{xs:Array Nat}(hr:Rise xs)(j:Nat):∀(fuel lo hi:Nat),lo≤hi→hi≤xs.size→hi - lo≤fuel→
 (∀(i:Nat) (h:i < xs.size),i < lo→xs[i] < j)→(∀(i:Nat) (h:i < xs.size),hi≤i→j≤xs[i])→
 SetTable.below.go xs j fuel lo hi≤xs.size∧(∀(i:Nat) (h:i < xs.size),i < SetTable.below.go xs j fuel lo hi→xs[i] < j)∧(∀(i:Nat) (h:i < xs.size),SetTable.below.go xs j fuel lo hi≤i→j≤xs[i])
 | 0,lo,hi,h1,h2,h3,h4,h5=>by
   have e:lo=hi:=by lia
   subst e
   rw[SetTable.below.go]
   exact⟨h2,h4,h5⟩
 | fuel+1,lo,hi,h1,h2,h3,h4,h5=>by
   have mono:∀(i k:Nat) (hi:i < xs.size) (hk:k < xs.size),i < k→xs[i] < xs[k]:=fun i k hi hk h=>by
    have:=List.pairwise_iff_getElem.mp hr i k (by simpa using hi) (by simpa using hk) h
    simpa using this
   rw[SetTable.below.go]
   by_cases hl:lo < hi
   ·rw[if_pos hl]
    have hm:(lo+hi) / 2 < xs.size:=by lia
    have hg:xs.getD ((lo+hi) / 2) j=xs[(lo+hi) / 2]:=by simp[Array.getD,hm]
    dsimp only
    rw[hg]
    by_cases hlt:xs[(lo+hi) / 2] < j
    ·rw[if_pos hlt]
     refine Ym0 hr j fuel _ _ (by lia) h2 (by lia) (fun i hi' hh=>?_) h5
     by_cases e:i=(lo+hi) / 2
     ·subst e;exact hlt
     ·exact Nat.lt_trans (mono i _ hi' hm (by lia)) hlt
    ·rw[if_neg hlt]
     refine Ym0 hr j fuel _ _ (by lia) (by lia) (by lia) h4 (fun i hi' hh=>?_)
     by_cases e:i=(lo+hi) / 2
     ·subst e;lia
     ·have:=mono _ i hm hi' (by lia)
      lia
   ·rw[if_neg hl]
    have e:lo=hi:=by lia
    subst e
    exact⟨h2,h4,h5⟩
theorem Yf0{xs:Array Nat}(hr:Rise xs)(j:Nat):SetTable.below xs j≤xs.size∧(∀a∈xs.toList.take (SetTable.below xs j),a < j)∧(∀a∈xs.toList.drop (SetTable.below xs j),j≤a):=by
 obtain⟨h1,h2,h3⟩:=Ym0 hr j xs.size 0 xs.size (Qe _) (qt _) (by lia) (fun i _ h=>absurd h (Nat.not_lt_zero _)) (fun i h h'=>absurd h (by lia))
 have e:SetTable.below xs j=SetTable.below.go xs j xs.size 0 xs.size:=rfl
 rw[e]
 refine⟨h1,fun a ha=>?_,fun a ha=>?_⟩
 ·obtain⟨i,hi,rfl⟩:=List.mem_iff_getElem.mp ha
  rw[List.length_take]at hi
  have hi':i < xs.size:=by have:xs.toList.length=xs.size:=by simp
                           lia
  rw[List.getElem_take,Array.getElem_toList]
  exact h2 i hi' (by lia)
 ·obtain⟨i,hi,rfl⟩:=List.mem_iff_getElem.mp ha
  rw[List.length_drop]at hi
  have hs:xs.toList.length=xs.size:=by simp
  rw[List.getElem_drop,Array.getElem_toList]
  exact h3 _ (by lia) (by lia)
theorem Yae{α:Type}(xs:Array α)(p:Nat)(x:α):(SetTable.insertAt xs p x).toList=xs.toList.take p++x::xs.toList.drop p:=by
 unfold SetTable.insertAt
 simp[Array.toList_extract,List.extract_eq_drop_take]
 exact List.take_of_length_le (by simp)
theorem Yge{xs:Array Nat}(hr:Rise xs)(j:Nat)(hn:xs[SetTable.below xs j]?≠some j):Rise (SetTable.insertAt xs (SetTable.below xs j) j):=by
 obtain⟨h1,h2,h3⟩:=Yf0 hr j
 unfold Rise at hr ⊢
 rw[Yae]
 generalize hp:SetTable.below xs j=p at h1 h2 h3 hn ⊢
 rw[←Array.getElem?_toList]at hn
 generalize xs.toList=l at hr h2 h3 hn ⊢
 have hr2:=hr
 rw[←Qk p l,List.pairwise_append]at hr
 obtain⟨r1,r2,r3⟩:=hr
 have hgt:∀a∈l.drop p,j < a:=by
  cases hd:l.drop p with
  | nil=>intro a ha;cases ha
  | cons b r=>
    rw[hd]at r2 h3
    have hb:l[p]?=some b:=by
     have:(l.drop p)[0]?=some b:=by rw[hd];rfl
     rwa [List.getElem?_drop,Nat.add_zero]at this
    have hjb:j < b:=Nat.lt_of_le_of_ne (h3 b qg) (fun z=>hn (by rw[hb,z]))
    intro a ha
    rcases qr ha with rfl | ha
    ·exact hjb
    ·exact Nat.lt_trans hjb ((List.pairwise_cons.mp r2).1 a ha)
 rw[List.pairwise_append]
 refine⟨r1,List.pairwise_cons.mpr ⟨hgt,r2⟩,fun a ha b hb=>?_⟩
 rcases qr hb with rfl | hb
 ·exact h2 a ha
 ·exact Nat.lt_trans (h2 a ha) (hgt b hb)
theorem Yj6{t:SetTable}{j:Nat}(h:∀i,t.slot j≠.live i):t.place[SetTable.below t.place j]?≠some j:=fun z=>by
 refine h (SetTable.below t.place j) ?_
 unfold SetTable.slot
 dsimp only
 rw[z]
 simp
theorem Yh2{t:SetTable}{ha:Nat→Int}{h:Int}:∀(fuel:Nat) (p:SetTable.Probe) {j:Nat} {d:Option Nat},(∀x,p.dummy=some x→∀i,t.slot x≠.live i)→
 SetTable.probe.go t ha h fuel p=some (.empty j d)→∀i,t.slot (d.getD j)≠.live i
 | 0,p,j,d,_,e=>by rw[SetTable.probe.go]at e;cases e
 | fuel+1,p,j,d,hd,e=>by
   rw[SetTable.probe.go]at e
   split at e
   ·rename_i hs
    cases e
    intro i
    cases hp:p.dummy with
    | none=>rw[Option.getD_none,hs];exact fun z=>nomatch z
    | some x=>exact hd x hp i
   ·rename_i hs
    refine Yh2 fuel _ (fun x hx i=>?_) e
    have hx':x=p.j:=by
     unfold SetTable.advance at hx
     split at hx
     ·exact(Option.some.inj hx).symm
     ·exact(Option.some.inj hx).symm
    rw[hx',hs]
    exact fun z=>nomatch z
   ·split at e
    ·cases e
    ·refine Yh2 fuel _ (fun x hx i=>hd x ?_ i) e
     unfold SetTable.advance at hx
     split at hx
     ·exact hx
     ·exact hx
def Tab(bt:Bool)(t:SetTable):Prop:=(bt=false→t.led=true)∧(t.plain=true→Rise t.place)
theorem Tab.standIn{bt:Bool}{t:SetTable}(h:Tab bt t)(n:Nat):Tab bt (t.standIn n):=⟨h.1,fun z=>nomatch z⟩
theorem Tab.off{bt:Bool}{t:SetTable}(h:Tab bt t):Tab bt { t with plain:=false }:=⟨h.1,fun z=>nomatch z⟩
theorem Tab.fresh{bt:Bool}:Tab bt (.fresh 0 0 (!bt)):=⟨fun h=>by subst h;rfl,fun _=>.nil⟩
theorem Tab.layNew{bt:Bool}{t:SetTable}(h:Tab bt t)(es:Array (Int × Value))(hh:Int)(x:Value):Tab bt (PySem.layNew t es hh x).2.1:=by
 unfold PySem.layNew
 split
 ·rename_i slot wd hf
  dsimp only
  unfold SetTable.orStandIn
  split
  ·refine⟨h.1,fun z=>?_⟩
   refine Yge (h.2 z) slot (Yj6 ?_)
   unfold SetTable.freeSlot at hf
   split at hf
   ·rename_i j dummy hp
    cases hf
    exact Yh2 _ _ (fun x hx=>by simp[SetTable.probeStart]at hx) hp
   ·cases hf
  ·exact⟨h.1,fun z=>nomatch z⟩
 ·exact h.standIn _
theorem Yox{mask finger moves:Nat}{led plain:Bool}{hs:Array Int}{t:SetTable}{o:Array Nat}(h:SetTable.laid mask finger moves led plain hs=some (t,o)):Rise t.place∧t.led=led∧t.plain=plain:=by
 unfold SetTable.laid at h
 obtain⟨owner,_,h⟩:=qa h
 cases h
 refine⟨?_,rfl,rfl⟩
 unfold Rise
 show(((List.range (mask+1)).filterMap fun j=>(owner.getD j none).map (j,·)).map (·.1)).Pairwise (· < ·)
 rw[List.map_filterMap]
 refine List.Pairwise.filterMap _ (fun a b hab x hx y hy=>?_) List.pairwise_lt_range
 simp at hx hy
 obtain⟨_,_,rfl⟩:=hx
 obtain⟨_,_,rfl⟩:=hy
 exact hab
theorem Tab.relayAll{bt:Bool}{t:SetTable}(h:Tab bt t)(es:Array (Int × Value))(n:Nat):Tab bt (PySem.relayAll t es n).2.1:=by
 unfold PySem.relayAll
 split
 ·rename_i t' order hr
  obtain⟨h1,h2,h3⟩:=Yox hr
  dsimp only
  split
  ·exact⟨fun z=>by rw[h2];exact h.1 z,fun _=>h1⟩
  ·exact h.standIn _
 ·exact h.standIn _
end
end
section
section
variable {prog:Program} {w:World} {A:Around} {E:Value→Shared→Prop} {s:Shared}
noncomputable def kOf(e:Int × Value):Int:=match e.2 with
 | .int n _=>n
 | _=>0
noncomputable abbrev byT(w:World):Bool:=w.params.followText "set-order"
def SetI(prog:Program)(w:World)(h:Heap)(a:Addr)(ns:List Int):Prop:=
 ∃o es ep t,h.get? a=some o∧o.ExactSet∧o.data=.set es ep t∧ElemsOf (intKind prog w) es.toList∧es.toList.map kOf=ns∧ns.Nodup∧es.size < scanBound∧t.fits es.size=true∧Tab (byT w) t
theorem y0g{k:Int}{e:Int × Value}(h:(intKind prog w).is k e.2=true):kOf e=k:=by
 obtain⟨t,ht⟩:=Value.isInt_shape h
 unfold kOf
 rw[ht]
theorem Yyq{es:List (Int × Value)}(h:ElemsOf (intKind prog w) es){e:Int × Value}(he:e∈es):∃t,e=(hashInt (kOf e),.int (kOf e) t):=by
 obtain⟨⟨k,hk,hh⟩,_⟩:=h e he
 have hk':=y0g hk
 obtain⟨t,ht⟩:=Value.isInt_shape hk
 refine⟨t,?_⟩
 rw[hk']
 exact Prod.ext hh ht
theorem SetI.at{h h':Heap}{a:Addr}{ns:List Int}(x:SetI prog w h a ns)(e:∀o,h.get? a=some o→h'.get? a=some o):SetI prog w h' a ns:=
 let ⟨o,es,ep,t,ho,r⟩:=x
 ⟨o,es,ep,t,e o ho,r⟩
theorem Yj7{h:Heap}{a:Addr}{o:Obj}{es:Array (Int × Value)}{ep:Nat}{t:SetTable}(ho:h.get? a=some o)(hd:o.data=.set es ep t)(es':Array (Int × Value))(t':SetTable) :
 (h.update a (Obj.putSet es' t')).get? a=some { o with data:=.set es' (ep+1) t' }:=by
 have:=Heap.get?_update_self (Obj.putSet es' t') ho (by rw[putSet_of es' t' hd];rfl)
 rw[putSet_of es' t' hd]at this
 exact this
theorem Yst{g:Bool→Sem Unit}(hg:∀(b:Bool) (s₁:Shared) (Q':Unit→Shared→Prop),Q' () s₁→wpAny (model prog w) A (g b) Q' E s₁)
 {a:Addr} {o:Obj} {es:Array (Int × Value)} {ep:Nat} {t:SetTable} (ho:s.heap.get? a=some o) (hex:o.ExactSet) (hd:o.data=.set es ep t)
 {es1:Array (Int × Value)} {t2:SetTable} {ms:List Int} (hel1:ElemsOf (intKind prog w) es1.toList) (hms:(es1.toList.map kOf).Perm ms) (hnd:ms.Nodup)
 (hb1:es1.size < scanBound) (hf2:t2.fits es1.size=true) (ht2:Tab (byT w) t2) {wasDummy:Bool} {R:Option Bool→Shared→Prop}
 (h:∀h' ns',Heap.SameBut a s.heap h'→SetI prog w h' a ns'→ns'.Perm ms→R (some true) { s with heap:=h' }) :
 wpAny (model prog w) A (do
  storeSet a es1 t2
  if (!wasDummy&&t2.tooFull)=true then do
      g (relayAll t2 es1 (SetTable.grown es1.size)).2.2
      storeSet a (relayAll t2 es1 (SetTable.grown es1.size)).1 (relayAll t2 es1 (SetTable.grown es1.size)).2.1
      pure (some true)
   else pure (some true)) R E s:=by
 refine wpAny_bind (wpAny_storeSet_of ho hd ?_ (fits_of_scanBound hb1))
 have ho1:=Yj7 ho hd es1 t2
 have hsb1:=Heap.SameBut.update s.heap a (Obj.putSet es1 t2)
 split
 ·have hp:=relayAll_perm t2 es1 (SetTable.grown es1.size)
  have hfr:=relayAll_fits t2 es1 (SetTable.grown es1.size)
  have htr:=ht2.relayAll es1 (SetTable.grown es1.size)
  generalize hRl:relayAll t2 es1 (SetTable.grown es1.size)=Rl at hp hfr htr ⊢
  obtain⟨es2,t3,gave2⟩:=Rl
  dsimp only at hp hfr htr ⊢
  have hel2:ElemsOf (intKind prog w) es2.toList:=hel1.perm hp
  have hsz:es2.size=es1.size:=by rw[←qi,hp.length_eq,qi]
  have hb2:es2.size < scanBound:=by rw[hsz];exact hb1
  have hp2:=(hp.map kOf).trans hms
  refine wpAny_bind (hg _ _ _ ?_)
  refine wpAny_bind (wpAny_storeSet_of ho1 rfl ?_ (fits_of_scanBound hb2))
  have ho2:=Yj7 ho1 rfl es2 t3
  exact wpAny_pure (h _ _ (hsb1.trans (Heap.SameBut.update _ a _)) ⟨_,es2,_,t3,ho2,hex,rfl,hel2,rfl,hp2.nodup_iff.mpr hnd,hb2,hfr,htr⟩ hp2)
 ·exact wpAny_pure (h _ _ hsb1 ⟨_,es1,_,t2,ho1,hex,rfl,hel1,rfl,hms.nodup_iff.mpr hnd,hb1,hf2,ht2⟩ hms)
theorem y16{a:Addr}{ns:List Int}{k:Int}{u:Tok}{Q:Bool→Shared→Prop}(hS:SetI prog w s.heap a ns)(hroom:ns.length+1 < scanBound)
 (h:∀h' ns',Heap.SameBut a s.heap h'→SetI prog w h' a ns'→ns'.Perm (if k∈ns then ns else ns++[k])→Q (!decide (k∈ns)) { s with heap:=h' }) :
 wpAny (model prog w) A (setAddHashed a (.int k u) (hashInt k)) Q E s:=by
 have hS0:=hS
 obtain⟨o,es,ep,t,ho,hex,hd,hel,hns,hnd,hb,hf,ht⟩:=hS
 have hkey:(intKind prog w).is k (.int k u)=true:=intKind_is _ _ _ _
 have hsc:(Value.int k u).scannable=true:=rfl
 have hsz:es.size=ns.length:=by rw[←hns,qe,qi]
 unfold setAddHashed setAddHashedIn
 refine wpAny_holding (wpAny_bind (wpAny_setState_of ho hd hf ?_))
 dsimp only
 rw[byScan_of hsc hb hel]
 simp only[↓reduceIte]
 unfold setAddByScan
 refine wpAny_bind ?_
 refine wpAny_bind (wpAny_rule ?_)
 refine wpAny_bind (wpAny_setScan_of (knd:=intKind prog w) (k:=k) hkey ho hd hf hel ?_)
 cases hr:List.findIdx? (fun e=>(intKind prog w).is k e.2) es.toList with
 | some j=>
   dsimp only
   obtain⟨hj,hpj,_⟩:=List.findIdx?_eq_some_iff_getElem.mp hr
   have hk:k∈ns:=by
    rw[←hns,←y0g hpj]
    exact List.mem_map_of_mem (qx hj)
   refine wpAny_pure (wpAny_pure ?_)
   have e:s={ s with heap:=s.heap }:=by cases s;rfl
   have:=h s.heap ns (Heap.SameBut.refl a s.heap) hS0 (by rw[if_pos hk])
   rw[decide_eq_true hk]at this
   rw[e];exact this
 | none=>
   dsimp only
   have hk:k∉ns:=fun hk=>by
    rw[←hns]at hk
    obtain⟨e,he,hke⟩:=qw hk
    have h1:=List.findIdx?_eq_none_iff.mp hr e he
    obtain⟨t',ht'⟩:=Yyq hel he
    rw[ht',hke]at h1
    have h2:(intKind prog w).is k (.int k t')=true:=intKind_is _ _ _ _
    rw[h2]at h1
    exact Bool.noConfusion h1
   have hgw:∀(b:Bool) {s₁:Shared} {Q':Unit→Shared→Prop},Q' () s₁→wpAny (model prog w) A (match b with | true=>rule "set.scan.the-table-gave-way" | false=>pure ()) Q' E s₁:=
    fun b s₁ Q' hq=>by cases b<;>first | exact wpAny_pure hq | exact wpAny_rule hq
   have hperm:=layNew_perm t es (hashInt k) (.int k u)
   have hfits:=layNew_fits t es (hashInt k) (.int k u)
   have htab:=ht.layNew es (hashInt k) (.int k u)
   show wpAny (model prog w) A (do
    let (es,t,wasDummy,gave):=PySem.layNew t es (hashInt k) (.int k u)
    _) _ _ _
   generalize hL:layNew t es (hashInt k) (.int k u)=L at hperm hfits htab ⊢
   obtain⟨es1,t1,wasDummy,gave⟩:=L
   dsimp only at hperm hfits htab ⊢
   rw[Array.toList_push]at hperm
   have hel1:ElemsOf (intKind prog w) es1.toList:=(hel.push (knd:=intKind prog w) (k:=k) hkey hsc).perm hperm
   have hb1':es1.size < scanBound:=by rw[←qi,hperm.length_eq,qy,qi];simp;lia
   have hms:(es1.toList.map kOf).Perm (ns++[k]):=by
    have:=hperm.map kOf
    rw[List.map_append,hns]at this
    exact this
   have hnd1:(ns++[k]).Nodup:=by
    rw[List.nodup_append]
    refine⟨hnd,by simp,fun x hx y hy z=>?_⟩
    simp at hy
    subst hy
    exact hk (z ▸ hx)
   have hend:∀h' ns',Heap.SameBut a s.heap h'→SetI prog w h' a ns'→ns'.Perm (ns++[k])→Q true { s with heap:=h' }:=by
    intro h' ns' hsb hS' hp
    have:=h h' ns' hsb hS' (by rw[if_neg hk];exact hp)
    rw[decide_eq_false hk]at this
    exact this
   refine wpAny_bind (hgw _ ?_)
   split
   ·refine wpAny_bind ?_
    rw[hashByValue_scannable 8 hsc]
    refine wpAny_pure ?_
    refine Yst ?_ ho hex hd hel1 hms hnd1 hb1' ?_ ?_ ?_
    ·intro b s₁ Q' hq;cases b<;>first | exact wpAny_pure hq | exact wpAny_rule hq
    ·split
     ·exact hfits
     ·exact SetTable.fits_plain_off hfits
    ·split
     ·exact htab
     ·exact htab.off
    ·intro h' ns' hsb hS' hp;dsimp only;exact wpAny_pure (hend h' ns' hsb hS' hp)
   ·refine wpAny_bind (wpAny_pure ?_)
    simp only[↓reduceIte]
    refine Yst ?_ ho hex hd hel1 hms hnd1 hb1' hfits htab ?_
    ·intro b s₁ Q' hq;cases b<;>first | exact wpAny_pure hq | exact wpAny_rule hq
    ·intro h' ns' hsb hS' hp;dsimp only;exact wpAny_pure (hend h' ns' hsb hS' hp)
end
noncomputable def ddup:List Int→List Int→List Int
 | acc,[]=>acc
 | acc,k::r=>ddup (if k∈acc then acc else acc++[k]) r
theorem Yoy:∀(r a b:List Int),a.Perm b→(ddup a r).Perm (ddup b r)
 | [],_,_,h=>h
 | k::r,a,b,h=>by
   rw[ddup,ddup]
   refine Yoy r _ _ ?_
   by_cases hk:k∈a
   ·rw[if_pos hk,if_pos (h.mem_iff.mp hk)];exact h
   ·rw[if_neg hk,if_neg (fun z=>hk (h.mem_iff.mpr z))];exact h.append_right _
section
variable {prog:Program} {w:World} {A:Around} {R:Result→Shared→Prop} {I:Addr} {fp wr:List Addr} {G:Array GenState→Array GenState→Prop} {n:Nat} {P:Nat→Value→Prop} {St:Nat→Shared→Prop}
theorem Yyr(W:WalksS prog w A.in1 I fp wr G n P St)(S:Addr)(hSf:S∉fp)(ms:List Int)(hn:ms.length=n)
 (hval:∀i v,P i v→∃t,v=.int (ms.getD i 0) t) (hb:n+1 < scanBound) :
 ∀(k i:Nat) (s:Shared) (ns:List Int),n - i=k→i≤n→St i s→ns.length≤i→SetI prog w s.heap S ns→
  (∀s' ns',Moved (S::wr) G s s'→SetI prog w s'.heap S ns'→ns'.Perm (ddup ns (ms.drop i))→R (.ok (.ret .none)) s')→
  codeAny (model prog w) A (.builtin "set.update.loop" ⟨[.ref S,.ref I],[]⟩) R s:=by
 have hSw:S∉wr:=fun h=>hSf (W.sub _ h)
 have hsub:∀b∈wr,b∈S::wr:=fun b hb=>qf _ hb
 intro k
 induction k with
 | zero=>
   intro i s ns hk hi hst hl hS hR
   have hin:i=n:=by lia
   subst hin
   refine codeAny_builtin F.entry_set_update_loop ?_
   rw[Around.under_plainId F.plain_set_update_loop _]
   show wpAny _ A.in1 (pyNext (.ref I) >>= _) _ _ s
   refine wpAny_bind (W.done s _ _ hst fun s' hm=>?_)
   show wpAny _ A.in1 (ret Value.none) _ _ s'
   refine wpAny_pure (hR s' ns (hm.mono hsub) (hS.at fun o e=>hm.heap S _ hSw e) ?_)
   rw[List.drop_of_length_le (by lia),ddup]
 | succ k ih=>
   intro i s ns hk hi hst hl hS hR
   have hlt:i < n:=by lia
   refine codeAny_builtin F.entry_set_update_loop ?_
   rw[Around.under_plainId F.plain_set_update_loop _]
   show wpAny _ A.in1 (pyNext (.ref I) >>= _) _ _ s
   refine wpAny_bind (W.item i s _ _ hlt hst fun v s' hP hst' hm=>?_)
   obtain⟨t,rfl⟩:=hval i v hP
   have hS':SetI prog w s'.heap S ns:=hS.at fun o e=>hm.heap S _ hSw e
   generalize hx:ms.getD i 0=x
   have hdrop:ms.drop i=x::ms.drop (i+1):=by
    rw[List.drop_eq_getElem_cons (by lia),←hx,List.getD_eq_getElem?_getD,qp (by lia)]
    rfl
   show wpAny _ A.in1 (holding [Value.int x t] (setAdd S (.int x t)) >>= _) _ _ s'
   refine wpAny_bind (wpAny_holding ?_)
   unfold setAdd
   refine wpAny_holding ?_
   refine wpAny_bind ((intKind prog w).pyHash (k:=x) (intKind_is _ _ _ _) ?_)
   refine y16 (s:={ s' with toks:=s'.toks+1 }) hS' (by lia) fun h' ns' hsb hS2 hp=>?_
   have hl2:ns'.length≤i+1:=by
    rw[hp.length_eq]
    split
    ·lia
    ·simp;lia
   refine wpAny_pure ⟨plainId_quiet F.plain_set_update_loop _,ih (i+1) _ ns' (by lia) hlt (W.frame _ s' _ _ hst' (Nat.le_succ _) fun b hb o e=>?_) hl2 hS2 fun s'' ns'' hm'' hS'' hp''=>?_⟩
   ·rw[hsb.2 b (fun h:b=S=>hSf (by rw[←h];exact hb))];exact e
   ·refine hR s'' ns'' (Moved.trans W.gtrans ((hm.mono hsub).then_heap (Nat.le_succ _) fun b o hb e=>?_) hm'') hS'' ?_
    ·rw[hsb.2 b (fun h:b=S=>hb (by rw[h];exact qg))];exact e
    ·rw[hdrop,ddup]
     exact hp''.trans (Yoy _ _ _ hp)
end
end
section
section
variable {prog:Program} {w:World} {A:Around} {E:Value→Shared→Prop} {s:Shared}
theorem Ym1:isSubtype (.type "tuple") (.type "set")=pure false:=by rw[isSubtype_type];kernel_rfl
theorem Ygf:isSubtype (.type "tuple") (.type "frozenset")=pure false:=by rw[isSubtype_type];kernel_rfl
theorem Ybz{T newId initId:String}{Bi:Builtin}{args:List Value}{Q Q₁:Value→Shared→Prop}(ft:TypeCalled T newId initId)
 (hct:checkTypeCall T ⟨args,[]⟩=pure ()) (entryI:entryFor table initId=some Bi)
 (hnew:codeAny (model prog w) A.in1 (.call (.builtin newId) ⟨.type T::args,[]⟩) (wants Q₁ E) s)
 (hnext:∀obj s₁,Q₁ obj s₁→s₁.TypeIs obj T∧(∀(A':Around) (E':Value→Shared→Prop) (Q':Unit→Shared→Prop),Q' () s₁→wpAny (model prog w) A' (checkBuiltinCall initId ⟨obj::args,[]⟩) Q' E' s₁)∧
  wpAny (model prog w) A.in1.in1 (Bi ⟨obj::args,[]⟩)
   (fun fin s'=>match fin with | .done f=>wants (fun r s₂=>r=.none∧Q obj s₂) E (.ok f) s' | .again c'=>c'.quiet=true∧codeAny (model prog w) A.in1 c' (wants (fun r s₂=>r=.none∧Q obj s₂) E) s')
   (fun e s'=>wants (fun r s₂=>r=.none∧Q obj s₂) E (.error e) s') s₁) :
 wpAny (model prog w) A (call (.type T) args) Q E s:=by
 obtain⟨c,tl,hmro⟩:=ft.mro
 have hmade:=ft.made
 have hsub:=ft.sub
 refine wpAny_call (codeAny_of_tree ?_)
 show wpAny _ _ (callAny (.type T) _) _ _ _
 refine wpAny_pure ⟨Code.quiet_builtin _ (by decide +kernel),codeAny_builtin F.entry_type_call ?_⟩
 rw[Around.under_plain (weight_type_call_type T args []) rfl]
 have h1:=ft.notType
 have h2:=ft.canCreate
 repeat (any_goals (first | assumption | wp_step))
 refine codeAny_mono hnew fun r s₁ hr=>?_
 cases r with
 | error e=>exact hr
 | ok fl=>
   cases fl with
   | ret obj=>
     obtain⟨hT,hok,hsi⟩:=hnext _ _ hr
     have hli:=ft.init.lookup
     have hbi:=ft.init.bind obj
     repeat (any_goals (first | assumption | wp_step))
     refine codeAny_mono (codeAny_call_builtin ft.init.plain entryI (hok _ _ _ hsi)) fun r₂ s₂ hr₂=>?_
     cases r₂ with
     | error e=>exact hr₂
     | ok fl₂=>
       cases fl₂ with
       | ret r=>
         obtain⟨rfl,hq⟩:=hr₂
         repeat (any_goals (first | assumption | wp_step))
       | _=>exact hr₂.elim
   | _=>exact hr.elim
noncomputable abbrev emS(w:World):Obj:={ cls:=.type "set",dict:=none,data:=.set #[] 0 (.fresh 0 0 (!byT w)) }
theorem Yg4(a:Value){Q₁:Value→Shared→Prop}(h:Q₁ (.ref s.heap.objs.size) { s with heap:=s.heap.push (emS w) }) :
 codeAny (model prog w) A (.call (.builtin "set.__new__") ⟨[.type "set",a],[]⟩) (wants Q₁ E) s:=by
 refine codeAny_of_tree ?_
 show wpAny _ A.in1 (do checkBuiltinCall "set.__new__" ⟨[.type "set",a],[]⟩;again (.builtin "set.__new__" ⟨[.type "set",a],[]⟩)) _ _ s
 refine wpAny_bind (wpAny_of_eq (F.newCall_set_1 a) (wpAny_pure ⟨plainId_quiet F.plain_set_new _,codeAny_builtin F.entry_set_new ?_⟩))
 rw[Around.under_plainId F.plain_set_new _]
 unfold Builtin.«set.__new__» Builtin.Frozenset.newClass
 have hsub:=sub_set_self
 obtain⟨hp,g,d,tk,os⟩:=s
 dsimp only
 wp_walk
 refine wpAny_askSetting (wpAny_pure ?_)
 dsimp only
 simp only[newObj]
 refine wpAny_bind (wpAny_alloc (wpAny_pure ?_))
 exact wpAny_pure h
set_option maxRecDepth 100000 in
theorem Ym2{l:Addr}{items:Array Value}{ms:List Int}{Q:Value→Shared→Prop}
 (hh:A.handled=none) (hl:s.heap.IsList l items) (hi:IntsAre items.toList ms) (hb:items.size+1 < scanBound)
 (h:∀(h':Heap) (tk:Nat) ns,SetI prog w h' s.heap.objs.size ns→ns.Perm (ddup [] ms)→
  (∀b o,b < s.heap.objs.size→s.heap.get? b=some o→h'.get? b=some o)→Q (.ref s.heap.objs.size) { s with heap:=h',toks:=tk }) :
 wpAny (model prog w) A (call (.type "set") [.ref l]) Q E s:=by
 refine Ybz (Q₁:=fun obj s₁=>obj=.ref s.heap.objs.size∧s₁={ s with heap:=s.heap.push (emS w) }) F.called_set (F.typeCall_set_1 _) F.entry_set_init (Yg4 _ ⟨rfl,rfl⟩) ?_
 rintro obj s₁ ⟨rfl,rfl⟩
 have hS:(s.heap.push (emS w)).get? s.heap.objs.size=some (emS w):=qo _ rfl
 have hT:Shared.TypeIs { s with heap:=s.heap.push (emS w) } (.ref s.heap.objs.size) "set":=⟨_,hS,rfl⟩
 refine⟨hT,fun A' E' Q' hq=>check_set_init_1 hT hq,?_⟩
 obtain⟨ol,hol,hcl,nl,hdl⟩:=hl
 obtain⟨ocls,odict,odata,oslots⟩:=ol
 simp only at hcl hdl
 subst hcl;subst hdl
 have hol':(s.heap.push (emS w)).get? l=some { cls:=.type "list",dict:=odict,data:=.seq items nl,slots:=oslots }:=qd _ hol
 have hsls:=F.sub_list_set
 have hslf:=F.sub_list_frozenset
 have hne:(Value.type "list"==Value.type "dict")=false:=by decide
 have hl1:(s.heap.push (emS w)).IsList l items:=⟨_,hol',rfl,nl,rfl⟩
 unfold Builtin.«set.__init__» noKeywords Builtin.Frozenset.updateFrom
 generalize hPI:pyIter=PI
 wp_walk
 subst hPI
 refine wpAny_pyIter_list hl1 ?_
 refine wpAny_bind (wpAny_runValue ?_)
 have hlS:l < s.heap.objs.size:=qk hol
 have hh3:A.in1.in1.in1.handled=none:=by simp[hh]
 have hneI:l≠(s.heap.push (emS w)).objs.size:=by
  rw[Heap.size_push];exact ql (qv hlS)
 have hSf:s.heap.objs.size∉[(s.heap.push (emS w)).objs.size,l]:=by
  rw[Heap.size_push];simp only[List.mem_cons,List.mem_singleton,List.not_mem_nil,or_false,not_or]
  exact⟨ql (qz _),Nat.ne_of_gt hlS⟩
 have hlen:ms.length=items.size:=by have:=IntsAre.length hi;rw[qi]at this;exact this.symm
 have hval:∀(i:Nat) (v:Value),items[i]?=some v→∃t,v=.int (ms.getD i 0) t:=fun i v hv=>
  IntsAre.int_at hi i v (by rw[Array.getElem?_toList];exact hv)
 refine Yyr ((Walks.list hh3 _ l hneI items).toS) s.heap.objs.size hSf ms hlen hval hb (items.size - 0) 0 _ [] (by lia) (Qe _)
  ⟨⟨_,qo _ rfl,rfl,rfl⟩,(hl1.push _)⟩ (qt _) ?hS0 ?hR
 case hS0=>
  have hget:((s.heap.push (emS w)).push { cls:=.type "list_iterator",data:=.fields #[.ref l,.int 0 0] }).get? s.heap.objs.size=some (emS w):=qd _ hS
  exact⟨emS w,#[],0,_,hget,⟨rfl,rfl,rfl⟩,rfl,fun e he=>by simp at he,rfl,.nil,by decide,rfl,.fresh⟩
 case hR=>
  intro s' ns' hm hS' hp'
  obtain⟨h',g',d',tk',os'⟩:=s'
  have eg:g'=s.gens:=hm.gens
  have ed:d'=s.drawn:=hm.drawn
  have eo:os'=s.os:=hm.os
  subst eg;subst ed;subst eo
  show wpAny _ _ _ _ _ _
  refine wpAny_pure ?_
  show wpAny _ _ (ret Value.none) _ _ _
  refine wpAny_pure ⟨rfl,h h' tk' ns' hS' hp' fun b o hb e=>?_⟩
  have hb1:b≠s.heap.objs.size:=ql hb
  have hb2:b≠(s.heap.push (emS w)).objs.size:=by
   rw[Heap.size_push];exact ql (qv hb)
  exact hm.heap b o (by simp only[List.mem_cons,List.mem_singleton,List.not_mem_nil,or_false,not_or];exact⟨hb1,hb2⟩) (qd _ (qd _ e))
end
end
section
theorem Ymk{α:Type}{l:List α}{i:Nat}(h:i < l.length):(l[i]::l.eraseIdx i).Perm l:=by
 rw[List.eraseIdx_eq_take_drop_succ]
 have e:l=l.take i++l[i]::l.drop (i+1):=by
  rw[←List.drop_eq_getElem_cons h,Qk]
 conv=>rhs;rw[e]
 exact List.perm_middle.symm
theorem Yvf{α:Type}(next:Nat→Nat):∀(fuel k:Nat) (left:List α) (out:Array α),left.length=fuel→(pickOrder.go next fuel k left out).toList.Perm (out.toList++left)
 | 0,k,left,out,h=>by
   rw[pickOrder.go]
   rw[List.length_eq_zero_iff.mp h,List.append_nil]
 | fuel+1,k,left,out,h=>by
   rw[pickOrder.go]
   have hlt:next k % left.length < left.length:=Nat.mod_lt _ (by lia)
   rw[qp hlt]
   dsimp only
   refine(Yvf next fuel (k+1) _ _ (by rw[List.length_eraseIdx_of_lt hlt];lia)).trans ?_
   rw[Array.toList_push,List.append_assoc]
   exact(Ymk hlt).append_left _
theorem Yvg{α:Type}(next:Nat→Nat)(xs:Array α):(pickOrder next xs).toList.Perm xs.toList:=by
 have:=Yvf next xs.size 0 xs.toList #[] (by simp)
 simpa [pickOrder]using this
section
variable {prog:Program} {w:World} {A:Around} {E:Value→Shared→Prop}
theorem Yty{src:Source}{n:Nat}{Q:Nat→Shared→Prop}{s:Shared}(hn:0 < n)(h:∀i d',i < n→Q i { s with drawn:=d' }):wpAny (model prog w) A (choose src n) Q E s:=by
 intro Γ p hΓ
 unfold choose
 rw[Sem.wp_choose]
 refine⟨by lia,?_⟩
 rw[Sem.wp_pure]
 exact h _ _ (Nat.mod_lt _ hn)
theorem Yml{α:Type}:∀(n:Nat) (xs:List α) (s:Shared) (Q:List α→Shared→Prop),xs.length=n→(∀ys d',ys.Perm xs→Q ys { s with drawn:=d' })→wpAny (model prog w) A (drawOrder n xs) Q E s
 | 0,xs,s,Q,h,hQ=>by
   rw[List.length_eq_zero_iff.mp h]at hQ ⊢
   show wpAny _ _ (pure _) _ _ _
   exact wpAny_pure (hQ [] s.drawn .nil)
 | n+1,[],s,Q,h,hQ=>by simp at h
 | n+1,x::xs,s,Q,h,hQ=>by
   show wpAny _ _ (_ >>= _) _ _ _
   refine wpAny_bind (Yty (by simp) fun i d' hi=>?_)
   rw[qp hi]
   dsimp only
   refine wpAny_bind (Yml n _ _ _ (by rw[List.length_eraseIdx_of_lt hi];lia) fun ys d2 hp=>?_)
   refine wpAny_pure (hQ _ d2 ((hp.cons _).trans ?_))
   exact Ymk hi
end
end
section
set_option maxRecDepth 100000
theorem Ysu:Manifest.owners.lookup (String.ofList ['r','o','t','a','r','e','t','i','_','t','e','s'].reverse)=some Manifest.sig_set_iterator:=by kernel_rfl
theorem slot_si_next:Slot "set_iterator" "__next__" "set_iterator.__next__":=
 .of (owner:="set_iterator") (n:="__next__") (by rw[typeLookup_type,builtinLookup_eq_fast];kernel_rfl) (by decide +kernel) (by decide +kernel) (by decide +kernel)
  (by first | exact .inl (by decide +kernel) | exact .inr (by decide +kernel)) (by rw[isSubtype_type];kernel_rfl)
theorem Ydc:entryFor table "set_iterator.__next__"=some Builtin.«set_iterator.__next__»:=entryFor_of_tree (by kernel_rfl)
theorem Yd4(a:Value):argsOk "set_iterator.__next__" ⟨[a],[]⟩:=by
 unfold argsOk;rw[signature?_of (id:="set_iterator.__next__") (n:=['_','_','t','x','e','n','_','_']) (o:=['r','o','t','a','r','e','t','i','_','t','e','s']) (by kernel_rfl) Ysu];kernel_rfl
theorem Yiz:Slot "set_iterator" "__iter__" "set_iterator.__iter__":=
 .of (owner:="set_iterator") (n:="__iter__") (by rw[typeLookup_type,builtinLookup_eq_fast];kernel_rfl) (by decide +kernel) (by decide +kernel) (by decide +kernel)
  (by first | exact .inl (by decide +kernel) | exact .inr (by decide +kernel)) (by rw[isSubtype_type];kernel_rfl)
theorem Yoz(a:Value):argsOk "set_iterator.__iter__" ⟨[a],[]⟩:=by
 unfold argsOk;rw[signature?_of (id:="set_iterator.__iter__") (n:=['_','_','r','e','t','i','_','_']) (o:=['r','o','t','a','r','e','t','i','_','t','e','s']) (by kernel_rfl) Ysu];kernel_rfl
theorem Ym3:entryFor table "set_iterator.__iter__"=some Builtin.«dict_keyiterator.__iter__»:=
 entryFor_alias (id':="dict_keyiterator.__iter__") (by kernel_rfl) (by first | rfl | decide +kernel | (unfold String.splitOn;simp +decide [String.splitOnAux])) (by decide +kernel) (by kernel_rfl)
theorem Ylp:entryFor table "set.__iter__"=some Builtin.«frozenset.__iter__»:=
 entryFor_alias (id':="frozenset.__iter__") (by kernel_rfl) (by first | rfl | decide +kernel | (unfold String.splitOn;simp +decide [String.splitOnAux])) (by decide +kernel) (by kernel_rfl)
def SIt(h:Heap)(I:Addr)(first:Value)(i:Nat)(a:Addr)(n ep:Nat):Prop:=∃o,h.get? I=some o∧o.cls=.type "set_iterator"∧o.data=.fields #[first,.int i 0,.ref a,.int n 0,.int ep 0]
def SAt(h:Heap)(a:Addr)(es:Array (Int × Value))(ep:Nat)(t:SetTable):Prop:=∃o,h.get? a=some o∧o.ExactSet∧o.data=.set es ep t∧t.fits es.size=true
theorem SIt.at{h h':Heap}{I a:Addr}{f:Value}{i n ep:Nat}(x:SIt h I f i a n ep)(e:∀o,h.get? I=some o→h'.get? I=some o):SIt h' I f i a n ep:=let ⟨o,ho,r⟩:=x;⟨o,e o ho,r⟩
theorem SAt.at{h h':Heap}{a:Addr}{es:Array (Int × Value)}{ep:Nat}{t:SetTable}(x:SAt h a es ep t)(e:∀o,h.get? a=some o→h'.get? a=some o):SAt h' a es ep t:=let ⟨o,ho,r⟩:=x;⟨o,e o ho,r⟩
theorem SIt.typeIs{s:Shared}{I a:Addr}{f:Value}{i n ep:Nat}(x:SIt s.heap I f i a n ep):s.TypeIs (.ref I) "set_iterator":=let ⟨o,ho,hc,_⟩:=x;⟨o,ho,hc⟩
section
variable {prog:Program} {w:World} {A:Around} {E:Value→Shared→Prop} {s:Shared}
theorem Yvh{I a:Addr}{f:Value}{i n ep:Nat}{Q:Value→Shared→Prop}(hit:SIt s.heap I f i a n ep)(h:Q (.ref I) s):wpAny (model prog w) A (pyIter (.ref I)) Q E s:=by
 refine wpAny_pyIter_slot hit.typeIs Yiz (wpAny_call_entry Yiz hit.typeIs Ym3 ?_ (Yoz _))
 show wpAny _ _ (ret (.ref I)) _ _ s
 exact wpAny_pure ⟨_,rfl,"set_iterator",_,hit.typeIs,slot_si_next.lookup,h⟩
theorem y17{I a:Addr}{sl i ep nx:Nat}{es:Array (Int × Value)}{t:SetTable}{x:Value}{Q:Option Value→Shared→Prop}(hit:SIt s.heap I (.int sl 0) i a es.size ep)(ha:SAt s.heap a es ep t)
 (hn:∀(A':Around) (Q':Option (Value × Nat)→Shared→Prop) (E':Value→Shared→Prop),Q' (some (x,nx)) s→wpAny (model prog w) A' (setNext a sl i ep) Q' E' s)
 (hQ:∀h',SIt h' I (.int nx 0) (i+1) a es.size ep→Heap.SameBut I s.heap h'→Q (some x) { s with heap:=h' }):wpAny (model prog w) A (pyNext (.ref I)) Q E s:=by
 obtain⟨o,ho,hc,hd⟩:=id hit
 obtain⟨oa,hoa,hexa,hda,hfa⟩:=ha
 unfold pyNext
 refine wpAny_bind (wpAny_attempt (wpAny_callSpecial?_slot (name:=Str.ofString "__next__") hit.typeIs slot_si_next (wpAny_call_entry slot_si_next hit.typeIs Ydc ?_ (Yd4 _))))
 show wpAny _ _ (fieldsOf (.ref I) >>= _) _ _ s
 refine wpAny_bind (wpAny_fieldsOf ho hd ?_)
 show wpAny _ _ (setEntries a >>= _) _ _ s
 refine wpAny_bind (wpAny_setEntries_of hoa hda hfa ?_)
 rw[if_neg (by simp)]
 show wpAny _ _ (setNext a sl i ep >>= _) _ _ s
 refine wpAny_bind (hn _ _ _ ?_)
 show wpAny _ _ (setField (.ref I) 0 (rawInt nx) >>= _) _ _ s
 refine wpAny_bind (wpAny_setField ho hd (by simp) ?_)
 have ho1:=Heap.get?_update_self (Obj.mapFields (·.setIfInBounds 0 (rawInt nx))) ho (Obj.isFreed_of_fields (Obj.data_mapFields hd _))
 have hd1:=Obj.data_mapFields hd (·.setIfInBounds 0 (rawInt nx))
 show wpAny _ _ (setField (.ref I) 1 (rawInt (i+1)) >>= _) _ _ _
 refine wpAny_bind (wpAny_setField (s:={ s with heap:=s.heap.update I (Obj.mapFields (·.setIfInBounds 0 (rawInt nx))) }) ho1 hd1 (by simp) (wpAny_pure ⟨x,rfl,wpAny_pure (hQ _ ?_ ((Heap.SameBut.update ..).trans (Heap.SameBut.update ..)))⟩))
 exact⟨_,Heap.get?_update_self _ ho1 (Obj.isFreed_of_fields (Obj.data_mapFields hd1 _)),(Obj.cls_mapFields ..).trans ((Obj.cls_mapFields ..).trans hc),by
  rw[Obj.data_mapFields hd1];simp[rawInt]⟩
theorem y18{I a:Addr}{sl i ep:Nat}{es:Array (Int × Value)}{t:SetTable}{Q:Option Value→Shared→Prop}(hh:A.handled=none)(hit:SIt s.heap I (.int sl 0) i a es.size ep)(ha:SAt s.heap a es ep t)
 (hn:∀(A':Around) (Q':Option (Value × Nat)→Shared→Prop) (E':Value→Shared→Prop),Q' none s→wpAny (model prog w) A' (setNext a sl i ep) Q' E' s)
 (hQ:∀h',Heap.ExtBut I s.heap h'→Q none { s with heap:=h' }):wpAny (model prog w) A (pyNext (.ref I)) Q E s:=by
 obtain⟨o,ho,hc,hd⟩:=id hit
 obtain⟨oa,hoa,hexa,hda,hfa⟩:=ha
 unfold pyNext
 refine wpAny_bind (wpAny_attempt (wpAny_callSpecial?_slot (name:=Str.ofString "__next__") hit.typeIs slot_si_next (wpAny_call_entry slot_si_next hit.typeIs Ydc ?_ (Yd4 _))))
 show wpAny _ _ (fieldsOf (.ref I) >>= _) _ _ s
 refine wpAny_bind (wpAny_fieldsOf ho hd ?_)
 show wpAny _ _ (setEntries a >>= _) _ _ s
 refine wpAny_bind (wpAny_setEntries_of hoa hda hfa ?_)
 rw[if_neg (by simp)]
 show wpAny _ _ (setNext a sl i ep >>= _) _ _ s
 refine wpAny_bind (hn _ _ _ ?_)
 show wpAny _ _ (setField (.ref I) 2 .none >>= _) _ _ s
 refine wpAny_bind (wpAny_setField ho hd (by simp) ?_)
 show wpAny _ _ (newExc (.type "StopIteration") [] >>= _) _ _ _
 refine wpAny_bind ?_
 simp only[newExc,newTuple]
 refine wpAny_bind (wpAny_newObj_type ?_ (by size_fits))
 refine wpAny_bind (m:=firstArgMember _ _) (wpAny_of_eq (a:=Value.none) (by first | rfl | (simp only[firstArgMember];rfl)) ?_)
 refine wpAny_newObj_type ?_ (by size_fits)
 simp only[raiseNew]
 refine wpAny_bind (wpAny_handled ?_)
 first | rw[show A.in1.handled=none from hh] | rw[hh]
 refine wpAny_bind (wpAny_pure (wpAny_throw ?_))
 refine wpAny_bind (wpAny_isInstance (T:="StopIteration") (b:=true) ⟨_,qo _ rfl,rfl⟩ isSubtype_stop ?_)
 exact wpAny_pure (hQ _ (((Heap.SameBut.update ..).extBut.push _).push _))
theorem Yys{I a T:Addr}{i j ep:Nat}{pl:Array Value}{tk:Tok}{es:Array (Int × Value)}{t:SetTable}{e:Int × Value}{Q:Option Value→Shared→Prop}(hit:SIt s.heap I (.ref T) i a es.size ep)(ha:SAt s.heap a es ep t)
 (hT:s.heap.IsTuple T pl) (hp:pl[i]?=some (.int j tk)) (he:es[j]?=some e)
 (hQ:∀h',SIt h' I (.ref T) (i+1) a es.size ep→Heap.SameBut I s.heap h'→Q (some e.2) { s with heap:=h' }):wpAny (model prog w) A (pyNext (.ref I)) Q E s:=by
 obtain⟨o,ho,hc,hd⟩:=id hit
 obtain⟨oa,hoa,hexa,hda,hfa⟩:=ha
 obtain⟨ot,hot,_,nt,hdt⟩:=hT
 unfold pyNext
 refine wpAny_bind (wpAny_attempt (wpAny_callSpecial?_slot (name:=Str.ofString "__next__") hit.typeIs slot_si_next (wpAny_call_entry slot_si_next hit.typeIs Ydc ?_ (Yd4 _))))
 show wpAny _ _ (fieldsOf (.ref I) >>= _) _ _ s
 refine wpAny_bind (wpAny_fieldsOf ho hd ?_)
 show wpAny _ _ (setEntries a >>= _) _ _ s
 refine wpAny_bind (wpAny_setEntries_of hoa hda hfa ?_)
 rw[if_neg (by simp)]
 show wpAny _ _ (seqItems? (.ref T) >>= _) _ _ s
 refine wpAny_bind (wpAny_seqItems hot hdt ?_)
 simp only[Int.toNat_natCast,hp]
 show wpAny _ _ (setNextDrawn a j ep >>= _) _ _ s
 refine wpAny_bind ?_
 unfold setNextDrawn
 refine wpAny_bind (wpAny_setState_of hoa hda hfa ?_)
 dsimp only
 rw[if_neg (by simp)]
 show wpAny _ _ (match es[j]? with | some (_,x)=>pure x | _=>unsupported "internal:set_iterator") _ _ s
 rw[he]
 refine wpAny_pure ?_
 show wpAny _ _ (setField (.ref I) 1 (rawInt (i+1)) >>= _) _ _ _
 refine wpAny_bind (wpAny_setField ho hd (by simp) (wpAny_pure ⟨e.2,rfl,wpAny_pure (hQ _ ?_ (Heap.SameBut.update ..))⟩))
 exact⟨_,Heap.get?_update_self _ ho (Obj.isFreed_of_fields (Obj.data_mapFields hd _)),(Obj.cls_mapFields ..).trans hc,by
  rw[Obj.data_mapFields hd];simp[rawInt]⟩
theorem Yyt{I a T:Addr}{i ep:Nat}{pl:Array Value}{es:Array (Int × Value)}{t:SetTable}{Q:Option Value→Shared→Prop}(hh:A.handled=none)(hit:SIt s.heap I (.ref T) i a es.size ep)(ha:SAt s.heap a es ep t)
 (hT:s.heap.IsTuple T pl) (hp:pl[i]?=none) (hQ:∀h',Heap.ExtBut I s.heap h'→Q none { s with heap:=h' }):wpAny (model prog w) A (pyNext (.ref I)) Q E s:=by
 obtain⟨o,ho,hc,hd⟩:=id hit
 obtain⟨oa,hoa,hexa,hda,hfa⟩:=ha
 obtain⟨ot,hot,_,nt,hdt⟩:=hT
 unfold pyNext
 refine wpAny_bind (wpAny_attempt (wpAny_callSpecial?_slot (name:=Str.ofString "__next__") hit.typeIs slot_si_next (wpAny_call_entry slot_si_next hit.typeIs Ydc ?_ (Yd4 _))))
 show wpAny _ _ (fieldsOf (.ref I) >>= _) _ _ s
 refine wpAny_bind (wpAny_fieldsOf ho hd ?_)
 show wpAny _ _ (setEntries a >>= _) _ _ s
 refine wpAny_bind (wpAny_setEntries_of hoa hda hfa ?_)
 rw[if_neg (by simp)]
 show wpAny _ _ (seqItems? (.ref T) >>= _) _ _ s
 refine wpAny_bind (wpAny_seqItems hot hdt ?_)
 simp only[Int.toNat_natCast,hp]
 show wpAny _ _ (setField (.ref I) 0 (rawInt 0) >>= _) _ _ s
 refine wpAny_bind (wpAny_setField ho hd (by simp) ?_)
 have ho1:=Heap.get?_update_self (Obj.mapFields (·.setIfInBounds 0 (rawInt 0))) ho (Obj.isFreed_of_fields (Obj.data_mapFields hd _))
 have hd1:=Obj.data_mapFields hd (·.setIfInBounds 0 (rawInt 0))
 show wpAny _ _ (setField (.ref I) 2 .none >>= _) _ _ _
 refine wpAny_bind (wpAny_setField (s:={ s with heap:=s.heap.update I (Obj.mapFields (·.setIfInBounds 0 (rawInt 0))) }) ho1 hd1 (by simp) ?_)
 show wpAny _ _ (newExc (.type "StopIteration") [] >>= _) _ _ _
 refine wpAny_bind ?_
 simp only[newExc,newTuple]
 refine wpAny_bind (wpAny_newObj_type ?_ (by size_fits))
 refine wpAny_bind (m:=firstArgMember _ _) (wpAny_of_eq (a:=Value.none) (by first | rfl | (simp only[firstArgMember];rfl)) ?_)
 refine wpAny_newObj_type ?_ (by size_fits)
 simp only[raiseNew]
 refine wpAny_bind (wpAny_handled ?_)
 first | rw[show A.in1.handled=none from hh] | rw[hh]
 refine wpAny_bind (wpAny_pure (wpAny_throw ?_))
 refine wpAny_bind (wpAny_isInstance (T:="StopIteration") (b:=true) ⟨_,qo _ rfl,rfl⟩ isSubtype_stop ?_)
 exact wpAny_pure (hQ _ ((((Heap.SameBut.update ..).trans (Heap.SameBut.update ..)).extBut.push _).push _))
end
end
section
set_option maxRecDepth 100000
section
variable {prog:Program} {w:World} {A:Around} {E:Value→Shared→Prop} {s:Shared}
theorem Yg5{Q:Bool→Shared→Prop}(h:Q (byT w) s):wpAny (model prog w) A setsByText Q E s:=by
 unfold setsByText
 exact wpAny_bind (wpAny_askSetting (wpAny_pure h))
theorem Yo0{a:Addr}{es:Array (Int × Value)}{ep sl i:Nat}{t:SetTable}(hb:byT w=true)(ha:SAt s.heap a es ep t){Q:Option (Value × Nat)→Shared→Prop}
 (h:Q (((pickOrder (w.params.setOrder a ep) es)[i]?).map fun e=>(e.2,sl)) s):wpAny (model prog w) A (setNext a sl i ep) Q E s:=by
 obtain⟨oa,hoa,hexa,hda,hfa⟩:=ha
 unfold setNext
 refine wpAny_bind (wpAny_setState_of hoa hda hfa ?_)
 dsimp only
 refine wpAny_bind (Yg5 ?_)
 rw[if_pos hb,if_neg (by simp)]
 refine wpAny_bind (m:=setWalk a) ?_
 unfold setWalk
 refine wpAny_bind (wpAny_setState_of hoa hda hfa ?_)
 dsimp only
 refine wpAny_bind (Yg5 ?_)
 rw[if_pos hb]
 refine wpAny_bind (wpAny_askSetting (wpAny_pure ?_))
 exact wpAny_pure h
theorem Yo1{a:Addr}{es:Array (Int × Value)}{ep sl i g:Nat}{t:SetTable}(hb:byT w=false)(hd:(!t.plain&&decide (es.size > 1))=false)(hl:t.led=true)(ha:SAt s.heap a es ep t){Q:Option (Value × Nat)→Shared→Prop}
 (hp:SetTable.below t.place sl=i) (h:Q (match es[i]?,t.place[i]? with | some (_,x),some j=>some (x,j+1) | _,_=>none) s):wpAny (model prog w) A (setNext a sl g ep) Q E s:=by
 obtain⟨oa,hoa,hexa,hda,hfa⟩:=ha
 unfold setNext
 refine wpAny_bind (wpAny_setState_of hoa hda hfa ?_)
 dsimp only
 refine wpAny_bind (Yg5 ?_)
 rw[if_neg (by rw[hb];exact qh)]
 show wpAny _ _ (if (!t.plain&&decide (es.size > 1))=true then _ else _) _ _ _
 rw[if_neg (show ¬((!t.plain&&decide (es.size > 1))=true) by rw[hd];exact qh)]
 show wpAny _ _ ((if (!t.led&&!es.isEmpty)=true then unsupported "set:maker-not-led" else pure ()) >>= _) _ _ _
 rw[if_neg (by rw[hl];simp)]
 refine wpAny_bind (wpAny_pure ?_)
 rw[hp]
 exact wpAny_pure h
noncomputable def Yf8(pl:Array Nat):Nat→Nat
 | 0=>0
 | i+1=>pl.getD i 0+1
theorem Ysv{pl:Array Nat}(hr:Rise pl){i:Nat}(hi:i≤pl.size):SetTable.below pl (Yf8 pl i)=i:=by
 obtain⟨h1,h2,h3⟩:=Yf0 hr (Yf8 pl i)
 generalize hp:SetTable.below pl (Yf8 pl i)=p at h1 h2 h3
 have mono:∀(i k:Nat) (hi:i < pl.size) (hk:k < pl.size),i < k→pl[i] < pl[k]:=fun i k hi hk h=>by
  have:=List.pairwise_iff_getElem.mp hr i k (by simpa using hi) (by simpa using hk) h
  simpa using this
 have e1:∀k (hk:k < pl.size),k < p→pl[k] < Yf8 pl i:=fun k hk hkp=>h2 _ (by
  rw[List.mem_iff_getElem]
  exact⟨k,by simp;lia,by simp⟩)
 have e2:∀k (hk:k < pl.size),p≤k→Yf8 pl i≤pl[k]:=fun k hk hkp=>h3 _ (by
  rw[List.mem_iff_getElem]
  exact⟨k - p,by simp;lia,by
   rw[List.getElem_drop,Array.getElem_toList]
   congr 1
   lia⟩)
 rcases Nat.lt_trichotomy p i with h | h | h
 ·have hk:p < pl.size:=by lia
  have:=e2 p hk (qt _)
  cases i with
  | zero=>lia
  | succ j=>
    have hj:j < pl.size:=by lia
    simp only[Yf8,Array.getD,hj,dite_true]at this
    by_cases e:p=j
    ·subst e;exact absurd this (by simp)
    ·have:=mono p j hk hj (by lia)
     simp at *
     lia
 ·exact h
 ·have hk:i < pl.size:=by lia
  have:=e1 i hk h
  cases i with
  | zero=>simp[Yf8]at this
  | succ j=>
    have hj:j < pl.size:=by lia
    have h':=mono j (j+1) hj hk (by lia)
    simp only[Yf8,Array.getD,hj,dite_true]at this
    simp at *
    lia
end
end
section
inductive D where
 | non | bl (b:Bool) | int (i:Int) | str (x:Str) | tup (l:List D) | lst (l:List D)
 | scr (ns:List Int)
 | dct (t:Bool) (ks vs:List D)
mutual
noncomputable def toPy:D→PyData
 | .non=>.none
 | .bl b=>.bool b
 | .int i=>.int i
 | .str x=>.str x
 | .tup l=>.tuple (Ydd l)
 | .lst l=>.list (Ydd l)
 | .scr ns=>.list (ns.map PyData.int)
 | .dct _ _ _=>.none
noncomputable def Ydd:List D→List PyData
 | []=>[]
 | d::l=>toPy d::Ydd l
end
noncomputable def eqD(d e:D):Bool:=PyData.eqv (toPy d) (toPy e)
noncomputable def eqL(l m:List D):Bool:=PyData.eqvAll (Ydd l) (Ydd m)
noncomputable def numV:V→Option Int
 | .int i=>some i
 | .bl b=>some (if b then 1 else 0)
 | _=>none
noncomputable def y19:List V→Option (List Int)
 | []=>some []
 | x::r=>(numV x).bind fun i=>(y19 r).map (i::·)
noncomputable def y2a(ks:List Int):Int:=reduceHash (Builtin.Tuple.tupleHashOf (ks.map hashInt))
def DtOk(a:Addr)(nks:List (List Int × Addr))(vxs:List V)(h:Heap):Prop:=
 (a==sysModules)=false∧∃us o es ep,Vals vxs us∧h.get? a=some o∧o.ExactDict∧o.data=.dict es ep∧es.toList=(nks.zip us).map fun p=>(⟨y2a p.1.1,.ref p.1.2,p.2⟩:DictEntry)
noncomputable def dTo(a:Addr)(nks:List (List Int × Addr))(vxs:List V):HO:=.ext (DtOk a nks vxs)
def Dc(t:Bool)(G H:Hp)(a:Addr)(kxs vxs:List V):Prop:=
 (t=false∧∃kvs:List (Key × V),H a=some (.dK kvs)∧(kvs.map (·.1)).Nodup∧kxs=kvs.map (fun p=>kV p.1)∧vxs=kvs.map (·.2))∨
 (t=true∧∃nks:List (List Int × Addr),H a=some (dTo a nks vxs)∧nks.length=vxs.length∧(nks.map (·.1)).Nodup∧kxs=nks.map (fun p=>V.ref p.2)∧∀p∈nks,∃ys,G p.2=some (.tup ys)∧y19 ys=some p.1)
mutual
noncomputable def Rp(K:W.Frag)(G:Hp):D→V→Prop
 | .non,v=>v=V.non
 | .bl b,v=>v=V.bl b
 | .int i,v=>v=V.int i
 | .str x,v=>v=V.str x∧PyData.strOk x=true
 | .tup l,v=>∃a xs,v=V.ref a∧G a=some (HO.tup xs)∧RpL K G l xs
 | .lst l,v=>∃a xs,v=V.ref a∧Rd G a (HO.lst xs)∧RpL K G l xs
 | .scr ns,v=>∃a,v=V.ref a∧SqL K G a (ns.map V.int)
 | .dct t ks vs,v=>∃a kxs vxs,v=V.ref a∧Dc t G G a kxs vxs∧RpL K G ks kxs∧RpL K G vs vxs
noncomputable def RpL(K:W.Frag)(G:Hp):List D→List V→Prop
 | [],xs=>xs=[]
 | d::l,xs=>∃x r,xs=x::r∧Rp K G d x∧RpL K G l r
end
variable {K:W.Frag}
theorem Ybd{G G':Hp}(h:Same G G'){a:Addr}{u:HO}(r:Rd G a u):Rd G' a u:=by
 rcases r with r | ⟨o,r⟩
 ·exact .inl (h _ _ r)
 ·exact .inr ⟨o,h _ _ r⟩
theorem Dc.mono{t:Bool}{G G' H H':Hp}(g:Same G G'){a:Addr}{kxs vxs:List V}(h:∀o,H a=some o→H' a=some o)(d:Dc t G H a kxs vxs):Dc t G' H' a kxs vxs:=by
 rcases d with⟨e,kvs,h1,h2⟩ | ⟨e,nks,h1,h2,h3,h4,h5⟩
 ·exact .inl ⟨e,kvs,h _ h1,h2⟩
 ·refine .inr ⟨e,nks,h _ h1,h2,h3,h4,fun p hp=>?_⟩
  obtain⟨ys,q1,q2⟩:=h5 p hp
  exact⟨ys,g _ _ q1,q2⟩
theorem Dc.someT{t:Bool}{G H:Hp}{a:Addr}{kxs vxs:List V}(d:Dc t G H a kxs vxs):∃o,H a=some o∧∀xs,o≠.tup xs:=by
 rcases d with⟨_,kvs,h1,_⟩ | ⟨_,nks,h1,_⟩
 ·exact⟨_,h1,fun xs z=>by cases z⟩
 ·exact⟨_,h1,fun xs z=>by cases z⟩
theorem Dc.some{t:Bool}{G H:Hp}{a:Addr}{kxs vxs:List V}(d:Dc t G H a kxs vxs):∃o,H a=some o∧∀xs,o≠.lst xs:=by
 rcases d with⟨_,kvs,h1,_⟩ | ⟨_,nks,h1,_⟩
 ·exact⟨_,h1,fun xs z=>by cases z⟩
 ·exact⟨_,h1,fun xs z=>by cases z⟩
mutual
theorem Rp.mono{G G':Hp}(h:Same G G'):∀{d:D} {v:V},Rp K G d v→Rp K G' d v
 | .non,_,r=>by rw[Rp]at r ⊢;exact r
 | .bl _,_,r=>by rw[Rp]at r ⊢;exact r
 | .int _,_,r=>by rw[Rp]at r ⊢;exact r
 | .str _,_,r=>by rw[Rp]at r ⊢;exact r
 | .tup l,_,r=>by
   rw[Rp]at r ⊢
   obtain⟨a,xs,e,g,q⟩:=r
   exact⟨a,xs,e,h _ _ g,RpL.mono h q⟩
 | .lst l,_,r=>by
   rw[Rp]at r ⊢
   obtain⟨a,xs,e,g,q⟩:=r
   exact⟨a,xs,e,Ybd h g,RpL.mono h q⟩
 | .scr ns,_,r=>by
   rw[Rp]at r ⊢
   obtain⟨a,e,g⟩:=r
   exact⟨a,e,h.seq g⟩
 | .dct t ks vs,_,r=>by
   rw[Rp]at r ⊢
   obtain⟨a,kxs,vxs,e,g,q1,q2⟩:=r
   exact⟨a,kxs,vxs,e,g.mono h fun o=>h _ o,RpL.mono h q1,RpL.mono h q2⟩
theorem RpL.mono{G G':Hp}(h:Same G G'):∀{l:List D} {xs:List V},RpL K G l xs→RpL K G' l xs
 | [],_,r=>by rw[RpL]at r ⊢;exact r
 | d::l,_,r=>by
   rw[RpL]at r ⊢
   obtain⟨x,xs,e,g,q⟩:=r
   exact⟨x,xs,e,Rp.mono h g,RpL.mono h q⟩
end
section
variable {G:Hp}
theorem RpL.length:∀{l:List D} {xs:List V},RpL K G l xs→xs.length=l.length
 | [],_,r=>by rw[RpL]at r;subst r;rfl
 | d::l,_,r=>by
   rw[RpL]at r
   obtain⟨x,xs,rfl,_,q⟩:=r
   simp[RpL.length q]
theorem RpL.get:∀{l:List D} {xs:List V} {i:Nat} {d:D},RpL K G l xs→l[i]?=some d→∃x,xs[i]?=some x∧Rp K G d x
 | [],_,_,_,_,e=>by simp at e
 | d::l,_,0,_,r,e=>by
   rw[RpL]at r
   obtain⟨x,xs,rfl,g,q⟩:=r
   simp at e
   subst e
   exact⟨x,rfl,g⟩
 | d::l,_,i+1,_,r,e=>by
   rw[RpL]at r
   obtain⟨x,xs,rfl,g,q⟩:=r
   obtain⟨y,h1,h2⟩:=RpL.get (i:=i) q (by simpa using e)
   exact⟨y,by simpa using h1,h2⟩
theorem RpL.nil:RpL K G [] []:=by rw[RpL]
theorem RpL.cons{d:D}{l:List D}{x:V}{xs:List V}(h:Rp K G d x)(q:RpL K G l xs):RpL K G (d::l) (x::xs):=by rw[RpL];exact⟨x,xs,rfl,h,q⟩
theorem RpL.append:∀{l m:List D} {xs ys:List V},RpL K G l xs→RpL K G m ys→RpL K G (l++m) (xs++ys)
 | [],_,_,_,r,q=>by rw[RpL]at r;subst r;exact q
 | d::l,m,_,ys,r,q=>by
   rw[RpL]at r
   obtain⟨x,xs,rfl,g,r⟩:=r
   exact .cons g (RpL.append r q)
theorem RpL.one{d:D}{x:V}(h:Rp K G d x):RpL K G [d] [x]:=.cons h .nil
theorem RpL.take:∀{l:List D} {xs:List V} (n:Nat),RpL K G l xs→RpL K G (l.take n) (xs.take n)
 | _,_,0,_=>by rw[List.take_zero,List.take_zero];exact .nil
 | [],_,_+1,r=>by rw[RpL]at r;subst r;exact .nil
 | d::l,_,n+1,r=>by
   rw[RpL]at r
   obtain⟨x,xs,rfl,g,r⟩:=r
   exact .cons g (RpL.take n r)
theorem RpL.drop:∀{l:List D} {xs:List V} (n:Nat),RpL K G l xs→RpL K G (l.drop n) (xs.drop n)
 | _,_,0,r=>r
 | [],_,_+1,r=>by rw[RpL]at r;subst r;exact .nil
 | d::l,_,n+1,r=>by
   rw[RpL]at r
   obtain⟨x,xs,rfl,g,r⟩:=r
   exact RpL.drop n r
theorem RpL.ints:∀(ns:List Int),RpL K G (ns.map D.int) (ns.map V.int)
 | []=>.nil
 | n::ns=>.cons (by rw[Rp]) (RpL.ints ns)
end
structure Gr(H G H' G':Hp):Prop where
 h:Same H H'
 g:Same G G'
 s:Same G' H'
 n:∀a,G a=none→G' a≠none→H a=none
theorem Gr.refl{H G:Hp}(s:Same G H):Gr H G H G:=⟨Same.refl _,Same.refl _,s,fun _ h h'=>absurd h h'⟩
theorem Gr.trans{H G H1 G1 H2 G2:Hp}(a:Gr H G H1 G1)(b:Gr H1 G1 H2 G2):Gr H G H2 G2:=
 ⟨a.h.trans b.h,a.g.trans b.g,b.s,fun x h h'=>by
  by_cases e:G1 x=none
  ·exact a.h.free (b.n x e h')
  ·exact a.n x h e⟩
theorem Gr.new{H G:Hp}(s:Same G H){p:Addr}(hp:H p=none)(o:HO):Gr H G (upd H p o) (upd G p o):=by
 have gp:G p=none:=s.free hp
 refine⟨fun b u e=>?_,fun b u e=>?_,fun b u e=>?_,fun b h h'=>?_⟩
 ·rw[Yaa (y9 e hp)];exact e
 ·rw[Yaa (y9 e gp)];exact e
 ·by_cases q:b=p
  ·subst q;rw[y0]at e ⊢;exact e
  ·rw[Yaa q]at e ⊢;exact s _ _ e
 ·by_cases q:b=p
  ·subst q;exact hp
  ·rw[Yaa q]at h';exact absurd h h'
theorem Gr.hid{H G:Hp}(s:Same G H){p:Addr}(hp:H p=none)(o:HO):Gr H G (upd H p o) G:=by
 have gp:G p=none:=s.free hp
 refine⟨fun b u e=>?_,Same.refl _,fun b u e=>?_,fun b h h'=>absurd h h'⟩
 ·rw[Yaa (y9 e hp)];exact e
 ·rw[Yaa (y9 e gp)];exact s _ _ e
theorem Gr.show{H G H' G':Hp}(g:Gr H G H' G'){p:Addr}{o:HO}(hp:H p=none)(gp:G' p=none)(e:H' p=some o):Gr H G H' (upd G' p o):=by
 refine⟨g.h,fun b u q=>?_,fun b u q=>?_,fun b h h'=>?_⟩
 ·have:=g.g b u q
  rw[Yaa (y9 this gp)];exact this
 ·by_cases z:b=p
  ·subst z;rw[y0]at q;rw[e];exact q
  ·rw[Yaa z]at q;exact g.s b u q
 ·by_cases z:b=p
  ·subst z;exact hp
  ·rw[Yaa z]at h';exact g.n b h h'
noncomputable def Ct(K:W.Frag)(G H:Hp):D→V→Prop
 | .non,v=>v=V.non
 | .bl b,v=>v=V.bl b
 | .int i,v=>v=V.int i
 | .str x,v=>v=V.str x∧PyData.strOk x=true
 | .tup l,v=>∃a xs,v=V.ref a∧(H a=some (HO.tup xs)∧G a=some (HO.tup xs))∧RpL K G l xs
 | .lst l,v=>∃a xs,v=V.ref a∧Rd H a (HO.lst xs)∧RpL K G l xs
 | .scr ns,v=>∃a,v=V.ref a∧SqL K H a (ns.map V.int)
 | .dct t ks vs,v=>∃a kxs vxs,v=V.ref a∧Dc t G H a kxs vxs∧RpL K G ks kxs∧RpL K G vs vxs
theorem Ct.of{G H:Hp}(s:Same G H){d:D}{v:V}(r:Rp K G d v):Ct K G H d v:=by
 cases d<;>rw[Rp]at r<;>rw[Ct]
 ·exact r
 ·exact r
 ·exact r
 ·exact r
 ·obtain⟨a,xs,e,g,q⟩:=r
  exact⟨a,xs,e,⟨s _ _ g,g⟩,q⟩
 ·obtain⟨a,xs,e,g,q⟩:=r
  exact⟨a,xs,e,Ybd s g,q⟩
 ·obtain⟨a,e,g⟩:=r
  exact⟨a,e,s.seq g⟩
 ·obtain⟨a,kxs,vxs,e,g,q1,q2⟩:=r
  exact⟨a,kxs,vxs,e,g.mono (Same.refl _) fun o=>s _ o,q1,q2⟩
theorem Ct.rp{G H:Hp}(s:Same G H){d:D}{v:V}(r:Ct K G H d v):Rp K H d v:=by
 cases d<;>rw[Ct]at r<;>rw[Rp]
 ·exact r
 ·exact r
 ·exact r
 ·exact r
 ·obtain⟨a,xs,e,g,q⟩:=r
  exact⟨a,xs,e,g.1,q.mono s⟩
 ·obtain⟨a,xs,e,g,q⟩:=r
  exact⟨a,xs,e,g,q.mono s⟩
 ·exact r
 ·obtain⟨a,kxs,vxs,e,g,q1,q2⟩:=r
  exact⟨a,kxs,vxs,e,g.mono s fun _ z=>z,q1.mono s,q2.mono s⟩
theorem Ct.grow{G H G' H':Hp}(g:Gr H G H' G'){d:D}{v:V}(r:Ct K G H d v):Ct K G' H' d v:=by
 cases d<;>rw[Ct]at r<;>rw[Ct]
 ·exact r
 ·exact r
 ·exact r
 ·exact r
 ·obtain⟨a,xs,e,h,q⟩:=r
  exact⟨a,xs,e,⟨g.h _ _ h.1,g.g _ _ h.2⟩,q.mono g.g⟩
 ·obtain⟨a,xs,e,h,q⟩:=r
  exact⟨a,xs,e,Ybd g.h h,q.mono g.g⟩
 ·obtain⟨a,e,h⟩:=r
  exact⟨a,e,g.h.seq h⟩
 ·obtain⟨a,kxs,vxs,e,h,q1,q2⟩:=r
  exact⟨a,kxs,vxs,e,h.mono g.g fun o=>g.h _ o,q1.mono g.g,q2.mono g.g⟩
noncomputable def CtL(K:W.Frag)(G H:Hp):List D→List V→Prop
 | [],xs=>xs=[]
 | d::l,xs=>∃x r,xs=x::r∧Ct K G H d x∧CtL K G H l r
inductive B where
 | sh (d:D) | ow (l:List D) | od (t:Bool) (ks vs:List D)
noncomputable abbrev Ro:=List (Option B)
structure SR(K:W.Frag)(H0 G0:Hp)(σ:L2.St)(H G:Hp)(ρ:Ro):Prop where
 gr:Gr H0 G0 H G
 len:σ.length=ρ.length
 sh:∀(i:Nat) d,ρ[i]?=some (some (B.sh d))→∃v,σ[i]?=some (some v)∧Rp K G d v
 ow:∀(i:Nat) l,ρ[i]?=some (some (B.ow l))→∃a xs,σ[i]?=some (some (V.ref a))∧G a=none∧H0 a=none∧H a=some (.lst xs)∧RpL K G l xs
 ap:∀(i j:Nat) l l' a b,ρ[i]?=some (some (B.ow l))→ρ[j]?=some (some (B.ow l'))→i≠j→σ[i]?=some (some (V.ref a))→σ[j]?=some (some (V.ref b))→a≠b
 od:∀(i:Nat) t ks vs,ρ[i]?=some (some (B.od t ks vs))→∃a kxs vxs,σ[i]?=some (some (V.ref a))∧G a=none∧H0 a=none∧Dc t G H a kxs vxs∧RpL K G ks kxs∧RpL K G vs vxs
 apd:∀(i j:Nat) t ks vs t' ks' vs' a b,ρ[i]?=some (some (B.od t ks vs))→ρ[j]?=some (some (B.od t' ks' vs'))→i≠j→σ[i]?=some (some (V.ref a))→σ[j]?=some (some (V.ref b))→a≠b
section
variable {H0 G0 H G H' G':Hp} {σ:L2.St} {ρ:Ro}
theorem SR.mkSh(g:Gr H0 G0 H G)(len:σ.length=ρ.length)(sh:∀(i:Nat) d,ρ[i]?=some (some (B.sh d))→∃v,σ[i]?=some (some v)∧Rp K G d v)(no:∀(i:Nat) l,ρ[i]?≠some (some (B.ow l)))(no':∀(i:Nat) t ks vs,ρ[i]?≠some (some (B.od t ks vs))):SR K H0 G0 σ H G ρ:=
 ⟨g,len,sh,fun i l h=>absurd h (no i l),fun i j l l' a b h=>absurd h (no i l),fun i t ks vs h=>absurd h (no' i t ks vs),fun i j t ks vs t' ks' vs' a b h=>absurd h (no' i t ks vs)⟩
theorem Yj8(g:Gr H G H' G'){a:Addr}{o:HO}(h:H a=some o)(n:G a=none):G' a=none:=by
 cases q:G' a with
 | none=>rfl
 | some o=>
   have:=g.n a n (by rw[q];exact fun z=>nomatch z)
   rw[h]at this
   cases this
theorem SR.grow(s:SR K H0 G0 σ H G ρ)(g:Gr H G H' G'):SR K H0 G0 σ H' G' ρ:=by
 refine⟨s.gr.trans g,s.len,fun i d e=>?_,fun i l e=>?_,s.ap,fun i t ks vs e=>?_,s.apd⟩
 ·obtain⟨v,h1,h2⟩:=s.sh i d e
  exact⟨v,h1,h2.mono g.g⟩
 ·obtain⟨a,xs,h1,h2,h3,h4,h5⟩:=s.ow i l e
  exact⟨a,xs,h1,Yj8 g h4 h2,h3,g.h _ _ h4,h5.mono g.g⟩
 ·obtain⟨a,kxs,vxs,h1,h2,h3,h4,h5,h6⟩:=s.od i t ks vs e
  obtain⟨o,h7,_⟩:=h4.some
  exact⟨a,kxs,vxs,h1,Yj8 g h7 h2,h3,h4.mono g.g fun o=>g.h _ o,h5.mono g.g,h6.mono g.g⟩
theorem SR.seen(s:SR K H0 G0 σ H G ρ):Same G H:=s.gr.s
theorem Yv{α:Type}{l:List α}{i j:Nat}{x y:α}(h:(l.set i x)[j]?=some y):(j=i∧y=x∧i < l.length)∨(j≠i∧l[j]?=some y):=by
 by_cases e:j=i
 ·subst e
  have hl:j < l.length:=by
   have:=(qm h).1
   simpa using this
  rw[List.getElem?_set_self hl]at h
  exact .inl ⟨rfl,(Option.some.inj h).symm,hl⟩
 ·rw[Qg (Ne.symm e)]at h
  exact .inr ⟨e,h⟩
theorem SR.set_sh(s:SR K H0 G0 σ H G ρ)(i:Nat){d:D}{v:V}(r:Rp K G d v):SR K H0 G0 (σ.set i (some v)) H G (ρ.set i (some (.sh d))):=by
 refine⟨s.gr,by simp[s.len],fun j e h=>?_,fun j l h=>?_,fun j k l l' a b h1 h2 h3 h4 h5=>?_,fun j t ks vs h=>?_,fun j k t ks vs t' ks' vs' a b h1 h2 h3 h4 h5=>?_⟩
 ·rcases Yv h with⟨rfl,e1,hl⟩ | ⟨hj,h⟩
  ·cases e1
   exact⟨v,by rw[List.getElem?_set_self (by rw[s.len];exact hl)],r⟩
  ·obtain⟨w,q1,q2⟩:=s.sh j e h
   exact⟨w,by rw[Qg (Ne.symm hj)];exact q1,q2⟩
 ·rcases Yv h with⟨rfl,e1,hl⟩ | ⟨hj,h⟩
  ·cases e1
  ·obtain⟨a,xs,q1,q2⟩:=s.ow j l h
   exact⟨a,xs,by rw[Qg (Ne.symm hj)];exact q1,q2⟩
 ·rcases Yv h1 with⟨rfl,e1,_⟩ | ⟨hj,h1⟩
  ·cases e1
  ·rcases Yv h2 with⟨rfl,e1,_⟩ | ⟨hk,h2⟩
   ·cases e1
   ·rw[Qg (Ne.symm hj)]at h4
    rw[Qg (Ne.symm hk)]at h5
    exact s.ap j k l l' a b h1 h2 h3 h4 h5
 ·rcases Yv h with⟨rfl,e1,hl⟩ | ⟨hj,h⟩
  ·cases e1
  ·obtain⟨a,kxs,vxs,q1,q2⟩:=s.od j t ks vs h
   exact⟨a,kxs,vxs,by rw[Qg (Ne.symm hj)];exact q1,q2⟩
 ·rcases Yv h1 with⟨rfl,e1,_⟩ | ⟨hj,h1⟩
  ·cases e1
  ·rcases Yv h2 with⟨rfl,e1,_⟩ | ⟨hk,h2⟩
   ·cases e1
   ·rw[Qg (Ne.symm hj)]at h4
    rw[Qg (Ne.symm hk)]at h5
    exact s.apd j k t ks vs t' ks' vs' a b h1 h2 h3 h4 h5
theorem SR.set_ow(s:SR K H0 G0 σ H G ρ)(i:Nat){l:List D}{p:Addr}{xs:List V}(g:Gr H G H' G')(hp:H p=none)(gp:G' p=none)(e:H' p=some (.lst xs))(r:RpL K G' l xs):SR K H0 G0 (σ.set i (some (.ref p))) H' G' (ρ.set i (some (.ow l))):=by
 have s':=s.grow g
 have np:∀(j:Nat) l a,ρ[j]?=some (some (B.ow l))→σ[j]?=some (some (V.ref a))→a≠p:=fun j l a h1 h2 z=>by
  obtain⟨b,ys,q1,_,_,q4,_⟩:=s.ow j l h1
  rw[h2]at q1
  cases q1
  rw[z,hp]at q4
  cases q4
 refine⟨s'.gr,by simp[s.len],fun j e h=>?_,fun j l h=>?_,fun j k l l' a b h1 h2 h3 h4 h5=>?_,fun j t ks vs h=>?_,fun j k t ks vs t' ks' vs' a b h1 h2 h3 h4 h5=>?_⟩
 ·rcases Yv h with⟨rfl,e1,hl⟩ | ⟨hj,h⟩
  ·cases e1
  ·obtain⟨w,q1,q2⟩:=s'.sh j e h
   exact⟨w,by rw[Qg (Ne.symm hj)];exact q1,q2⟩
 ·rcases Yv h with⟨rfl,e1,hl⟩ | ⟨hj,h⟩
  ·cases e1
   exact⟨p,xs,by rw[List.getElem?_set_self (by rw[s.len];exact hl)],gp,s.gr.h.free hp,e,r⟩
  ·obtain⟨a,xs,q1,q2⟩:=s'.ow j l h
   exact⟨a,xs,by rw[Qg (Ne.symm hj)];exact q1,q2⟩
 ·rcases Yv h1 with⟨rfl,e1,hl⟩ | ⟨hj,h1n⟩
  ·rcases Yv h2 with⟨rfl,e2,_⟩ | ⟨hk,h2⟩
   ·exact absurd rfl h3
   ·rw[List.getElem?_set_self (by rw[s.len];exact hl)]at h4
    cases h4
    rw[Qg (Ne.symm hk)]at h5
    exact Ne.symm (np k l' b h2 h5)
  ·rcases Yv h2 with⟨rfl,e2,hl⟩ | ⟨hk,h2⟩
   ·rw[List.getElem?_set_self (by rw[s.len];exact hl)]at h5
    cases h5
    rw[Qg (Ne.symm hj)]at h4
    exact np j l a h1n h4
   ·rw[Qg (Ne.symm hj)]at h4
    rw[Qg (Ne.symm hk)]at h5
    exact s.ap j k l l' a b h1n h2 h3 h4 h5
 ·rcases Yv h with⟨rfl,e1,hl⟩ | ⟨hj,h⟩
  ·cases e1
  ·obtain⟨a,kxs,vxs,q1,q2⟩:=s'.od j t ks vs h
   exact⟨a,kxs,vxs,by rw[Qg (Ne.symm hj)];exact q1,q2⟩
 ·rcases Yv h1 with⟨rfl,e1,_⟩ | ⟨hj,h1⟩
  ·cases e1
  ·rcases Yv h2 with⟨rfl,e1,_⟩ | ⟨hk,h2⟩
   ·cases e1
   ·rw[Qg (Ne.symm hj)]at h4
    rw[Qg (Ne.symm hk)]at h5
    exact s.apd j k t ks vs t' ks' vs' a b h1 h2 h3 h4 h5
theorem SR.mut(s:SR K H0 G0 σ H G ρ){i:Nat}{l l':List D}{a:Addr}{ys:List V}(hi:ρ[i]?=some (some (B.ow l)))(ha:σ[i]?=some (some (V.ref a)))(r:RpL K G l' ys):SR K H0 G0 σ (upd H a (.lst ys)) G (ρ.set i (some (.ow l'))):=by
 obtain⟨a',xs,q1,q2,q3,q4,q5⟩:=s.ow i l hi
 rw[ha]at q1
 cases q1
 have hl:i < ρ.length:=(qm hi).1
 refine⟨⟨fun b o e=>?_,s.gr.g,fun b o e=>?_,s.gr.n⟩,by simp[s.len],fun j e h=>?_,fun j m h=>?_,fun j k m m' b c h1 h2 h3 h4 h5=>?_,fun j t ks vs h=>?_,fun j k t ks vs t' ks' vs' b c h1 h2 h3 h4 h5=>?_⟩
 ·rw[Yaa (y9 e q3)];exact s.gr.h b o e
 ·rw[Yaa (y9 e q2)];exact s.gr.s b o e
 ·rcases Yv h with⟨rfl,e1,_⟩ | ⟨hj,h⟩
  ·cases e1
  ·exact s.sh j e h
 ·rcases Yv h with⟨rfl,e1,_⟩ | ⟨hj,h⟩
  ·cases e1
   exact⟨a,ys,ha,q2,q3,y0,r⟩
  ·obtain⟨b,zs,p1,p2,p3,p4,p5⟩:=s.ow j m h
   exact⟨b,zs,p1,p2,p3,by rw[Yaa (s.ap j i m l b a h hi hj p1 ha)];exact p4,p5⟩
 ·have old:∀(j:Nat) m,(ρ.set i (some (.ow l')))[j]?=some (some (B.ow m))→∃m',ρ[j]?=some (some (B.ow m')):=fun j m h=>by
   rcases Yv h with⟨rfl,_,_⟩ | ⟨_,h⟩
   ·exact⟨l,hi⟩
   ·exact⟨m,h⟩
  obtain⟨n1,e1⟩:=old j m h1
  obtain⟨n2,e2⟩:=old k m' h2
  exact s.ap j k n1 n2 b c e1 e2 h3 h4 h5
 ·rcases Yv h with⟨rfl,e1,_⟩ | ⟨hj,h⟩
  ·cases e1
  ·obtain⟨b,kxs,vxs,p1,p2,p3,p4,p5⟩:=s.od j t ks vs h
   refine⟨b,kxs,vxs,p1,p2,p3,p4.mono (Same.refl _) fun o q=>?_,p5⟩
   obtain⟨o',q',nl⟩:=p4.some
   rw[q]at q'
   cases q'
   rw[Yaa (fun z=>by rw[z,q4]at q;cases q;exact nl _ rfl)];exact q
 ·rcases Yv h1 with⟨rfl,e1,_⟩ | ⟨hj,h1⟩
  ·cases e1
  ·rcases Yv h2 with⟨rfl,e1,_⟩ | ⟨hk,h2⟩
   ·cases e1
   ·exact s.apd j k t ks vs t' ks' vs' b c h1 h2 h3 h4 h5
theorem SR.freezeT(s:SR K H0 G0 σ H G ρ){i:Nat}{l:List D}(hi:ρ[i]?=some (some (B.ow l))):∃G',SR K H0 G0 σ H G' (ρ.set i (some (.sh (.lst l))))∧∀b ys,G' b=some (.tup ys)→G b=some (.tup ys):=by
 obtain⟨a,xs,q1,q2,q3,q4,q5⟩:=s.ow i l hi
 have hl:i < ρ.length:=(qm hi).1
 have sm:Same G (upd G a (.lst xs)):=fun b o e=>by rw[Yaa (y9 e q2)];exact e
 refine⟨upd G a (.lst xs),?_,fun b ys e=>by
  by_cases z:b=a
  ·subst z;rw[y0]at e;cases e
  ·rw[Yaa z]at e;exact e⟩
 refine⟨⟨s.gr.h,s.gr.g.trans sm,fun b o e=>?_,fun b h h'=>?_⟩,by simp[s.len],fun j e h=>?_,fun j m h=>?_,fun j k m m' b c h1 h2 h3 h4 h5=>?_,fun j t ks vs h=>?_,fun j k t ks vs t' ks' vs' b c h1 h2 h3 h4 h5=>?_⟩
 ·by_cases z:b=a
  ·subst z;rw[y0]at e;rw[q4];exact e
  ·rw[Yaa z]at e;exact s.gr.s b o e
 ·by_cases z:b=a
  ·subst z;exact q3
  ·rw[Yaa z]at h';exact s.gr.n b h h'
 ·rcases Yv h with⟨rfl,e1,_⟩ | ⟨hj,h⟩
  ·cases e1
   exact⟨_,q1,by rw[Rp];exact⟨a,xs,rfl,.inl y0,q5.mono sm⟩⟩
  ·obtain⟨v,p1,p2⟩:=s.sh j e h
   exact⟨v,p1,p2.mono sm⟩
 ·rcases Yv h with⟨rfl,e1,_⟩ | ⟨hj,h⟩
  ·cases e1
  ·obtain⟨b,zs,p1,p2,p3,p4,p5⟩:=s.ow j m h
   exact⟨b,zs,p1,by rw[Yaa (s.ap j i m l b a h hi hj p1 q1)];exact p2,p3,p4,p5.mono sm⟩
 ·rcases Yv h1 with⟨rfl,e1,_⟩ | ⟨hj,h1⟩
  ·cases e1
  ·rcases Yv h2 with⟨rfl,e1,_⟩ | ⟨hk,h2⟩
   ·cases e1
   ·exact s.ap j k m m' b c h1 h2 h3 h4 h5
 ·rcases Yv h with⟨rfl,e1,_⟩ | ⟨hj,h⟩
  ·cases e1
  ·obtain⟨b,kxs,vxs,p1,p2,p3,p4,p5,p6⟩:=s.od j t ks vs h
   obtain⟨o',q',nl⟩:=p4.some
   exact⟨b,kxs,vxs,p1,by rw[Yaa (fun z=>by rw[z,q4]at q';cases q';exact nl _ rfl)];exact p2,p3,p4.mono sm fun _ z=>z,p5.mono sm,p6.mono sm⟩
 ·rcases Yv h1 with⟨rfl,e1,_⟩ | ⟨hj,h1⟩
  ·cases e1
  ·rcases Yv h2 with⟨rfl,e1,_⟩ | ⟨hk,h2⟩
   ·cases e1
   ·exact s.apd j k t ks vs t' ks' vs' b c h1 h2 h3 h4 h5
theorem SR.freeze(s:SR K H0 G0 σ H G ρ){i:Nat}{l:List D}(hi:ρ[i]?=some (some (B.ow l))):∃G',SR K H0 G0 σ H G' (ρ.set i (some (.sh (.lst l)))):=by
 obtain⟨G',h,_⟩:=s.freezeT hi
 exact⟨G',h⟩
theorem SR.freezedT(s:SR K H0 G0 σ H G ρ){i:Nat}{t:Bool}{ks vs:List D}(hi:ρ[i]?=some (some (B.od t ks vs))):∃G',SR K H0 G0 σ H G' (ρ.set i (some (.sh (.dct t ks vs))))∧∀b ys,G' b=some (.tup ys)→G b=some (.tup ys):=by
 obtain⟨a,kxs,vxs,q1,q2,q3,q4,q5,q6⟩:=s.od i t ks vs hi
 obtain⟨o,q7,nl⟩:=q4.some
 have hl:i < ρ.length:=(qm hi).1
 have sm:Same G (upd G a o):=fun b o e=>by rw[Yaa (y9 e q2)];exact e
 obtain⟨oT,q8,nt⟩:=q4.someT
 rw[q7]at q8
 cases q8
 refine⟨upd G a o,?_,fun b ys e=>by
  by_cases z:b=a
  ·subst z;rw[y0]at e;cases e;exact absurd rfl (nt _)
  ·rw[Yaa z]at e;exact e⟩
 refine⟨⟨s.gr.h,s.gr.g.trans sm,fun b o' e=>?_,fun b h h'=>?_⟩,by simp[s.len],fun j e h=>?_,fun j m h=>?_,fun j k m m' b c h1 h2 h3 h4 h5=>?_,fun j t ks vs h=>?_,fun j k t ks vs t' ks' vs' b c h1 h2 h3 h4 h5=>?_⟩
 ·by_cases z:b=a
  ·subst z;rw[y0]at e;rw[q7];exact e
  ·rw[Yaa z]at e;exact s.gr.s b o' e
 ·by_cases z:b=a
  ·subst z;exact q3
  ·rw[Yaa z]at h';exact s.gr.n b h h'
 ·rcases Yv h with⟨rfl,e1,_⟩ | ⟨hj,h⟩
  ·cases e1
   refine⟨_,q1,?_⟩
   rw[Rp]
   refine⟨a,kxs,vxs,rfl,q4.mono sm fun o' z=>?_,q5.mono sm,q6.mono sm⟩
   rw[q7]at z
   rw[y0];exact z
  ·obtain⟨v,p1,p2⟩:=s.sh j e h
   exact⟨v,p1,p2.mono sm⟩
 ·rcases Yv h with⟨rfl,e1,_⟩ | ⟨hj,h⟩
  ·cases e1
  ·obtain⟨b,zs,p1,p2,p3,p4,p5⟩:=s.ow j m h
   exact⟨b,zs,p1,by rw[Yaa (fun z=>by rw[z,q7]at p4;cases p4;exact nl _ rfl)];exact p2,p3,p4,p5.mono sm⟩
 ·rcases Yv h1 with⟨rfl,e1,_⟩ | ⟨hj,h1⟩
  ·cases e1
  ·rcases Yv h2 with⟨rfl,e1,_⟩ | ⟨hk,h2⟩
   ·cases e1
   ·exact s.ap j k m m' b c h1 h2 h3 h4 h5
 ·rcases Yv h with⟨rfl,e1,_⟩ | ⟨hj,h⟩
  ·cases e1
  ·obtain⟨b,kx,vx,p1,p2,p3,p4,p5,p6⟩:=s.od j t ks vs h
   exact⟨b,kx,vx,p1,by rw[Yaa (s.apd j i _ _ _ _ _ _ b a h hi hj p1 q1)];exact p2,p3,p4.mono sm fun _ z=>z,p5.mono sm,p6.mono sm⟩
 ·rcases Yv h1 with⟨rfl,e1,_⟩ | ⟨hj,h1⟩
  ·cases e1
  ·rcases Yv h2 with⟨rfl,e1,_⟩ | ⟨hk,h2⟩
   ·cases e1
   ·exact s.apd j k t ks vs t' ks' vs' b c h1 h2 h3 h4 h5
theorem SR.freezed(s:SR K H0 G0 σ H G ρ){i:Nat}{t:Bool}{ks vs:List D}(hi:ρ[i]?=some (some (B.od t ks vs))):∃G',SR K H0 G0 σ H G' (ρ.set i (some (.sh (.dct t ks vs)))):=by
 obtain⟨G',h,_⟩:=s.freezedT hi
 exact⟨G',h⟩
def Le(ρ ρ':Ro):Prop:=ρ.length=ρ'.length∧∀(i:Nat) b,ρ[i]?=some (some b)→ρ'[i]?=some (some b)
theorem SR.le{ρ':Ro}(s:SR K H0 G0 σ H G ρ')(h:Le ρ ρ'):SR K H0 G0 σ H G ρ:=
 ⟨s.gr,s.len.trans h.1.symm,fun i d e=>s.sh i d (h.2 i _ e),fun i l e=>s.ow i l (h.2 i _ e),fun i j l l' a b e1 e2=>s.ap i j l l' a b (h.2 i _ e1) (h.2 j _ e2),
  fun i t ks vs e=>s.od i t ks vs (h.2 i _ e),fun i j t ks vs t' ks' vs' a b e1 e2=>s.apd i j t ks vs t' ks' vs' a b (h.2 i _ e1) (h.2 j _ e2)⟩
theorem SR.rebase(s:SR K H0 G0 σ H G ρ):∃H1,SR K H1 G σ H G ρ∧∀σ' H' G' ρ',SR K H1 G σ' H' G' ρ'→SR K H0 G0 σ' H' G' ρ':=by
 classical
 let own:Addr→Prop:=fun a=>∃(i:Nat),((∃l:List D,ρ[i]?=some (some (B.ow l)))∨(∃t ks vs,ρ[i]?=some (some (B.od t ks vs))))∧σ[i]?=some (some (V.ref a))
 have h0:∀a,own a→H0 a=none:=fun a hx_=>by
  obtain⟨i,e1,e2⟩:=hx_
  rcases e1 with⟨l,e1⟩ | ⟨t,ks,vs,e1⟩
  ·obtain⟨b,xs,q1,_,q3,_⟩:=s.ow i l e1
   rw[e2]at q1;cases q1;exact q3
  ·obtain⟨b,kxs,vxs,q1,_,q3,_⟩:=s.od i t ks vs e1
   rw[e2]at q1;cases q1;exact q3
 have back:∀a,(if own a then (none:Option HO)else H a)=none→H0 a=none:=fun a h=>by
  by_cases o:own a
  ·exact h0 a o
  ·rw[if_neg o]at h;exact s.gr.h.free h
 refine⟨fun a=>if own a then none else H a,⟨⟨fun b o e=>?_,Same.refl _,s.gr.s,fun _ h h'=>absurd h h'⟩,s.len,s.sh,fun i l e=>?_,s.ap,fun i t ks vs e=>?_,s.apd⟩,fun σ' H' G' ρ' t=>⟨⟨fun b o e=>?_,s.gr.g.trans t.gr.g,t.gr.s,fun b h h'=>?_⟩,t.len,t.sh,fun i l e=>?_,t.ap,fun i t1 ks vs e=>?_,t.apd⟩⟩
 ·by_cases z:own b
  ·simp only[if_pos z]at e;cases e
  ·simp only[if_neg z]at e;exact e
 ·obtain⟨a,xs,q1,q2,q3,q4,q5⟩:=s.ow i l e
  exact⟨a,xs,q1,q2,if_pos ⟨i,.inl ⟨l,e⟩,q1⟩,q4,q5⟩
 ·obtain⟨a,kxs,vxs,q1,q2,q3,q4⟩:=s.od i t ks vs e
  exact⟨a,kxs,vxs,q1,q2,if_pos ⟨i,.inr ⟨t,ks,vs,e⟩,q1⟩,q4⟩
 ·refine t.gr.h b o ?_
  have z:¬own b:=fun z=>by rw[h0 b z]at e;cases e
  show(if own b then none else H b)=some o
  rw[if_neg z];exact s.gr.h b o e
 ·by_cases z:G b=none
  ·exact back b (t.gr.n b z h')
  ·exact s.gr.n b h z
 ·obtain⟨a,xs,q1,q2,q3,q4,q5⟩:=t.ow i l e
  exact⟨a,xs,q1,q2,back a q3,q4,q5⟩
 ·obtain⟨a,kxs,vxs,q1,q2,q3,q4⟩:=t.od i t1 ks vs e
  exact⟨a,kxs,vxs,q1,q2,back a q3,q4⟩
end
noncomputable def tOf(K:W.Frag)(f:Ro→Option D):TE:=fun σ H Q=>∃ρ d H0 G0 G,f ρ=some d∧SR K H0 G0 σ H G ρ∧∀v H' G',Gr H G H' G'→Rp K G' d v→Q v H'
noncomputable def tCof(K:W.Frag)(f:Ro→Option D):TE:=fun σ H Q=>∃ρ d H0 G0 G,f ρ=some d∧SR K H0 G0 σ H G ρ∧∀v H' G',Gr H G H' G'→Ct K G' H' d v→Q v H'
noncomputable def tCAof(K:W.Frag)(f:Ro→Option (List D)):TA:=fun σ H Q=>∃ρ l H0 G0 G,f ρ=some l∧SR K H0 G0 σ H G ρ∧∀vs H' G',Gr H G H' G'→CtL K G' H' l vs→Q vs H'
noncomputable def tFof(K:W.Frag)(f:Ro→Option (List D)):TE:=fun σ H Q=>∃ρ l H0 G0 G,f ρ=some l∧SR K H0 G0 σ H G ρ∧∀p xs H' G',Gr H G H' G'→H p=none→G' p=none→H' p=some (.lst xs)→RpL K G' l xs→Q (.ref p) H'
noncomputable def tTof(K:W.Frag)(f:Ro→Option Bool):TT:=fun σ H Q=>∃ρ b H0 G0 G,f ρ=some b∧SR K H0 G0 σ H G ρ∧∀H' G',Gr H G H' G'→Q b H'
noncomputable def tAof(K:W.Frag)(f:Ro→Option (List D)):TA:=fun σ H Q=>∃ρ l H0 G0 G,f ρ=some l∧SR K H0 G0 σ H G ρ∧∀vs H' G',Gr H G H' G'→RpL K G' l vs→Q vs H'
def Wk(K:W.Frag)(J:It)(G':Hp)(ds:List D):Prop:=ds.length≤sizeLine∧∀(i:Nat) H2 G2,Same G' G2→Same G2 H2→
 (∀d,ds[i]?=some d→J.go i H2∧∀y H3,J.yld i H2 y H3→∃G3,Gr H2 G2 H3 G3∧Rp K G3 d y)∧(ds.length≤i→J.stop i H2)
noncomputable def tIof(K:W.Frag)(f:Ro→Option (List D)):TI:=fun σ H R=>∃ρ ds H0 G0 G,f ρ=some ds∧SR K H0 G0 σ H G ρ∧∀J H' G',Gr H G H' G'→Wk K J G' ds→R J H'
inductive Out where
 | nx (ρ:Ro) | rt (d:D) | bk (ρ:Ro) | ct (ρ:Ro)
noncomputable def Cont(K:W.Frag)(H0 G0:Hp)(F:Ends):Out→Prop
 | .nx ρ'=>∀σ' H' G',SR K H0 G0 σ' H' G' ρ'→F.nx σ' H'
 | .rt d=>∀v H' G',Gr H0 G0 H' G'→Rp K G' d v→F.rt v H'
 | .bk ρ'=>∀σ' H' G',SR K H0 G0 σ' H' G' ρ'→F.bk σ' H'
 | .ct ρ'=>∀σ' H' G',SR K H0 G0 σ' H' G' ρ'→F.ct σ' H'
noncomputable def sOf(K:W.Frag)(f:Ro→Option Out):TS:=fun F σ H=>∃ρ out H0 G0 G,f ρ=some out∧SR K H0 G0 σ H G ρ∧Cont K H0 G0 F out
noncomputable def gOf(K:W.Frag)(gt:D→Ro→Option Ro):TG:=fun v σ H Q=>∃d ρ ρ' H0 G0 G,gt d ρ=some ρ'∧SR K H0 G0 σ H G ρ∧Rp K G d v∧∀σ',SR K H0 G0 σ' H G ρ'→Q σ' H
noncomputable abbrev ME(X:Cx)(e:Expr)(f:Ro→Option D):Prop:=PE X e (tOf X.K f)
noncomputable abbrev MC(X:Cx)(e:Expr)(f:Ro→Option D):Prop:=PE X e (tCof X.K f)
noncomputable abbrev MCA(X:Cx)(es:List Expr)(f:Ro→Option (List D)):Prop:=PA X es (tCAof X.K f)
noncomputable abbrev MF(X:Cx)(e:Expr)(f:Ro→Option (List D)):Prop:=PE X e (tFof X.K f)
noncomputable abbrev MT(X:Cx)(e:Expr)(f:Ro→Option Bool):Prop:=PT X e (tTof X.K f)
noncomputable abbrev MA(X:Cx)(es:List Expr)(f:Ro→Option (List D)):Prop:=PA X es (tAof X.K f)
noncomputable abbrev MI(X:Cx)(tg iter:Expr)(f:Ro→Option (List D)):Prop:=PI X tg iter (tIof X.K f)
noncomputable abbrev MS(X:Cx)(st:Stmt)(f:Ro→Option Out):Prop:=PS X st (sOf X.K f)
noncomputable abbrev MB(X:Cx)(sts:List Stmt)(f:Ro→Option Out):Prop:=PSs X sts (sOf X.K f)
noncomputable abbrev MG(X:Cx)(tg:Expr)(gt:D→Ro→Option Ro):Prop:=PG X tg (gOf X.K gt)
section
variable {X:Cx}
theorem PE.imp{e:Expr}{t t':TE}(h:PE X e t)(i:∀σ H Q,t' σ H Q→t σ H Q):PE X e t':=fun pins s σ H Q I hw=>h pins s σ H Q I (i σ H Q hw)
theorem PT.imp{e:Expr}{t t':TT}(h:PT X e t)(i:∀σ H Q,t' σ H Q→t σ H Q):PT X e t':=fun pins s σ H Q I hw=>h pins s σ H Q I (i σ H Q hw)
theorem PA.imp{es:List Expr}{t t':TA}(h:PA X es t)(i:∀σ H Q,t' σ H Q→t σ H Q):PA X es t':=fun pos pins s σ H Q I hw=>h pos pins s σ H Q I (i σ H Q hw)
theorem PS.imp{st:Stmt}{t t':TS}(h:PS X st t)(i:∀F σ H,t' F σ H→t F σ H):PS X st t':=fun pins s σ H F I hw=>h pins s σ H F I (i F σ H hw)
theorem PSs.imp{st:List Stmt}{t t':TS}(h:PSs X st t)(i:∀F σ H,t' F σ H→t F σ H):PSs X st t':=fun pins s σ H F I hw=>h pins s σ H F I (i F σ H hw)
theorem PI.imp{tg e:Expr}{t t':TI}(h:PI X tg e t)(i:∀σ H R,t' σ H R→t σ H R):PI X tg e t':=fun pins s σ H R I hw=>h pins s σ H R I (i σ H R hw)
theorem PG.imp{e:Expr}{t t':TG}(h:PG X e t)(i:∀v σ H Q,t' v σ H Q→t v σ H Q):PG X e t':=fun pins s σ H v u Q I r hw=>h pins s σ H v u Q I r (i v σ H Q hw)
variable {H0 G0 H G:Hp} {σ:L2.St} {ρ:Ro}
theorem tOf.at{f:Ro→Option D}{d:D}{Q:VK}(e:f ρ=some d)(s:SR K H0 G0 σ H G ρ)(h:∀v H' G',Gr H G H' G'→Rp K G' d v→SR K H0 G0 σ H' G' ρ→Q v H'):tOf K f σ H Q:=
 ⟨ρ,d,H0,G0,G,e,s,fun v H' G' g r=>h v H' G' g r (s.grow g)⟩
theorem tCof.at{f:Ro→Option D}{d:D}{Q:VK}(e:f ρ=some d)(s:SR K H0 G0 σ H G ρ)(h:∀v H' G',Gr H G H' G'→Ct K G' H' d v→SR K H0 G0 σ H' G' ρ→Q v H'):tCof K f σ H Q:=
 ⟨ρ,d,H0,G0,G,e,s,fun v H' G' g r=>h v H' G' g r (s.grow g)⟩
theorem tCAof.at{f:Ro→Option (List D)}{l:List D}{Q:List V→Hp→Prop}(e:f ρ=some l)(s:SR K H0 G0 σ H G ρ)(h:∀vs H' G',Gr H G H' G'→CtL K G' H' l vs→SR K H0 G0 σ H' G' ρ→Q vs H'):tCAof K f σ H Q:=
 ⟨ρ,l,H0,G0,G,e,s,fun v H' G' g r=>h v H' G' g r (s.grow g)⟩
theorem ME.mc{e:Expr}{f:Ro→Option D}(h:ME X e f):MC X e f:=PE.imp h fun σ H Q ⟨ρ,d,H0,G0,G,e,s,h⟩=>⟨ρ,d,H0,G0,G,e,s,fun v H' G' g r=>h v H' G' g (.of g.s r)⟩
theorem tTof.at{f:Ro→Option Bool}{b:Bool}{Q:Bool→Hp→Prop}(e:f ρ=some b)(s:SR K H0 G0 σ H G ρ)(h:∀H' G',Gr H G H' G'→SR K H0 G0 σ H' G' ρ→Q b H'):tTof K f σ H Q:=
 ⟨ρ,b,H0,G0,G,e,s,fun H' G' g=>h H' G' g (s.grow g)⟩
theorem tAof.at{f:Ro→Option (List D)}{l:List D}{Q:List V→Hp→Prop}(e:f ρ=some l)(s:SR K H0 G0 σ H G ρ)(h:∀vs H' G',Gr H G H' G'→RpL K G' l vs→SR K H0 G0 σ H' G' ρ→Q vs H'):tAof K f σ H Q:=
 ⟨ρ,l,H0,G0,G,e,s,fun v H' G' g r=>h v H' G' g r (s.grow g)⟩
end
end
section
variable {K:W.Frag}
noncomputable def b2{α:Type}(fa fb:Ro→Option D)(g:D→D→Option α):Ro→Option α:=fun ρ=>(fa ρ).bind fun x=>(fb ρ).bind fun y=>g x y
noncomputable def b1{α:Type}(fa:Ro→Option D)(g:D→Option α):Ro→Option α:=fun ρ=>(fa ρ).bind g
theorem Yj9{α:Type}{fa fb:Ro→Option D}{g:D→D→Option α}{ρ:Ro}{r:α}(h:b2 fa fb g ρ=some r):∃x y,fa ρ=some x∧fb ρ=some y∧g x y=some r:=by
 unfold b2 at h
 obtain⟨x,h1,h⟩:=qa h
 obtain⟨y,h2,h⟩:=qa h
 exact⟨x,y,h1,h2,h⟩
theorem Ych{α:Type}{fa:Ro→Option D}{g:D→Option α}{ρ:Ro}{r:α}(h:b1 fa g ρ=some r):∃x,fa ρ=some x∧g x=some r:=by
 unfold b1 at h
 obtain⟨x,h1,h⟩:=qa h
 exact⟨x,h1,h⟩
def Sem2(K:W.Frag)(r:R2)(g:D→D→Option D):Prop:=∀(x y:V) (dx dy d:D) (H G:Hp) (Q:VK),g dx dy=some d→Same G H→Ct K G H dx x→Ct K G H dy y→(∀v H' G',Gr H G H' G'→Rp K G' d v→Q v H')→r x y H Q
def Yg6(K:W.Frag)(r:R2)(g:D→D→Option Bool):Prop:=∀(x y:V) (dx dy:D) (b:Bool) (H G:Hp) (Q:VK),g dx dy=some b→Same G H→Ct K G H dx x→Ct K G H dy y→Q (.bl b) H→r x y H Q
def SemC(K:W.Frag)(r:List V→Hp→VK→Prop)(g:List D→Option D):Prop:=∀(vs:List V) (ds:List D) (d:D) (H G:Hp) (Q:VK),g ds=some d→Same G H→CtL K G H ds vs→(∀v H' G',Gr H G H' G'→Rp K G' d v→Q v H')→r vs H Q
def SemF(K:W.Frag)(r:List V→Hp→VK→Prop)(g:List D→Option (List D)):Prop:=∀(vs:List V) (ds l:List D) (H G:Hp) (Q:VK),g ds=some l→Same G H→CtL K G H ds vs→
 (∀p xs H' G',Gr H G H' G'→H p=none→G' p=none→H' p=some (.lst xs)→RpL K G' l xs→Q (.ref p) H')→r vs H Q
section
variable {X:Cx} {a b c e:Expr} {es:List Expr} {fa fb fc f:Ro→Option D} {ga:Ro→Option (List D)} {pos:Pos}
noncomputable def getV(i:Nat):Ro→Option D:=fun ρ=>match ρ[i]? with
 | some (some (B.sh d))=>some d
 | _=>none
noncomputable def getO(i:Nat):Ro→Option (List D):=fun ρ=>match ρ[i]? with
 | some (some (B.ow l))=>some l
 | _=>none
theorem Yvi{i:Nat}{ρ:Ro}{d:D}(h:getV i ρ=some d):ρ[i]?=some (some (B.sh d)):=by
 unfold getV at h
 split at h
 ·cases h;assumption
 ·cases h
theorem Yg7{i:Nat}{ρ:Ro}{l:List D}(h:getO i ρ=some l):ρ[i]?=some (some (B.ow l)):=by
 unfold getO at h
 split at h
 ·cases h;assumption
 ·cases h
theorem y42(i:Nat){x:Str}(hN:X.N[i]?=some x:=by rfl)(hv:Vis X.env.scope x:=by first | exact Or.inl rfl | exact Or.inr (Or.inl rfl) | exact Or.inr (Or.inr rfl))(hd:(x==("__debug__":Str))=false:=by decide)
 (hcd:(x==("__classdict__":Str))=false:=by decide):ME X (.Name x pos) (getV i):=
 PE.imp (Yol hN hv hd hcd) fun σ H Q hx_=>by
  obtain⟨ρ,d,H0,G0,G,e,s,h⟩:=hx_
  obtain⟨v,h1,h2⟩:=s.sh i d (Yvi e)
  exact⟨v,h1,h v H G (.refl s.seen) h2⟩
noncomputable def getC(i:Nat):Ro→Option D:=fun ρ=>match ρ[i]? with
 | some (some (B.sh d))=>some d
 | some (some (B.ow l))=>some (.lst l)
 | some (some (B.od t ks vs))=>some (.dct t ks vs)
 | _=>none
theorem y43(i:Nat){x:Str}(hN:X.N[i]?=some x:=by rfl)(hv:Vis X.env.scope x:=by first | exact Or.inl rfl | exact Or.inr (Or.inl rfl) | exact Or.inr (Or.inr rfl))(hd:(x==("__debug__":Str))=false:=by decide)
 (hcd:(x==("__classdict__":Str))=false:=by decide):MC X (.Name x pos) (getC i):=
 PE.imp (Yol hN hv hd hcd) fun σ H Q hx_=>by
  obtain⟨ρ,d,H0,G0,G,e,s,h⟩:=hx_
  unfold getC at e
  split at e
  ·rename_i d' hd'
   cases e
   obtain⟨v,h1,h2⟩:=s.sh i _ hd'
   exact⟨v,h1,h v H G (.refl s.seen) (.of s.seen h2)⟩
  ·rename_i l hl
   cases e
   obtain⟨a,xs,h1,h2,h3,h4,h5⟩:=s.ow i l hl
   exact⟨_,h1,h _ H G (.refl s.seen) (by rw[Ct];exact⟨a,xs,rfl,.inl h4,h5⟩)⟩
  ·rename_i t ks vs hl
   cases e
   obtain⟨a,kxs,vxs,h1,h2,h3,h4,h5⟩:=s.od i t ks vs hl
   exact⟨_,h1,h _ H G (.refl s.seen) (by rw[Ct];exact⟨a,kxs,vxs,rfl,h4,h5⟩)⟩
  ·cases e
noncomputable def kD(d:D):Ro→Option D:=fun _=>some d
theorem Yg8{v:V}{d:D}{t:TE}(h:PE X e t)(ht:∀σ H Q,Q v H→t σ H Q)(hr:∀G,Rp X.K G d v):ME X e (kD d):=
 PE.imp h fun σ H Q hx_=>by
  obtain⟨ρ,d',H0,G0,G,e,s,h⟩:=hx_
  cases e
  exact ht σ H Q (h v H G (.refl s.seen) (hr G))
theorem y44{i:Int}{j}:ME X (.Constant (.int i) j pos) (kD (.int i)):=Yg8 (v:=.int i) y38 (fun _ _ _ q=>q) fun _=>by rw[Rp]
theorem y7n{k:Bool}{j}:ME X (.Constant (.bool k) j pos) (kD (.bl k)):=Yg8 (v:=.bl k) y64 (fun _ _ _ q=>q) fun _=>by rw[Rp]
theorem y45{j}:ME X (.Constant .none j pos) (kD .non):=Yg8 (v:=.non) y39 (fun _ _ _ q=>q) fun _=>by rw[Rp]
theorem y46{x:Str}{j}(hx:PyData.strOk x=true:=by decide +kernel):ME X (.Constant (.str x) j pos) (kD (.str x)):=Yg8 (v:=.str x) y0a (fun _ _ _ q=>q) fun _=>by rw[Rp];exact⟨rfl,hx⟩
theorem y0h{r:R2}{g:D→D→Option D}(hr:Sem2 K r g){σ:L2.St}{H:Hp}{Q:VK}(h:tOf K (b2 fa fb g) σ H Q):tOp r (tCof K fa) (tCof K fb) σ H Q:=by
 obtain⟨ρ,d,H0,G0,G,e,s,h⟩:=h
 obtain⟨dx,dy,h1,h2,h3⟩:=Yj9 e
 exact tCof.at h1 s fun v H1 G1 g1 r1 s1=>tCof.at h2 s1 fun u H2 G2 g2 r2 s2=>hr v u dx dy d H2 G2 Q h3 s2.seen (r1.grow g2) r2 fun w H' G' g3 r3=>h w H' G' ((g1.trans g2).trans g3) r3
theorem y2b{r:R2}{g:D→D→Option Bool}(hr:Yg6 K r g){σ:L2.St}{H:Hp}{Q:Bool→Hp→Prop}(h:tTof K (b2 fa fb g) σ H Q):y4o (tOp r (tCof K fa) (tCof K fb)) σ H Q:=by
 obtain⟨ρ,d,H0,G0,G,e,s,h⟩:=h
 obtain⟨dx,dy,h1,h2,h3⟩:=Yj9 e
 exact tCof.at h1 s fun v H1 G1 g1 r1 s1=>tCof.at h2 s1 fun u H2 G2 g2 r2 s2=>hr v u dx dy d H2 G2 _ h3 s2.seen (r1.grow g2) r2 ⟨d,rfl,h H2 G2 (g1.trans g2)⟩
noncomputable def mB(f:Ro→Option Bool):Ro→Option D:=fun ρ=>(f ρ).map D.bl
theorem Yq4{f:Ro→Option Bool}{ρ:Ro}{d:D}(h:mB f ρ=some d):∃b,f ρ=some b∧d=.bl b:=by
 unfold mB at h
 obtain⟨b,h1,h2⟩:=qb h
 exact⟨b,h1,h2.symm⟩
theorem Yyu{r:R2}{g:D→D→Option Bool}(hr:Yg6 K r g){σ:L2.St}{H:Hp}{Q:VK}(h:tOf K (mB (b2 fa fb g)) σ H Q):tOp r (tCof K fa) (tCof K fb) σ H Q:=by
 obtain⟨ρ,d,H0,G0,G,e,s,h⟩:=h
 obtain⟨b,eb,rfl⟩:=Yq4 e
 obtain⟨dx,dy,h1,h2,h3⟩:=Yj9 eb
 exact tCof.at h1 s fun v H1 G1 g1 r1 s1=>tCof.at h2 s1 fun u H2 G2 g2 r2 s2=>hr v u dx dy b H2 G2 _ h3 s2.seen (r1.grow g2) r2 (h _ H2 G2 (g1.trans g2) (by rw[Rp]))
theorem Yo2{op:Operator}{r:R2}{g:D→D→Option D}(ho:OpR X (binaryOp op) r)(hr:Sem2 X.K r g)(ha:MC X a fa)(hb:MC X b fb):ME X (.BinOp a op b pos) (b2 fa fb g):=PE.imp (y1j ho ha hb) fun _ _ _ h=>y0h hr h
theorem Yf9{op:CmpOp}{r:R2}{g:D→D→Option Bool}(ho:OpR X (compareOp op) r)(hr:Yg6 X.K r g)(ha:MC X a fa)(hb:MC X b fb)(hm:behindInMarks op b=false):ME X (.Compare a [op] [b] pos) (mB (b2 fa fb g)):=PE.imp (y1m ho ha hb hm) fun _ _ _ h=>Yyu hr h
theorem Yg9{op:CmpOp}{r:R2}{g:D→D→Option Bool}(ho:OpR X (compareOp op) r)(hr:Yg6 X.K r g)(ha:MC X a fa)(hb:MC X b fb)(hm:behindInMarks op b=false):MT X (.Compare a [op] [b] pos) (b2 fa fb g):=PT.imp (Yu4 ho ha hb hm) fun _ _ _ h=>y2b hr h
theorem y7o{r:R2}{g:D→D→Option D}(hi:IxR X r)(hr:Sem2 X.K r g)(ha:MC X a fa)(hb:MC X b fb)(hs:Ymw b):ME X (.Subscript a b pos) (b2 fa fb g):=PE.imp (y7l hi ha hb hs) fun _ _ _ h=>y0h hr h
noncomputable def i2(C:Int→Int→Bool)(g:Int→Int→Int):D→D→Option D
 | .int i,.int j=>if C i j=true then some (.int (g i j))else none
 | _,_=>none
noncomputable def i2b(g:Int→Int→Bool):D→D→Option Bool
 | .int i,.int j=>some (g i j)
 | _,_=>none
theorem Yvj{C:Int→Int→Prop}{Cb:Int→Int→Bool}(hC:∀i j,Cb i j=true→C i j){g:Int→Int→Int}:Sem2 K (rI C fun i j=>.int (g i j)) (i2 Cb g):=by
 intro x y dx dy d H G Q h s rx ry q
 unfold i2 at h
 split at h
 ·split at h
  ·rename_i i j hc
   cases h
   rw[Ct]at rx ry
   subst rx;subst ry
   exact⟨i,j,rfl,rfl,hC i j hc,q _ H G (.refl s) (by rw[Rp])⟩
  ·cases h
 ·cases h
theorem Yvk{g:Int→Int→Int}:Sem2 K (rI0 fun i j=>.int (g i j)) (i2 (fun _ _=>true) g):=by
 intro x y dx dy d H G Q h s rx ry q
 unfold i2 at h
 split at h
 ·split at h
  ·rename_i i j hc
   cases h
   rw[Ct]at rx ry
   subst rx;subst ry
   exact⟨i,j,rfl,rfl,q _ H G (.refl s) (by rw[Rp])⟩
  ·cases h
 ·cases h
theorem Ydo{g:Int→Int→Bool}:Yg6 K (rI0 fun i j=>.bl (g i j)) (i2b g):=by
 intro x y dx dy d H G Q h s rx ry q
 unfold i2b at h
 split at h
 ·rename_i i j
  cases h
  rw[Ct]at rx ry
  subst rx;subst ry
  exact⟨i,j,rfl,rfl,q⟩
 ·cases h
noncomputable def addI:D→D→Option D:=i2 (fun _ _=>true) fun i j=>i+j
noncomputable def subI:D→D→Option D:=i2 (fun _ _=>true) fun i j=>i - j
noncomputable def mulI:D→D→Option D:=i2 (fun i j=>(decide (-(2 ^ 64) < i)&&decide (i < 2 ^ 64))||(decide (-(2 ^ 64) < j)&&decide (j < 2 ^ 64))) fun i j=>i * j
noncomputable def divI:D→D→Option D:=i2 (fun _ j=>decide (0 < j)&&decide (j < 1073741824)) fun i j=>i / j
noncomputable def modI:D→D→Option D:=i2 (fun _ j=>decide (0 < j)) fun i j=>i % j
theorem y47(ha:MC X a fa)(hb:MC X b fb):ME X (.BinOp a .Sub b pos) (b2 fa fb subI):=Yo2 y4j Yvk ha hb
theorem y48(ha:MC X a fa)(hb:MC X b fb):ME X (.BinOp a .Mult b pos) (b2 fa fb mulI):=Yo2 y4k (Yvj fun i j h=>by
 simp only[Bool.or_eq_true,Qi,decide_eq_true_eq]at h
 exact h) ha hb
theorem y49(ha:MC X a fa)(hb:MC X b fb):ME X (.BinOp a .FloorDiv b pos) (b2 fa fb divI):=Yo2 y1k (Yvj fun i j h=>by
 simp only[Qi,decide_eq_true_eq]at h
 exact h) ha hb
theorem y5a(ha:MC X a fa)(hb:MC X b fb):ME X (.BinOp a .Mod b pos) (b2 fa fb modI):=Yo2 y4l (Yvj fun i j h=>of_decide_eq_true h) ha hb
noncomputable def ltI:=i2b fun i j=>decide (i < j)
noncomputable def leI:=i2b fun i j=>decide (i≤j)
noncomputable def gtI:=i2b fun i j=>decide (j < i)
noncomputable def geI:=i2b fun i j=>decide (j≤i)
theorem y7p(ha:MC X a fa)(hb:MC X b fb):ME X (.Compare a [.Lt] [b] pos) (mB (b2 fa fb ltI)):=Yf9 y1l Ydo ha hb (Ydb _)
theorem y7q(ha:MC X a fa)(hb:MC X b fb):ME X (.Compare a [.LtE] [b] pos) (mB (b2 fa fb leI)):=Yf9 Yyg Ydo ha hb (Ydb _)
theorem y7r(ha:MC X a fa)(hb:MC X b fb):ME X (.Compare a [.Gt] [b] pos) (mB (b2 fa fb gtI)):=Yf9 y4m Ydo ha hb (Ydb _)
theorem y7s(ha:MC X a fa)(hb:MC X b fb):ME X (.Compare a [.GtE] [b] pos) (mB (b2 fa fb geI)):=Yf9 y4n Ydo ha hb (Ydb _)
theorem y7t(ha:MC X a fa)(hb:MC X b fb):MT X (.Compare a [.Lt] [b] pos) (b2 fa fb ltI):=Yg9 y1l Ydo ha hb (Ydb _)
theorem y7u(ha:MC X a fa)(hb:MC X b fb):MT X (.Compare a [.Gt] [b] pos) (b2 fa fb gtI):=Yg9 y4m Ydo ha hb (Ydb _)
theorem y7v(ha:MC X a fa)(hb:MC X b fb):MT X (.Compare a [.GtE] [b] pos) (b2 fa fb geI):=Yg9 y4n Ydo ha hb (Ydb _)
mutual
noncomputable def dep:D→Nat
 | .tup l=>depL l+1
 | .lst l=>depL l+1
 | .scr _=>1
 | .dct _ _ _=>1000
 | _=>0
noncomputable def depL:List D→Nat
 | []=>0
 | d::l=>max (dep d) (depL l)
end
mutual
theorem Yci:∀d:D,(toPy d).depth≤dep d
 | .non=>by simp[toPy,PyData.depth,dep]
 | .bl b=>by simp[toPy,PyData.depth,dep]
 | .int b=>by simp[toPy,PyData.depth,dep]
 | .str b=>by simp[toPy,PyData.depth,dep]
 | .tup l=>by have:=Ydp l;simp[toPy,PyData.depth,dep];lia
 | .lst l=>by have:=Ydp l;simp[toPy,PyData.depth,dep];lia
 | .scr ns=>by rw[toPy,PyData.depth,dep,W.ke_depthAll];exact qt _
 | .dct _ _ _=>by simp[toPy,PyData.depth,dep]
theorem Ydp:∀l:List D,PyData.depthAll (Ydd l)≤depL l
 | []=>by simp[Ydd,PyData.depthAll,depL]
 | d::l=>by have h1:=Yci d;have h2:=Ydp l;simp[Ydd,PyData.depthAll,depL];lia
end
section
variable {pins:List (Addr × Obj)} {σ:L2.St} {H:Hp} {s:Shared}
mutual
theorem Yde(I:Inv X pins σ H s):∀{d:D} {v:V} {u:Value},dep d≤100→Rp X.K H d v→RelV v u→∃as,Reads s.heap u (toPy d) as∧(toPy d).canLay0=true
 | .non,v,u,_,r,q=>by
   rw[Rp]at r;subst r
   cases q
   exact⟨_,by rw[toPy];exact .none,by simp[toPy,PyData.canLay0]⟩
 | .bl b,v,u,_,r,q=>by
   rw[Rp]at r;subst r
   cases q
   exact⟨_,by rw[toPy];exact .bool b,by simp[toPy,PyData.canLay0]⟩
 | .int i,v,u,_,r,q=>by
   rw[Rp]at r;subst r
   obtain⟨t,rfl⟩:=q
   exact⟨_,by rw[toPy];exact .int i t,by simp[toPy,PyData.canLay0]⟩
 | .str x,v,u,_,r,q=>by
   rw[Rp]at r;obtain⟨rfl,hx⟩:=r
   obtain⟨t,rfl⟩:=q
   exact⟨_,by rw[toPy];exact .str x t,by simp[toPy,PyData.canLay0,hx]⟩
 | .tup l,v,u,hd,r,q=>by
   rw[Rp]at r
   obtain⟨a,xs,rfl,g,rl⟩:=r
   cases q
   obtain⟨_,its,rv,ht⟩:=(show ObjOk X.prog X.w H s.heap a (.tup xs) from I.hok a _ g)
   obtain⟨o,h1,h2,n,h3⟩:=ht
   obtain⟨as,q,hc⟩:=Yka I (by simp only[dep]at hd;lia) rl rv
   exact⟨_,by rw[toPy];exact .tuple h1 h2 h3 (by simpa using q),by simpa [toPy,PyData.canLay0]using hc⟩
 | .lst l,v,u,hd,r,q=>by
   rw[Rp]at r
   obtain⟨a,xs,rfl,g,rl⟩:=r
   cases q
   obtain⟨its,rv,pl,_⟩:=I.list (.inl g)
   obtain⟨o,h1,h2,n,h3⟩:=pl.isList
   obtain⟨as,q,hc⟩:=Yka I (by simp only[dep]at hd;lia) rl rv
   exact⟨_,by rw[toPy];exact .list h1 h2 h3 (by simpa using q),by simpa [toPy,PyData.canLay0]using hc⟩
 | .dct _ _ _,v,u,hd,r,q=>by simp[dep]at hd
 | .scr ns,v,u,_,r,q=>by
   rw[Rp]at r
   obtain⟨a,rfl,g⟩:=r
   cases q
   obtain⟨its,rv,pl,_⟩:=I.list g
   exact⟨_,by rw[toPy];exact W.reads_of_ints pl.isList (Yfy rv),by rw[toPy];simp[PyData.canLay0,W.ke_canLayAll0]⟩
theorem Yka(I:Inv X pins σ H s):∀{l:List D} {xs:List V} {us:List Value},depL l≤100→RpL X.K H l xs→Vals xs us→∃as,ReadsAll s.heap us (Ydd l) as∧PyData.canLayAll0 (Ydd l)=true
 | [],xs,us,_,r,q=>by
   rw[RpL]at r;subst r
   cases q
   exact⟨_,by rw[Ydd];exact .nil,by simp[Ydd,PyData.canLayAll0]⟩
 | d::l,xs,us,hd,r,q=>by
   rw[RpL]at r
   obtain⟨x,xs,rfl,r1,r2⟩:=r
   rw[depL]at hd
   cases q with
   | cons q1 q2=>
     obtain⟨as,h1,h2⟩:=Yde I (by lia) r1 q1
     obtain⟨bs,h3,h4⟩:=Yka I (by lia) r2 q2
     exact⟨_,by rw[Ydd];exact .cons h1 h3,by simp[Ydd,PyData.canLayAll0,h2,h4]⟩
end
end
theorem Yep(l:List D)(d:D):((Ydd l).any fun y=>PyData.eqv y (toPy d))=l.any fun y=>eqD y d:=by
 induction l with
 | nil=>simp[Ydd]
 | cons e l ih=>
   rw[Ydd,List.any_cons,List.any_cons,ih]
   rfl
noncomputable def eqM(neg:Bool):D→D→Option Bool:=fun d e=>if dep d≤60∧dep e≤60 then some (if neg then !eqD d e else eqD d e)else none
noncomputable def rEqD(K:W.Frag)(neg:Bool):R2:=fun x y H Q=>∃d e,Rp K H d x∧Rp K H e y∧(dep d≤60∧dep e≤60)∧Q (.bl (if neg then !eqD d e else eqD d e)) H
theorem y0i(hu:X.A.units+64 < cLine):OpR X (compareOp .Eq) (rEqD X.K false):=by
 intro pins s σ H x y v u Q I rx ry h
 obtain⟨d,e,r1,r2,hd,q⟩:=h
 obtain⟨as,h1,h2⟩:=Yde I (by lia) r1 rx
 obtain⟨bs,h3,h4⟩:=Yde I (by lia) r2 ry
 exact SeqAt.eqOverData X.prog X.w X.A X.xe s v u _ _ as bs _ h1 h3 h2 h4 (by have:=Yci d;have:=Yci e;lia) ⟨.bl _,H,I,rfl,by exact q⟩
theorem y0j(hu:X.A.units+64 < cLine):OpR X (compareOp .NotEq) (rEqD X.K true):=by
 intro pins s σ H x y v u Q I rx ry h
 obtain⟨d,e,r1,r2,hd,q⟩:=h
 obtain⟨as,h1,h2⟩:=Yde I (by lia) r1 rx
 obtain⟨bs,h3,h4⟩:=Yde I (by lia) r2 ry
 exact SeqAt.neOverData X.prog X.w X.A X.xe s v u _ _ as bs _ h1 h3 h2 h4 (by have:=Yci d;have:=Yci e;lia) ⟨.bl _,H,I,rfl,by exact q⟩
theorem Ym4{neg:Bool}:Yg6 K (rEqD K neg) (eqM neg):=by
 intro x y dx dy b H G Q h s rx ry q
 unfold eqM at h
 split at h
 ·cases h
  exact⟨dx,dy,rx.rp s,ry.rp s,by assumption,q⟩
 ·cases h
theorem y7w(hu:X.A.units+64 < cLine)(ha:MC X a fa)(hb:MC X b fb):ME X (.Compare a [.Eq] [b] pos) (mB (b2 fa fb (eqM false))):=Yf9 (y0i hu) Ym4 ha hb (Ydb _)
theorem y7x(hu:X.A.units+64 < cLine)(ha:MC X a fa)(hb:MC X b fb):ME X (.Compare a [.NotEq] [b] pos) (mB (b2 fa fb (eqM true))):=Yf9 (y0j hu) Ym4 ha hb (Ydb _)
theorem y7y(hu:X.A.units+64 < cLine)(ha:MC X a fa)(hb:MC X b fb):MT X (.Compare a [.Eq] [b] pos) (b2 fa fb (eqM false)):=Yg9 (y0i hu) Ym4 ha hb (Ydb _)
theorem y7z(hu:X.A.units+64 < cLine)(ha:MC X a fa)(hb:MC X b fb):MT X (.Compare a [.NotEq] [b] pos) (b2 fa fb (eqM true)):=Yg9 (y0j hu) Ym4 ha hb (Ydb _)
noncomputable def Yn:D→Option (List D)
 | .tup l=>some l
 | .lst l=>some l
 | .scr ns=>some (ns.map D.int)
 | _=>none
noncomputable def inD(d:D)(l:List D):Bool:=l.any fun y=>eqD y d
noncomputable def inM(neg:Bool):D→D→Option Bool:=fun d c=>(Yn c).bind fun l=>if depL l≤60∧dep d≤60 then some (if neg then !inD d l else inD d l)else none
noncomputable def rInD(K:W.Frag)(neg:Bool):R2:=fun x y H Q=>∃d c l,Rp K H d x∧Rp K H c y∧Yn c=some l∧(depL l≤60∧dep d≤60)∧Q (.bl (if neg then !inD d l else inD d l)) H
theorem Yax{c:D}{l:List D}(h:Yn c=some l):c=.tup l∨c=.lst l∨∃ns,c=.scr ns∧l=ns.map D.int:=by
 cases c with
 | tup m=>cases h;exact .inl rfl
 | lst m=>cases h;exact .inr (.inl rfl)
 | scr ns=>cases h;exact .inr (.inr ⟨ns,rfl,rfl⟩)
 | non=>cases h
 | bl _=>cases h
 | int _=>cases h
 | str _=>cases h
 | dct _ _ _=>cases h
theorem Yh3:∀ns:List Int,Ydd (ns.map D.int)=ns.map PyData.int
 | []=>by simp[Ydd]
 | n::ns=>by simp[Ydd,toPy,Yh3 ns]
theorem y5b(hu:X.A.units+64 < cLine):OpR X (compareOp .In) (rInD X.K false):=by
 intro pins s σ H x y v u Q I rx ry h
 obtain⟨d,c,l,r1,r2,hc,hd,q⟩:=h
 obtain⟨as,h1,h2⟩:=Yde I (by lia) r1 rx
 have hdc:dep c≤61:=by
  rcases Yax hc with rfl | rfl | ⟨ns,rfl,rfl⟩
  ·rw[dep];lia
  ·rw[dep];lia
  ·rw[dep];lia
 obtain⟨bs,h3,h4⟩:=Yde I (by lia) r2 ry
 have hdd:=Yci d
 have hdl:=Ydp l
 rcases Yax hc with rfl | rfl | ⟨ns,rfl,rfl⟩
 ·rw[toPy]at h3 h4
  exact SeqAt.in_tuple_reads h3 h1 (by simpa [PyData.canLay0]using h4) h2 (by lia) ⟨.bl _,H,I,rfl,by rw[Yep];exact q⟩
 ·rw[toPy]at h3 h4
  exact SeqAt.in_list_reads h3 h1 (by simpa [PyData.canLay0]using h4) h2 (by lia) ⟨.bl _,H,I,rfl,by rw[Yep];exact q⟩
 ·rw[toPy,←Yh3]at h3 h4
  exact SeqAt.in_list_reads h3 h1 (by simpa [PyData.canLay0]using h4) h2 (by lia) ⟨.bl _,H,I,rfl,by rw[Yep];exact q⟩
theorem Yo3(hu:X.A.units+64 < cLine):OpR X (compareOp .NotIn) (rInD X.K true):=by
 intro pins s σ H x y v u Q I rx ry h
 obtain⟨d,c,l,r1,r2,hc,hd,q⟩:=h
 obtain⟨as,h1,h2⟩:=Yde I (by lia) r1 rx
 have hdc:dep c≤61:=by
  rcases Yax hc with rfl | rfl | ⟨ns,rfl,rfl⟩
  ·rw[dep];lia
  ·rw[dep];lia
  ·rw[dep];lia
 obtain⟨bs,h3,h4⟩:=Yde I (by lia) r2 ry
 have hdd:=Yci d
 have hdl:=Ydp l
 rcases Yax hc with rfl | rfl | ⟨ns,rfl,rfl⟩
 ·rw[toPy]at h3 h4
  exact SeqAt.notIn_tuple_reads h3 h1 (by simpa [PyData.canLay0]using h4) h2 (by lia) ⟨.bl _,H,I,rfl,by rw[Yep];exact q⟩
 ·rw[toPy]at h3 h4
  exact SeqAt.notIn_list_reads h3 h1 (by simpa [PyData.canLay0]using h4) h2 (by lia) ⟨.bl _,H,I,rfl,by rw[Yep];exact q⟩
 ·rw[toPy,←Yh3]at h3 h4
  exact SeqAt.notIn_list_reads h3 h1 (by simpa [PyData.canLay0]using h4) h2 (by lia) ⟨.bl _,H,I,rfl,by rw[Yep];exact q⟩
theorem Yq5{neg:Bool}:Yg6 K (rInD K neg) (inM neg):=by
 intro x y dx dy b H G Q h s rx ry q
 unfold inM at h
 obtain⟨l,h1,h⟩:=qa h
 split at h
 ·cases h
  exact⟨dx,dy,l,rx.rp s,ry.rp s,h1,by assumption,q⟩
 ·cases h
theorem y70(hu:X.A.units+64 < cLine)(ha:MC X a fa)(hb:MC X b fb)(hm:behindInMarks .In b=false:=by with_unfolding_all rfl):ME X (.Compare a [.In] [b] pos) (mB (b2 fa fb (inM false))):=Yf9 (y5b hu) Yq5 ha hb hm
theorem y5c(hu:X.A.units+64 < cLine)(ha:MC X a fa)(hb:MC X b fb)(hm:behindInMarks .NotIn b=false:=by with_unfolding_all rfl):ME X (.Compare a [.NotIn] [b] pos) (mB (b2 fa fb (inM true))):=Yf9 (Yo3 hu) Yq5 ha hb hm
theorem y5d(hu:X.A.units+64 < cLine)(ha:MC X a fa)(hb:MC X b fb)(hm:behindInMarks .NotIn b=false:=by with_unfolding_all rfl):MT X (.Compare a [.NotIn] [b] pos) (b2 fa fb (inM true)):=Yg9 (Yo3 hu) Yq5 ha hb hm
end
end
section
variable {K:W.Frag}
section
variable {X:Cx} {a b c e:Expr} {es:List Expr} {fa fb f:Ro→Option D} {fc fd:Ro→Option Bool} {ga:Ro→Option (List D)} {pos:Pos} {rest:List Expr}
noncomputable def truD:D→Option Bool
 | .non=>some false
 | .bl b=>some b
 | .int i=>some (i != 0)
 | .tup l=>some (!l.isEmpty)
 | .lst l=>some (!l.isEmpty)
 | .scr ns=>some (!ns.isEmpty)
 | .str _=>none
 | .dct _ _ _=>none
theorem y2c{d:D}{v:V}{k:Bool}{H G:Hp}(h:truD d=some k)(r:Ct X.K G H d v):TruV X.K v H k:=by
 cases d with
 | non=>rw[Ct]at r;subst r;cases h;rfl
 | bl b=>rw[Ct]at r;subst r;cases h;rfl
 | int i=>rw[Ct]at r;subst r;cases h;rfl
 | str x=>cases h
 | dct _ _ _=>cases h
 | tup l=>
   rw[Ct]at r
   obtain⟨a,xs,rfl,g,rl⟩:=r
   cases h
   refine .inr (.inl ⟨xs,.inl (.inl g.1),?_⟩)
   have:=rl.length
   cases l<;>cases xs<;>simp_all
 | lst l=>
   rw[Ct]at r
   obtain⟨a,xs,rfl,g,rl⟩:=r
   cases h
   refine .inl ⟨xs,.inl g,?_⟩
   have:=rl.length
   cases l<;>cases xs<;>simp_all
 | scr ns=>
   rw[Ct]at r
   obtain⟨a,rfl,g⟩:=r
   cases h
   refine .inl ⟨_,g,?_⟩
   cases ns<;>simp
theorem y5e(ha:MC X a fa)(he:∀whole,isTrue a X.env whole=(do let v ←whole;standAt a.pos;holding [v] (truthy v)):=by intro _;rfl):MT X a (b1 fa truD):=
 PT.imp (Yyi ha he) fun σ H Q hx_=>by
  obtain⟨ρ,k,H0,G0,G,e,s,h⟩:=hx_
  obtain⟨d,h1,h2⟩:=Ych e
  exact tCof.at h1 s fun v H1 G1 g1 r1 s1=>⟨k,y2c h2 r1,h H1 G1 g1⟩
noncomputable def andT(fc fd:Ro→Option Bool):Ro→Option Bool:=fun ρ=>(fc ρ).bind fun k=>if k=true then fd ρ else some false
noncomputable def orT(fc fd:Ro→Option Bool):Ro→Option Bool:=fun ρ=>(fc ρ).bind fun k=>if k=true then some true else fd ρ
noncomputable def notT(fc:Ro→Option Bool):Ro→Option Bool:=fun ρ=>(fc ρ).map (!·)
noncomputable abbrev MW(X:Cx)(e:Expr)(f:Ro→Option Bool):Prop:=PW X e (tTof X.K f)
theorem PW.imp{t t':TT}(h:PW X e t)(i:∀σ H Q,t' σ H Q→t σ H Q):PW X e t':=fun whole pins s σ H Q I hw=>h whole pins s σ H Q I (i σ H Q hw)
theorem y2d(ha:MT X a fc):MW X (.BoolOp .And [a] pos) fc:=y1e ha
theorem y5f(ha:MT X a fc):MW X (.BoolOp .Or [a] pos) fc:=y4a ha
theorem y2e{σ:L2.St}{H:Hp}{Q:Bool→Hp→Prop}(h:tTof K (andT fc fd) σ H Q):tAnd (tTof K fc) (tTof K fd) σ H Q:=by
 obtain⟨ρ,k,H0,G0,G,e,s,h⟩:=h
 unfold andT at e
 obtain⟨k1,h1,e⟩:=qa e
 refine tTof.at h1 s fun H1 G1 g1 s1=>?_
 cases k1 with
 | true=>
   rw[if_pos rfl]at e ⊢
   exact tTof.at e s1 fun H2 G2 g2 _=>h H2 G2 (g1.trans g2)
 | false=>
   rw[if_neg qh]at e ⊢
   cases e
   exact h H1 G1 g1
theorem y5g{σ:L2.St}{H:Hp}{Q:Bool→Hp→Prop}(h:tTof K (orT fc fd) σ H Q):tOr (tTof K fc) (tTof K fd) σ H Q:=by
 obtain⟨ρ,k,H0,G0,G,e,s,h⟩:=h
 unfold orT at e
 obtain⟨k1,h1,e⟩:=qa e
 refine tTof.at h1 s fun H1 G1 g1 s1=>?_
 cases k1 with
 | false=>
   rw[if_neg qh]at e ⊢
   exact tTof.at e s1 fun H2 G2 g2 _=>h H2 G2 (g1.trans g2)
 | true=>
   rw[if_pos rfl]at e ⊢
   cases e
   exact h H1 G1 g1
theorem y5h(ha:MT X a fc)(hb:MW X (.BoolOp .And (b::rest) pos) fd):MW X (.BoolOp .And (a::b::rest) pos) (andT fc fd):=PW.imp (y4b ha hb) fun _ _ _ h=>y2e h
theorem y71(ha:MT X a fc)(hb:MW X (.BoolOp .Or (b::rest) pos) fd):MW X (.BoolOp .Or (a::b::rest) pos) (orT fc fd):=PW.imp (y65 ha hb) fun _ _ _ h=>y5g h
theorem y5i(ha:MT X a fc):MT X (.UnaryOp .Not a pos) (notT fc):=PT.imp (y4c ha) fun σ H Q hx_=>by
 obtain⟨ρ,k,H0,G0,G,e,s,h⟩:=hx_
 obtain⟨k1,h1,rfl⟩:=qb e
 exact tTof.at h1 s fun H1 G1 g1 _=>h H1 G1 g1
noncomputable def blD:D→Option Bool
 | .bl b=>some b
 | _=>none
theorem Ym5{d:D}{k:Bool}(h:blD d=some k):d=.bl k:=by cases d<;>simp[blD]at h;subst h;rfl
noncomputable def andV(fa fb:Ro→Option D):Ro→Option D:=fun ρ=>(b1 fa blD ρ).bind fun k=>if k=true then fb ρ else some (.bl false)
noncomputable def orV(fa fb:Ro→Option D):Ro→Option D:=fun ρ=>(b1 fa blD ρ).bind fun k=>if k=true then some (.bl true)else fb ρ
noncomputable def notV(fa:Ro→Option D):Ro→Option D:=fun ρ=>(b1 fa blD ρ).map fun k=>.bl (!k)
theorem y2f(ha:ME X a fa):ME X (.BoolOp .And [a] pos) fa:=y0b ha
theorem y5j(ha:ME X a fa):ME X (.BoolOp .Or [a] pos) fa:=y0b ha
theorem y5k(ha:ME X a fa)(hb:ME X (.BoolOp .And (b::rest) pos) fb):ME X (.BoolOp .And (a::b::rest) pos) (andV fa fb):=PE.imp (y4d ha hb) fun σ H Q hx_=>by
 obtain⟨ρ,d,H0,G0,G,e,s,h⟩:=hx_
 unfold andV at e
 obtain⟨k,h1,e⟩:=qa e
 obtain⟨d1,h2,h3⟩:=Ych h1
 cases Ym5 h3
 refine tOf.at h2 s fun v H1 G1 g1 r1 s1=>⟨k,by rw[Rp]at r1;exact r1,?_⟩
 cases k with
 | true=>
   rw[if_pos rfl]at e ⊢
   exact tOf.at e s1 fun w H2 G2 g2 r2 _=>h w H2 G2 (g1.trans g2) r2
 | false=>
   rw[if_neg qh]at e ⊢
   cases e
   exact h _ H1 G1 g1 (by rw[Rp])
theorem y72(ha:ME X a fa)(hb:ME X (.BoolOp .Or (b::rest) pos) fb):ME X (.BoolOp .Or (a::b::rest) pos) (orV fa fb):=PE.imp (y68 ha hb) fun σ H Q hx_=>by
 obtain⟨ρ,d,H0,G0,G,e,s,h⟩:=hx_
 unfold orV at e
 obtain⟨k,h1,e⟩:=qa e
 obtain⟨d1,h2,h3⟩:=Ych h1
 cases Ym5 h3
 refine tOf.at h2 s fun v H1 G1 g1 r1 s1=>⟨k,by rw[Rp]at r1;exact r1,?_⟩
 cases k with
 | false=>
   rw[if_neg qh]at e ⊢
   exact tOf.at e s1 fun w H2 G2 g2 r2 _=>h w H2 G2 (g1.trans g2) r2
 | true=>
   rw[if_pos rfl]at e ⊢
   cases e
   exact h _ H1 G1 g1 (by rw[Rp])
theorem y5l(ha:ME X a fa):ME X (.UnaryOp .Not a pos) (notV fa):=PE.imp (y4e ha) fun σ H Q hx_=>by
 obtain⟨ρ,d,H0,G0,G,e,s,h⟩:=hx_
 obtain⟨k,h1,rfl⟩:=qb e
 obtain⟨d1,h2,h3⟩:=Ych h1
 cases Ym5 h3
 exact tOf.at h2 s fun v H1 G1 g1 r1 s1=>⟨k,by rw[Rp]at r1;exact r1,h _ H1 G1 g1 (by rw[Rp])⟩
noncomputable def ifV(fc:Ro→Option Bool)(fa fb:Ro→Option D):Ro→Option D:=fun ρ=>(fc ρ).bind fun k=>if k=true then fa ρ else fb ρ
theorem y73(hc:MT X c fc)(ha:ME X a fa)(hb:ME X b fb):ME X (.IfExp c a b pos) (ifV fc fa fb):=PE.imp (Yyd hc ha hb) fun σ H Q hx_=>by
 obtain⟨ρ,d,H0,G0,G,e,s,h⟩:=hx_
 unfold ifV at e
 obtain⟨k,h1,e⟩:=qa e
 refine tTof.at h1 s fun H1 G1 g1 s1=>?_
 cases k with
 | true=>
   rw[if_pos rfl]at e ⊢
   exact tOf.at e s1 fun w H2 G2 g2 r2 _=>h w H2 G2 (g1.trans g2) r2
 | false=>
   rw[if_neg qh]at e ⊢
   exact tOf.at e s1 fun w H2 G2 g2 r2 _=>h w H2 G2 (g1.trans g2) r2
noncomputable def Ytz:D→Bool
 | .non=>true
 | _=>false
theorem Ysw{d:D}{v:V}{G H:Hp}(r:Ct K G H d v):decide (v=V.non)=Ytz d:=by
 cases d with
 | non=>rw[Ct]at r;subst r;rfl
 | bl _=>rw[Ct]at r;subst r;rfl
 | int _=>rw[Ct]at r;subst r;rfl
 | str _=>rw[Ct]at r;obtain⟨rfl,_⟩:=r;rfl
 | tup _=>rw[Ct]at r;obtain⟨_,_,rfl,_⟩:=r;rfl
 | lst _=>rw[Ct]at r;obtain⟨_,_,rfl,_⟩:=r;rfl
 | scr _=>rw[Ct]at r;obtain⟨_,rfl,_⟩:=r;rfl
 | dct _ _ _=>rw[Ct]at r;obtain⟨_,_,_,rfl,_⟩:=r;rfl
noncomputable def isN(neg:Bool):D→D→Option Bool:=fun d e=>if Ytz e then some (if neg then !Ytz d else Ytz d)else none
theorem Yvl:Yg6 K (fun x y H Q=>y=.non∧Q (.bl (decide (x=.non))) H) (isN false):=by
 intro x y dx dy b H G Q h s rx ry q
 unfold isN at h
 split at h
 ·rename_i hn
  cases h
  cases dy<;>simp[Ytz]at hn
  rw[Ct]at ry
  exact⟨ry,by rw[Ysw rx];exact q⟩
 ·cases h
theorem Ysx:Yg6 K (fun x y H Q=>y=.non∧Q (.bl (!decide (x=.non))) H) (isN true):=by
 intro x y dx dy b H G Q h s rx ry q
 unfold isN at h
 split at h
 ·rename_i hn
  cases h
  cases dy<;>simp[Ytz]at hn
  rw[Ct]at ry
  exact⟨ry,by rw[Ysw rx];exact q⟩
 ·cases h
theorem y5m(ha:MC X a fa)(hb:MC X b fb):ME X (.Compare a [.Is] [b] pos) (mB (b2 fa fb (isN false))):=Yf9 y0e Yvl ha hb (Ydb _)
theorem y2g(ha:MC X a fa)(hb:MC X b fb):ME X (.Compare a [.IsNot] [b] pos) (mB (b2 fa fb (isN true))):=Yf9 Yu3 Ysx ha hb (Ydb _)
theorem y5n(ha:MC X a fa)(hb:MC X b fb):MT X (.Compare a [.Is] [b] pos) (b2 fa fb (isN false)):=Yg9 y0e Yvl ha hb (Ydb _)
theorem y2h(ha:MC X a fa)(hb:MC X b fb):MT X (.Compare a [.IsNot] [b] pos) (b2 fa fb (isN true)):=Yg9 Yu3 Ysx ha hb (Ydb _)
noncomputable def ixD:D→D→Option D
 | c,.int i=>(Yn c).bind fun l=>atI l i
 | _,_=>none
theorem Yvm{G:Hp}{l:List D}{xs:List V}{i:Int}{d:D}(r:RpL K G l xs)(h:atI l i=some d):∃x,atI xs i=some x∧Rp K G d x:=by
 unfold atI at h ⊢
 rw[r.length]
 obtain⟨j,h1,h2⟩:=qa h
 obtain⟨x,h3,h4⟩:=r.get h2
 exact⟨x,by rw[h1];exact h3,h4⟩
theorem y5o:Sem2 X.K (rIx X.K) ixD:=by
 intro x y dx dy d H G Q h s rx ry q
 unfold ixD at h
 split at h
 ·rename_i c i
  obtain⟨l,h1,h2⟩:=qa h
  rw[Ct]at ry
  subst ry
  rcases Yax h1 with rfl | rfl | ⟨ns,rfl,rfl⟩
  ·rw[Ct]at rx
   obtain⟨p,xs,rfl,g,rl⟩:=rx
   obtain⟨v,h3,h4⟩:=Yvm rl h2
   exact .inr (.inl ⟨p,xs,i,v,rfl,rfl,.inl (.inl g.1),h3,q v H G (.refl s) h4⟩)
  ·rw[Ct]at rx
   obtain⟨p,xs,rfl,g,rl⟩:=rx
   obtain⟨v,h3,h4⟩:=Yvm rl h2
   exact .inl ⟨p,xs,i,v,rfl,rfl,.inl g,h3,q v H G (.refl s) h4⟩
  ·rw[Ct]at rx
   obtain⟨p,rfl,g⟩:=rx
   obtain⟨v,h3,h4⟩:=Yvm (G:=G) (K:=X.K) (.ints ns) h2
   exact .inl ⟨p,_,i,v,rfl,rfl,g,h3,q v H G (.refl s) h4⟩
 ·cases h
theorem y2i(ha:MC X a fa)(hb:MC X b fb)(hs:Ymw b:=by intro _ _;rfl):ME X (.Subscript a b pos) (b2 fa fb ixD):=y7o y4z y5o ha hb hs
noncomputable def intD:D→Option Int
 | .int i=>some i
 | _=>none
noncomputable def optI(f:Option (Ro→Option D)):Ro→Option (Option Int):=fun ρ=>match f with
 | none=>some none
 | some f=>(b1 f intD ρ).map some
noncomputable def cutD(l:List D)(lo hi:Option Int):List D:=(l.drop (HT.sIx l.length 0 lo)).take (HT.sIx l.length l.length hi - HT.sIx l.length 0 lo)
noncomputable def lstD:D→Option (List D)
 | .lst l=>some l
 | .scr ns=>some (ns.map D.int)
 | _=>none
theorem Yvn{d:D}{l:List D}{v:V}{G H:Hp}(h:lstD d=some l)(r:Ct K G H d v):∃p xs,v=.ref p∧SqL K H p xs∧RpL K G l xs:=by
 cases d with
 | lst m=>
   cases h
   rw[Ct]at r
   obtain⟨p,xs,e,g,q⟩:=r
   exact⟨p,xs,e,.inl g,q⟩
 | scr ns=>
   cases h
   rw[Ct]at r
   obtain⟨p,e,g⟩:=r
   exact⟨p,_,e,g,.ints ns⟩
 | non=>cases h
 | bl _=>cases h
 | int _=>cases h
 | str _=>cases h
 | tup _=>cases h
 | dct _ _ _=>cases h
noncomputable def slF(fa:Ro→Option D)(lo hi:Option (Ro→Option D)):Ro→Option (List D):=fun ρ=>(b1 fa lstD ρ).bind fun l=>(optI lo ρ).bind fun i=>(optI hi ρ).bind fun j=>some (cutD l i j)
noncomputable abbrev tO(K:W.Frag)(f:Option (Ro→Option D)):TO:=match f with
 | none=>Yvc
 | some f=>y4x (tCof K f)
theorem y5p{H0 G0 H G:Hp}{σ:L2.St}{ρ:Ro}{f:Option (Ro→Option D)}{i:Option Int}{Q:Option Int→Hp→Prop}(e:optI f ρ=some i)(s:SR K H0 G0 σ H G ρ)(h:∀H' G',Gr H G H' G'→SR K H0 G0 σ H' G' ρ→Q i H'):tO K f σ H Q:=by
 cases f with
 | none=>
   cases e
   exact h H G (.refl s.seen) s
 | some f=>
   obtain⟨k,h1,rfl⟩:=qb e
   obtain⟨d,h2,h3⟩:=Ych h1
   refine tCof.at h2 s fun v H1 G1 g1 r1 s1=>⟨k,?_,h H1 G1 g1 s1⟩
   cases d<;>simp[intD]at h3
   subst h3
   rw[Ct]at r1
   exact r1
theorem Yyv{lo hi:Option Expr}{fl fh:Option (Ro→Option D)}{p2:Pos}(ha:MC X a fa)(hl:PO X lo (tO X.K fl))(hh:PO X hi (tO X.K fh)):MF X (.Subscript a (.Slice lo hi none p2) pos) (slF fa fl fh):=
 PE.imp (Yym y1z ha hl hh) fun σ H Q hx_=>by
  obtain⟨ρ,l,H0,G0,G,e,s,h⟩:=hx_
  unfold slF at e
  obtain⟨l0,h1,e⟩:=qa e
  obtain⟨i,h2,e⟩:=qa e
  obtain⟨j,h3,e⟩:=qa e
  cases e
  obtain⟨d,h4,h5⟩:=Ych h1
  refine tCof.at h4 s fun v H1 G1 g1 r1 s1=>y5p h2 s1 fun H2 G2 g2 s2=>y5p h3 s2 fun H3 G3 g3 s3=>?_
  have r3:=(r1.grow g2).grow g3
  obtain⟨p,xs,rfl,g,rl⟩:=Yvn h5 r3
  refine⟨p,xs,rfl,g,fun q hq=>?_⟩
  have hq0:H q=none:=g1.h.free (g2.h.free (g3.h.free hq))
  have gg:=((g1.trans g2).trans g3).trans (Gr.hid (p:=q) s3.seen hq (.lst (cutV xs i j)))
  refine h q _ _ G3 gg hq0 (s3.seen.free hq) y0 ?_
  unfold cutD cutV
  rw[rl.length]
  exact(rl.drop _).take _
theorem y74:PO X none (tO X.K none):=y1v
theorem y75(h:MC X e f):PO X (some e) (tO X.K (some f)):=y1w h
noncomputable def lF(f:Ro→Option (List D)):Ro→Option D:=fun ρ=>(f ρ).map D.lst
theorem MF.me{g:Ro→Option (List D)}(h:MF X e g):ME X e (lF g):=PE.imp h fun σ H Q hx_=>by
 obtain⟨ρ,d,H0,G0,G,e,s,h⟩:=hx_
 obtain⟨l,h1,rfl⟩:=qb e
 exact⟨ρ,l,H0,G0,G,h1,s,fun p xs H' G' g hp gp e' r=>h _ H' _ (g.show hp gp e') (by
  rw[Rp]
  refine⟨p,xs,rfl,.inl y0,r.mono fun b o q=>?_⟩
  rw[Yaa (y9 q gp)];exact q)⟩
noncomputable def aNil:Ro→Option (List D):=fun _=>some []
noncomputable def Yg(f:Ro→Option D)(g:Ro→Option (List D)):Ro→Option (List D):=fun ρ=>(f ρ).bind fun d=>(g ρ).map (d::·)
theorem y0k:MA X [] aNil:=PA.imp Ygz fun σ H Q hx_=>by
 obtain⟨ρ,l,H0,G0,G,e,s,h⟩:=hx_
 cases e
 exact h [] H G (.refl s.seen) .nil
theorem Yvo(ha:ME X e f)(hr:MA X es ga)(hs:starEach (e::es) X.env=(false,eval e X.env)::starEach es X.env:=by rfl):MA X (e::es) (Yg f ga):=PA.imp (Ydn ha hr hs) fun σ H Q hx_=>by
 obtain⟨ρ,l,H0,G0,G,e,s,h⟩:=hx_
 unfold Yg at e
 obtain⟨d,h1,e⟩:=qa e
 obtain⟨l',h2,rfl⟩:=qb e
 exact tOf.at h1 s fun v H1 G1 g1 r1 s1=>tAof.at h2 s1 fun vs H2 G2 g2 r2 _=>h (v::vs) H2 G2 (g1.trans g2) (.cons (r1.mono g2.g) r2)
theorem Yq6:MCA X [] aNil:=PA.imp Ygz fun σ H Q hx_=>by
 obtain⟨ρ,l,H0,G0,G,e,s,h⟩:=hx_
 cases e
 exact h [] H G (.refl s.seen) rfl
theorem Ym6(ha:MC X e f)(hr:MCA X es ga)(hs:starEach (e::es) X.env=(false,eval e X.env)::starEach es X.env:=by rfl):MCA X (e::es) (Yg f ga):=PA.imp (Ydn ha hr hs) fun σ H Q hx_=>by
 obtain⟨ρ,l,H0,G0,G,e,s,h⟩:=hx_
 unfold Yg at e
 obtain⟨d,h1,e⟩:=qa e
 obtain⟨l',h2,rfl⟩:=qb e
 exact tCof.at h1 s fun v H1 G1 g1 r1 s1=>tCAof.at h2 s1 fun vs H2 G2 g2 r2 _=>h (v::vs) H2 G2 (g1.trans g2) ⟨v,vs,rfl,r1.grow g2,r2⟩
noncomputable def cap6:Nat:=1000000
theorem Yfe{n:Nat}(h:n≤cap6):n≤sizeLine:=Nat.le_trans h (by rw[sizeLine_eq];decide)
noncomputable def dTup(ga:Ro→Option (List D)):Ro→Option D:=fun ρ=>(ga ρ).bind fun l=>if l.length≤cap6 then some (.tup l)else none
theorem y5q{x1}(h:MA X es ga):ME X (.Tuple es x1 pos) (dTup ga):=PE.imp (y4r h) fun σ H Q hx_=>by
 obtain⟨ρ,d,H0,G0,G,e,s,h⟩:=hx_
 unfold dTup at e
 obtain⟨l,h1,e⟩:=qa e
 split at e
 ·cases e
  refine tAof.at h1 s fun vs H1 G1 g1 r1 s1=>⟨by rw[r1.length];exact Yfe (by assumption),fun p hp=>?_⟩
  refine h _ _ _ (g1.trans (.new s1.seen hp (.tup vs))) ?_
  rw[Rp]
  exact⟨p,vs,rfl,y0,r1.mono (Gr.new s1.seen hp (.tup vs)).g⟩
 ·cases e
noncomputable def dLst(ga:Ro→Option (List D)):Ro→Option (List D):=fun ρ=>(ga ρ).bind fun l=>if l.length≤cap6 then some l else none
theorem y5r(h:MA X es ga):MF X (.List es pos) (dLst ga):=PE.imp (y4s h) fun σ H Q hx_=>by
 obtain⟨ρ,d,H0,G0,G,e,s,h⟩:=hx_
 unfold dLst at e
 obtain⟨l,h1,e⟩:=qa e
 split at e
 ·cases e
  refine tAof.at h1 s fun vs H1 G1 g1 r1 s1=>⟨by rw[r1.length];exact Yfe (by assumption),fun p hp=>?_⟩
  exact h p vs _ G1 (g1.trans (.hid s1.seen hp (.lst vs))) (g1.h.free hp) (s1.seen.free hp) y0 r1
 ·cases e
noncomputable def cC(ga:Ro→Option (List D))(g:List D→Option D):Ro→Option D:=fun ρ=>(ga ρ).bind g
noncomputable def cF(ga:Ro→Option (List D))(g:List D→Option (List D)):Ro→Option (List D):=fun ρ=>(ga ρ).bind g
theorem y0l{r:List V→Hp→VK→Prop}{g:List D→Option D}(hr:SemC K r g){σ:L2.St}{H:Hp}{Q:VK}(h:tOf K (cC ga g) σ H Q):tCB r (tCAof K ga) σ H Q:=by
 obtain⟨ρ,d,H0,G0,G,e,s,h⟩:=h
 unfold cC at e
 obtain⟨l,h1,h2⟩:=qa e
 exact tCAof.at h1 s fun vs H1 G1 g1 r1 s1=>hr vs l d H1 G1 Q h2 s1.seen r1 fun v H' G' g2 r2=>h v H' G' (g1.trans g2) r2
theorem Yvp{r:List V→Hp→VK→Prop}{g:List D→Option (List D)}(hr:SemF K r g){σ:L2.St}{H:Hp}{Q:VK}(h:tFof K (cF ga g) σ H Q):tCB r (tCAof K ga) σ H Q:=by
 obtain⟨ρ,d,H0,G0,G,e,s,h⟩:=h
 unfold cF at e
 obtain⟨l,h1,h2⟩:=qa e
 exact tCAof.at h1 s fun vs H1 G1 g1 r1 s1=>hr vs l d H1 G1 Q h2 s1.seen r1 fun p xs H' G' g2 hp gp e' r2=>h p xs H' G' (g1.trans g2) (g1.h.free hp) gp e' r2
section
variable {x:Str} {p:Pos} {id T:String} {r:List V→Hp→VK→Prop} {g:List D→Option D} {gf:List D→Option (List D)}
theorem Yyw(hc:Ycv X (.builtin id) r)(hr:SemC X.K r g)(hg:Gl X x)(hm:X.mg x=none)(hv:bootBuiltins x=some (.builtin id))(ha:MCA X (e::es) ga)(hn:x≠"__name__":=by decide)(hdb:(x==("__debug__":Str))=false:=by decide)
 (he:starEach (e::es) X.env=(false,eval e X.env)::starEach es X.env:=by rfl) (hpl:(backTo pos (starEach es X.env)).any (·.1)=false:=by rfl):ME X (.Call (.Name x p) (e::es) [] pos) (cC ga g):=
 PE.imp (Yfx hc hg hm hv ha hn hdb he hpl) fun _ _ _ h=>y0l hr h
theorem Yyx(hc:Ycv X (.builtin id) r)(hr:SemF X.K r gf)(hg:Gl X x)(hm:X.mg x=none)(hv:bootBuiltins x=some (.builtin id))(ha:MCA X (e::es) ga)(hn:x≠"__name__":=by decide)(hdb:(x==("__debug__":Str))=false:=by decide)
 (he:starEach (e::es) X.env=(false,eval e X.env)::starEach es X.env:=by rfl) (hpl:(backTo pos (starEach es X.env)).any (·.1)=false:=by rfl):MF X (.Call (.Name x p) (e::es) [] pos) (cF ga gf):=
 PE.imp (Yfx hc hg hm hv ha hn hdb he hpl) fun _ _ _ h=>Yvp hr h
theorem Yvq(hc:Ycv X (.type T) r)(hr:SemC X.K r g)(hg:Gl X x)(hm:X.mg x=none)(hv:bootBuiltins x=some (.type T))(ha:MCA X (e::es) ga)(hn:x≠"__name__":=by decide)(hdb:(x==("__debug__":Str))=false:=by decide)
 (he:starEach (e::es) X.env=(false,eval e X.env)::starEach es X.env:=by rfl) (hpl:(backTo pos (starEach es X.env)).any (·.1)=false:=by rfl):ME X (.Call (.Name x p) (e::es) [] pos) (cC ga g):=
 PE.imp (Yfc hc hg hm hv ha hn hdb he hpl) fun _ _ _ h=>y0l hr h
theorem Yvr(hc:Ycv X (.type T) r)(hr:SemF X.K r gf)(hg:Gl X x)(hm:X.mg x=none)(hv:bootBuiltins x=some (.type T))(ha:MCA X (e::es) ga)(hn:x≠"__name__":=by decide)(hdb:(x==("__debug__":Str))=false:=by decide)
 (he:starEach (e::es) X.env=(false,eval e X.env)::starEach es X.env:=by rfl) (hpl:(backTo pos (starEach es X.env)).any (·.1)=false:=by rfl):MF X (.Call (.Name x p) (e::es) [] pos) (cF ga gf):=
 PE.imp (Yfc hc hg hm hv ha hn hdb he hpl) fun _ _ _ h=>Yvp hr h
end
noncomputable def spOf(K:W.Frag)(n:Nat)(fn:List D→Option D):Sp:=fun vs H Q _=>vs.length=n∧∃ds d G,Same G H∧RpL K G ds vs∧fn ds=some d∧∀v H' G',Gr H G H' G'→Rp K G' d v→Q v H'
theorem y2j{k n:Nat}{fa':Addr}{fd':FuncData}{ps:List Str}{x:Str}{p:Pos}{fn:List D→Option D}(F:FnOk X.prog X.w X.K X.mg X.base CX0 k fa' fd' ps (spOf X.K n fn))(hr:Room k X.A)(hg:Gl X x)(hm:X.mg x=some (.ref fa'))(hk:W.keepIn X.K (.ref fa')=true)(hb:Binds X.K fd' ps [])
 (ha:MA X (e::es) ga) (hdb:(x==("__debug__":Str))=false:=by decide) (he:starEach (e::es) X.env=(false,eval e X.env)::starEach es X.env:=by rfl) (hpl:(backTo pos (starEach es X.env)).any (·.1)=false:=by rfl)
 (hl:∀ρ l,ga ρ=some l→l.length=n):ME X (.Call (.Name x p) (e::es) [] pos) (cC ga fn):=
 PE.imp (y1o (E:=E0) F hr hg hm hk hb .nil y7m ha hdb he hpl) fun σ H Q hx_=>by
  obtain⟨ρ,d,H0,G0,G,e,s,h⟩:=hx_
  unfold cC at e
  obtain⟨l,h1,h2⟩:=qa e
  refine tAof.at h1 s fun vs H1 G1 g1 r1 s1=>?_
  rw[List.append_nil]
  exact⟨by rw[r1.length];exact hl ρ l h1,l,d,G1,s1.seen,r1,h2,fun v H' G' g2 r2=>h v H' G' (g1.trans g2) r2⟩
theorem Yt{ρ:Ro}{l:List D}(h:aNil ρ=some l):l.length=0:=by cases h;rfl
theorem Ye{f:Ro→Option D}{g:Ro→Option (List D)}{n:Nat}(hg:∀ρ l,g ρ=some l→l.length=n):∀ρ l,Yg f g ρ=some l→l.length=n+1:=fun ρ l h=>by
 unfold Yg at h
 obtain⟨d,h1,e⟩:=qa h
 obtain⟨l',h2,rfl⟩:=qb e
 rw[qq,hg ρ l' h2]
noncomputable def lenC:List D→Option D
 | [c]=>(Yn c).map fun l=>.int l.length
 | _=>none
theorem y0m{G H:Hp}{c:D}{l:List D}{v:V}(h:Yn c=some l)(r:Ct K G H c v):∃p xs,v=.ref p∧(SqL K H p xs∨SqT K H p xs)∧RpL K G l xs:=by
 rcases Yax h with rfl | rfl | ⟨ns,rfl,rfl⟩
 ·rw[Ct]at r
  obtain⟨p,xs,rfl,g,rl⟩:=r
  exact⟨p,xs,rfl,.inr (.inl (.inl g.1)),rl⟩
 ·rw[Ct]at r
  obtain⟨p,xs,rfl,g,rl⟩:=r
  exact⟨p,xs,rfl,.inl (.inl g),rl⟩
 ·rw[Ct]at r
  obtain⟨p,rfl,g⟩:=r
  exact⟨p,_,rfl,.inl g,.ints ns⟩
theorem Ykb{G:Hp}{d:D}{vs:List V}(h:RpL K G [d] vs):∃v,vs=[v]∧Rp K G d v:=by
 rw[RpL]at h
 obtain⟨x,r,rfl,h1,h2⟩:=h
 rw[RpL]at h2
 subst h2
 exact⟨x,rfl,h1⟩
theorem Yc5{G H:Hp}{d:D}{vs:List V}(h:CtL K G H [d] vs):∃v,vs=[v]∧Ct K G H d v:=by
 obtain⟨x,r,rfl,h1,h2⟩:=h
 cases (show r=[] from h2)
 exact⟨x,rfl,h1⟩
theorem Yan:SemC X.K (fun xs H Q=>∃p ys,xs=[.ref p]∧(SqL X.K H p ys∨SqT X.K H p ys)∧Q (.int ys.length) H) lenC:=by
 intro vs ds d H G Q h s r q
 match ds,h,r with
 | [c],h,r=>
   obtain⟨l,h1,rfl⟩:=qb h
   obtain⟨v,rfl,rv⟩:=Yc5 r
   obtain⟨p,xs,rfl,h2,rl⟩:=y0m (K:=X.K) h1 rv
   exact⟨p,xs,rfl,h2,q _ H G (.refl s) (by rw[Rp,rl.length])⟩
noncomputable def Yt0:List D→Option (List D)
 | [c]=>Yn c
 | _=>none
theorem Ysy:SemF X.K (fun xs H Q=>∃p ys,xs=[.ref p]∧(SqL X.K H p ys∨SqT X.K H p ys)∧∀l,H l=none→Q (.ref l) (upd H l (.lst ys))) Yt0:=by
 intro vs ds l H G Q h s r q
 match ds,h,r with
 | [c],h,r=>
   obtain⟨v,rfl,rv⟩:=Yc5 r
   obtain⟨p,xs,rfl,h2,rl⟩:=y0m (K:=X.K) h rv
   exact⟨p,xs,rfl,h2,fun m hm=>q m xs _ G (.hid s hm _) hm (s.free hm) y0 rl⟩
noncomputable def tupC:List D→Option D
 | [c]=>(Yn c).map D.tup
 | _=>none
theorem Yeh:SemC X.K (fun xs H Q=>∃p ys,xs=[.ref p]∧((SqL X.K H p ys∧∀l,H l=none→Q (.ref l) (upd H l (.tup ys)))∨(SqT X.K H p ys∧Q (.ref p) H))) tupC:=by
 intro vs ds d H G Q h s r q
 match ds,h,r with
 | [c],h,r=>
   obtain⟨l,h1,rfl⟩:=qb h
   obtain⟨v,rfl,rv⟩:=Yc5 r
   rcases Yax h1 with rfl | rfl | ⟨ns,rfl,rfl⟩
   ·rw[Ct]at rv
    obtain⟨p,xs,rfl,g,rl⟩:=rv
    exact⟨p,xs,rfl,.inr ⟨.inl (.inl g.1),q _ H G (.refl s) (by rw[Rp];exact⟨p,xs,rfl,g.2,rl⟩)⟩⟩
   ·rw[Ct]at rv
    obtain⟨p,xs,rfl,g,rl⟩:=rv
    refine⟨p,xs,rfl,.inl ⟨.inl g,fun m hm=>q _ _ _ (.new s hm (.tup xs)) ?_⟩⟩
    rw[Rp]
    exact⟨m,xs,rfl,y0,rl.mono (Gr.new s hm (.tup xs)).g⟩
   ·rw[Ct]at rv
    obtain⟨p,rfl,g⟩:=rv
    refine⟨p,_,rfl,.inl ⟨g,fun m hm=>q _ _ _ (.new s hm (.tup _)) ?_⟩⟩
    rw[Rp]
    exact⟨m,_,rfl,y0,.ints ns⟩
noncomputable def intC:List D→Option D
 | [.int i]=>some (.int i)
 | [.bl k]=>some (.int (if k then 1 else 0))
 | _=>none
theorem Yq7:SemC X.K (fun xs H Q=>(∃i,xs=[.int i]∧Q (.int i) H)∨∃k,xs=[.bl k]∧Q (.int (if k then 1 else 0)) H) intC:=by
 intro vs ds d H G Q h s r q
 match ds,h,r with
 | [.int i],h,r=>
   cases h
   obtain⟨v,rfl,rv⟩:=Yc5 r
   rw[Ct]at rv
   subst rv
   exact .inl ⟨i,rfl,q _ H G (.refl s) (by rw[Rp])⟩
 | [.bl k],h,r=>
   cases h
   obtain⟨v,rfl,rv⟩:=Yc5 r
   rw[Ct]at rv
   subst rv
   exact .inr ⟨k,rfl,q _ H G (.refl s) (by rw[Rp])⟩
end
end
section
variable {K:W.Frag}
section
variable {X:Cx} {e:Expr} {f:Ro→Option D} {gl:Ro→Option (List D)} {pos pos':Pos} {st:Stmt} {sts:List Stmt} {fs gs:Ro→Option Out}
noncomputable def sNil:Ro→Option Out:=fun ρ=>some (.nx ρ)
noncomputable def sSeq(f g:Ro→Option Out):Ro→Option Out:=fun ρ=>(f ρ).bind fun
 | .nx ρ'=>g ρ'
 | o=>some o
theorem y5s:MB X [] sNil:=PSs.imp y1f fun F σ H hx_=>by
 obtain⟨ρ,out,H0,G0,G,e,s,h⟩:=hx_
 cases e
 exact h σ H G s
theorem y2k(h1:MS X st fs)(h2:MB X sts gs):MB X (st::sts) (sSeq fs gs):=PSs.imp (Yye h1 h2) fun F σ H hx_=>by
 obtain⟨ρ,out,H0,G0,G,e,s,h⟩:=hx_
 unfold sSeq at e
 obtain⟨o,h3,e⟩:=qa e
 cases o with
 | nx ρ'=>exact⟨ρ,.nx ρ',H0,G0,G,h3,s,fun σ' H' G' s'=>⟨ρ',out,H0,G0,G',e,s',h⟩⟩
 | rt d=>cases e;exact⟨ρ,.rt d,H0,G0,G,h3,s,h⟩
 | bk ρ'=>cases e;exact⟨ρ,.bk ρ',H0,G0,G,h3,s,h⟩
 | ct ρ'=>cases e;exact⟨ρ,.ct ρ',H0,G0,G,h3,s,h⟩
theorem y5t(h1:MS X st fs):MB X [st] fs:=y1g h1
noncomputable def frz1(i:Nat)(ρ:Ro):Ro:=match ρ[i]? with
 | some (some (B.ow l))=>ρ.set i (some (.sh (.lst l)))
 | some (some (B.od t ks vs))=>ρ.set i (some (.sh (.dct t ks vs)))
 | _=>ρ
theorem SR.frz1{H0 G0 H G:Hp}{σ:L2.St}{ρ:Ro}(s:SR K H0 G0 σ H G ρ)(i:Nat):∃G',SR K H0 G0 σ H G' (M.frz1 i ρ):=by
 unfold M.frz1
 split
 ·rename_i l hl
  exact s.freeze hl
 ·rename_i t ks vs hl
  exact s.freezed hl
 ·exact⟨G,s⟩
noncomputable def frz(is:List Nat)(ρ:Ro):Ro:=is.foldl (fun r i=>frz1 i r) ρ
theorem SR.frz{H0 G0 H:Hp}{σ:L2.St}:∀(is:List Nat) {G:Hp} {ρ:Ro},SR K H0 G0 σ H G ρ→∃G',SR K H0 G0 σ H G' (M.frz is ρ)
 | [],G,_,s=>⟨G,s⟩
 | i::is,_,ρ,s=>by
   obtain⟨G',s'⟩:=s.frz1 i
   exact SR.frz is s'
noncomputable def wF(is:List Nat)(f:Ro→Option Out):Ro→Option Out:=fun ρ=>f (frz is ρ)
theorem y5u(is:List Nat)(h:MS X st fs):MS X st (wF is fs):=PS.imp h fun F σ H hx_=>by
 obtain⟨ρ,out,H0,G0,G,e,s,h⟩:=hx_
 obtain⟨G',s'⟩:=SR.frz is s
 exact⟨frz is ρ,out,H0,G0,G',e,s',h⟩
noncomputable def sSet(i:Nat)(f:Ro→Option D):Ro→Option Out:=fun ρ=>(f ρ).map fun d=>.nx (ρ.set i (some (.sh d)))
noncomputable def sOwn(i:Nat)(f:Ro→Option (List D)):Ro→Option Out:=fun ρ=>(f ρ).map fun l=>.nx (ρ.set i (some (.ow l)))
theorem y5v{i:Nat}{F:Ends}{σ:L2.St}{H:Hp}(h:sOf K (sSet i f) F σ H):tAsg (tOf K f) (Yts i) F σ H:=by
 obtain⟨ρ,out,H0,G0,G,e,s,h⟩:=h
 obtain⟨d,h1,rfl⟩:=qb e
 exact tOf.at h1 s fun v H1 G1 g1 r1 s1=>h _ H1 G1 (s1.set_sh i r1)
theorem y5w{i:Nat}{F:Ends}{σ:L2.St}{H:Hp}(h:sOf K (sOwn i gl) F σ H):tAsg (tFof K gl) (Yts i) F σ H:=by
 obtain⟨ρ,out,H0,G0,G,e,s,h⟩:=h
 obtain⟨l,h1,rfl⟩:=qb e
 exact⟨ρ,l,H0,G0,G,h1,s,fun p xs H' G' g hp gp e' r=>h _ H' G' (s.set_ow i g hp gp e' r)⟩
theorem y5x(i:Nat){x:Str}(hN:X.N.Nodup)(he:ME X e f)(hi:X.N[i]?=some x:=by rfl)(hx:Loc X.env.scope x:=by first | exact Or.inl rfl | exact Or.inr rfl)(hs:swapsWith e (some (.Name x pos')) pos.line X.env=pure false:=by rfl)
 (hf:X.fn x=true∨X.env.scope.names.lookup x=some .local:=by first | exact .inl rfl | exact .inr rfl):MS X (.Assign [.Name x pos'] e pos) (sSet i f):=PS.imp (y0c hN hi hx he hs hf) fun _ _ _ h=>y5v h
theorem y5y(i:Nat){x:Str}(hN:X.N.Nodup)(he:MF X e gl)(hi:X.N[i]?=some x:=by rfl)(hx:Loc X.env.scope x:=by first | exact Or.inl rfl | exact Or.inr rfl)(hs:swapsWith e (some (.Name x pos')) pos.line X.env=pure false:=by rfl)
 (hf:X.fn x=true∨X.env.scope.names.lookup x=some .local:=by first | exact .inl rfl | exact .inr rfl):MS X (.Assign [.Name x pos'] e pos) (sOwn i gl):=PS.imp (y0c hN hi hx he hs hf) fun _ _ _ h=>y5w h
noncomputable def sRet(f:Ro→Option D):Ro→Option Out:=fun ρ=>(f ρ).map .rt
theorem y5z(he:ME X e f):MS X (.Return (some e) pos) (sRet f):=PS.imp (y4f he) fun F σ H hx_=>by
 obtain⟨ρ,out,H0,G0,G,e,s,h⟩:=hx_
 obtain⟨d,h1,rfl⟩:=qb e
 exact tOf.at h1 s fun v H1 G1 g1 r1 s1=>h v H1 G1 s1.gr r1
noncomputable def sIf(c:Ro→Option Bool)(f g:Ro→Option Out):Ro→Option Out:=fun ρ=>(c ρ).bind fun k=>if k=true then f ρ else g ρ
theorem y76{c:Expr}{a b:List Stmt}{fc:Ro→Option Bool}(hc:MT X c fc)(ha:MB X a fs)(hb:MB X b gs):MS X (.If c a b pos) (sIf fc fs gs):=PS.imp (y7b hc ha hb) fun F σ H hx_=>by
 obtain⟨ρ,out,H0,G0,G,e,s,h⟩:=hx_
 unfold sIf at e
 obtain⟨k,h1,e⟩:=qa e
 refine tTof.at h1 s fun H1 G1 g1 s1=>?_
 cases k with
 | true=>
   rw[if_pos rfl]at e ⊢
   exact⟨ρ,out,H0,G0,G1,e,s1,h⟩
 | false=>
   rw[if_neg qh]at e ⊢
   exact⟨ρ,out,H0,G0,G1,e,s1,h⟩
noncomputable def sMut(i:Nat)(f:Ro→Option D)(g:List D→D→Option (List D)):Ro→Option Out:=fun ρ=>(getO i ρ).bind fun l=>(f ρ).bind fun d=>(g l d).map fun l'=>.nx (ρ.set i (some (.ow l')))
theorem Yvs{H0 G0 H G:Hp}{σ:L2.St}{ρ:Ro}{i:Nat}{l:List D}(s:SR K H0 G0 σ H G ρ)(h:getO i ρ=some l):∃a xs,σ[i]?=some (some (V.ref a))∧H a=some (.lst xs)∧RpL K G l xs∧G a=none:=by
 obtain⟨a,xs,h1,h2,h3,h4,h5⟩:=s.ow i l (Yg7 h)
 exact⟨a,xs,h1,h4,h5,h2⟩
noncomputable def appD(l:List D)(d:D):Option (List D):=if l.length < cap6 then some (l++[d])else none
theorem Yvt(i:Nat){x:Str}{p2 apos cpos:Pos}(he:ME X e f)(hN:X.N[i]?=some x:=by rfl)(hv:Vis X.env.scope x:=by first | exact Or.inl rfl | exact Or.inr (Or.inl rfl) | exact Or.inr (Or.inr rfl))
 (hd:(x==("__debug__":Str))=false:=by decide) (hcd:(x==("__classdict__":Str))=false:=by decide) (hse:swapsWith (.Call (.Attribute (.Name x p2) "append" apos) [e] [] cpos) none pos.line X.env=pure false:=by rfl)
 (hs:starEach [e] X.env=[(false,eval e X.env)]:=by rfl)
 (hfew:((backTo cpos (starEach [e] X.env)).all (fun x=>!x.1)&&(backToKw cpos (keywordEach [] X.env)).all (fun x=>x.1.isSome)&&decide ([e].length+([]:List Keyword).length+(if ([]:List Keyword).isEmpty then 0 else 1) < 30))=true:=by rfl)
 (hline:(apos.endLine==cpos.line)=true:=by rfl) (hbase:attributeBase (.Name x p2) "append" X.env (eval (.Name x p2) X.env)=eval (.Name x p2) X.env:=by rfl) :
 MS X (.Expr (.Call (.Attribute (.Name x p2) "append" apos) [e] [] cpos) pos) (sMut i f appD):=
 PS.imp (Ymv (y10 PySem.F.plainAttrs_list PySem.F.slot_list_append PySem.F.type_list_append Yov (Yol hN hv hd hcd) (Ydn he Ygz hs) hbase hfew hline hs rfl) hse) fun F σ H hx_=>by
  obtain⟨ρ,out,H0,G0,G,e,s,h⟩:=hx_
  unfold sMut at e
  obtain⟨l,h1,e⟩:=qa e
  obtain⟨d,h2,e⟩:=qa e
  obtain⟨l',h3,rfl⟩:=qb e
  unfold appD at h3
  split at h3
  ·rename_i hl
   cases h3
   obtain⟨a,xs,ha,hH,hr,hG⟩:=Yvs s h1
   refine⟨_,ha,.inl ⟨rfl,xs,SqL.of hH⟩,tOf.at h2 s fun v H1 G1 g1 r1 s1=>?_⟩
   refine⟨a,xs,v,rfl,rfl,g1.h _ _ hH,?_,h σ _ G1 (s1.mut (Yg7 h1) ha ((hr.mono g1.g).append (.one r1)))⟩
   rw[hr.length]
   exact Qd hl (Yfe (qt _))
  ·cases h3
theorem Yyy{J:It}{G':Hp}{ds:List D}(hz:ds.length≤sizeLine)(h:∀(i:Nat) H2 G2,Same G' G2→Same G2 H2→(∀d,ds[i]?=some d→J.go i H2∧∀y H3,J.yld i H2 y H3→H3=H2∧Rp K G2 d y)∧(ds.length≤i→J.stop i H2)):Wk K J G' ds:=
 ⟨hz,fun i H2 G2 s1 s2=>⟨fun d hd=>⟨((h i H2 G2 s1 s2).1 d hd).1,fun y H3 q=>by
  obtain⟨rfl,r⟩:=((h i H2 G2 s1 s2).1 d hd).2 y H3 q
  exact⟨G2,.refl s2,r⟩⟩,(h i H2 G2 s1 s2).2⟩⟩
variable {tg:Expr}
noncomputable def iSeq(K:W.Frag)(tl:TE):TI:=fun σ H R=>tl σ H fun x H1=>∃a xs,x=.ref a∧((SqL K H1 a xs∧(xs.length≤sizeLine→R (Itl K a) H1))∨(SqT K H1 a xs∧(xs.length≤sizeLine→R (Itt K a) H1)))
theorem y50{l:Expr}{tl:TE}(hl:PE X l tl):PI X tg l (iSeq X.K tl):=by
 intro pins s σ H R I h
 refine thn (hl pins s σ H _ I h) fun v s1 hx_=>?_
 obtain⟨x,H1,I1,r1,q1⟩:=hx_
 obtain⟨a,xs,e,q1⟩:=q1
 subst e
 cases r1
 rcases q1 with⟨hq,q⟩ | ⟨hq,q⟩
 ·obtain⟨its,rv,p,hz⟩:=I1.list hq
  refine wpAny_pyIter_list p.isList ?_
  refine⟨s1.heap.objs.size,[s1.heap.objs.size],_,_,H1,rfl,I1.kept (t':=s1.toks) fun b o e=>qd _ e,Yu0 a _,⟨_,qo _ rfl,rfl,rfl⟩,fun b hb=>?_,q hz⟩
  have e:b=s1.heap.objs.size:=by simpa using hb
  subst e
  exact I1.fpOk (qt _) (I1.hok.fresh (qt _))
 ·obtain⟨its,rv,p,hz⟩:=I1.tuple hq
  refine wpAny_pyIter_tuple (show s1.heap.IsTuple a its.toArray from p) ?_
  refine⟨s1.heap.objs.size,[s1.heap.objs.size],_,_,H1,rfl,I1.kept (t':=s1.toks) fun b o e=>qd _ e,Ytt a _,⟨_,qo _ rfl,rfl,rfl⟩,fun b hb=>?_,q hz⟩
  have e:b=s1.heap.objs.size:=by simpa using hb
  subst e
  exact I1.fpOk (qt _) (I1.hok.fresh (qt _))
theorem y51{l:Expr}(hl:ME X l f):MI X tg l (b1 f Yn):=PI.imp (y50 hl) fun σ H R hx_=>by
 obtain⟨ρ,ds,H0,G0,G,e,s,h⟩:=hx_
 obtain⟨c,h1,h2⟩:=Ych e
 refine tOf.at h1 s fun v H1 G1 g1 r1 s1=>?_
 rcases Yax h2 with rfl | rfl | ⟨ns,rfl,rfl⟩
 ·rw[Rp]at r1
  obtain⟨p,xs,rfl,g,rl⟩:=r1
  refine⟨p,xs,rfl,.inr ⟨.inl (.inl (s1.seen _ _ g)),fun hz=>h _ H1 G1 g1 (Yyy (by rw[←rl.length];exact hz) fun i H2 G2 e1 e2=>⟨fun d hd=>?_,fun hi=>⟨xs,.inl (.inl (e2 _ _ (e1 _ _ g))),by rw[rl.length];exact hi⟩⟩)⟩⟩
  obtain⟨x,hx,rx⟩:=rl.get hd
  refine⟨⟨xs,x,.inl (.inl (e2 _ _ (e1 _ _ g))),hx⟩,fun y H3 q=>⟨q.1,?_⟩⟩
  have:=q.2 xs (.inl (.inl (e2 _ _ (e1 _ _ g))))
  rw[hx]at this
  cases this
  exact rx.mono e1
 ·rw[Rp]at r1
  obtain⟨p,xs,rfl,g,rl⟩:=r1
  refine⟨p,xs,rfl,.inl ⟨.inl (Ybd s1.seen g),fun hz=>h _ H1 G1 g1 (Yyy (by rw[←rl.length];exact hz) fun i H2 G2 e1 e2=>⟨fun d hd=>?_,fun hi=>⟨xs,.inl (Ybd e2 (Ybd e1 g)),by rw[rl.length];exact hi⟩⟩)⟩⟩
  obtain⟨x,hx,rx⟩:=rl.get hd
  refine⟨⟨xs,x,.inl (Ybd e2 (Ybd e1 g)),hx⟩,fun y H3 q=>⟨q.1,?_⟩⟩
  have:=q.2 xs (.inl (Ybd e2 (Ybd e1 g)))
  rw[hx]at this
  cases this
  exact rx.mono e1
 ·rw[Rp]at r1
  obtain⟨p,rfl,g⟩:=r1
  have rl:RpL X.K G1 (ns.map D.int) (ns.map V.int):=.ints ns
  refine⟨p,_,rfl,.inl ⟨s1.seen.seq g,fun hz=>h _ H1 G1 g1 (Yyy (by rw[←rl.length];exact hz) fun i H2 G2 e1 e2=>⟨fun d hd=>?_,fun hi=>⟨_,e2.seq (e1.seq g),by rw[rl.length];exact hi⟩⟩)⟩⟩
  obtain⟨x,hx,rx⟩:=rl.get hd
  refine⟨⟨_,x,e2.seq (e1.seq g),hx⟩,fun y H3 q=>⟨q.1,?_⟩⟩
  have:=q.2 _ (e2.seq (e1.seq g))
  rw[hx]at this
  cases this
  exact rx.mono e1
noncomputable def rngD(a n:Int):List D:=(List.range (n - a).toNat).map fun i=>.int (a+(i:Nat))
theorem Ykc(a n:Int):(rngD a n).length=(n - a).toNat:=by simp[rngD]
theorem y52{a n:Int}{G':Hp}(hz:(n - a).toNat≤sizeLine):Wk K (Itr a (n - a).toNat) G' (rngD a n):=
 Yyy (by rw[Ykc];exact hz) fun i H2 G2 _ _=>⟨fun d hd=>by
  unfold rngD at hd
  rw[Qh]at hd
  obtain⟨j,h1,rfl⟩:=qb hd
  have hj:i < (n - a).toNat:=by
   have:=(qm h1).1
   simpa using this
  rw[List.getElem?_range hj]at h1
  cases h1
  exact⟨hj,fun y H3 q=>⟨q.1,by rw[Rp];exact q.2⟩⟩,fun hi=>by rw[Ykc]at hi;exact hi⟩
noncomputable def rng1:List D→Option (List D)
 | [.int n]=>if decide (-(cap6:Int)≤n)&&decide (n≤cap6)then some (rngD 0 n)else none
 | _=>none
theorem Yo4{l ds:List D}(h:rng1 l=some ds):∃n:Int,l=[.int n]∧-1000000≤n∧n≤1000000∧ds=rngD 0 n:=by
 unfold rng1 at h
 split at h
 ·rename_i n
  split at h
  ·rename_i hc
   cases h
   simp only[Qi,decide_eq_true_eq]at hc
   have hcap:(cap6:Int)=1000000:=by decide
   exact⟨n,rfl,by lia,by lia,rfl⟩
  ·cases h
 ·cases h
theorem Yvu{a:Expr}{ga:Ro→Option (List D)}{p:Pos}(hg:Gl X "range")(hm:X.mg "range"=none)(ha:MA X [a] ga)(hs:starEach [a] X.env=[(false,eval a X.env)]:=by rfl):MI X tg (.Call (.Name "range" p) [a] [] pos) (cF ga rng1):=
 PI.imp (Yu1 hg hm ha hs) fun σ H R hx_=>by
  obtain⟨ρ,ds,H0,G0,G,e,s,h⟩:=hx_
  unfold cF at e
  obtain⟨l,h1,h2⟩:=qa e
  refine tAof.at h1 s fun vs H1 G1 g1 r1 s1=>?_
  obtain⟨n,rfl,c1,c2,rfl⟩:=Yo4 h2
  obtain⟨v,rfl,rv⟩:=Ykb r1
  rw[Rp]at rv
  subst rv
  refine⟨n,rfl,by lia,by lia,?_⟩
  have:=h (Itr 0 (n - 0).toNat) H1 G1 g1 (y52 (Yfe (by unfold cap6;lia)))
  simpa using this
noncomputable def gSet(i:Nat):D→Ro→Option Ro:=fun d ρ=>some (ρ.set i (some (.sh d)))
theorem y2l(i:Nat){x:Str}(hN:X.N.Nodup)(hi:X.N[i]?=some x:=by rfl)(hx:Loc X.env.scope x:=by first | exact Or.inl rfl | exact Or.inr rfl)(hf:X.fn x=true∨X.env.scope.names.lookup x=some .local:=by first | exact .inl rfl | exact .inr rfl):MG X (.Name x pos) (gSet i):=
 PG.imp (Yqx hN hi hx hf) fun v σ H Q hx_=>by
  obtain⟨d,ρ,ρ',H0,G0,G,e,s,r,h⟩:=hx_
  cases e
  exact h _ (s.set_sh i r)
noncomputable def Yyz(i j:Nat):D→Ro→Option Ro:=fun d ρ=>match d with
 | .tup [a,b]=>some ((ρ.set i (some (.sh a))).set j (some (.sh b)))
 | _=>none
theorem y2m(i j:Nat){x y:Str}{px py:Pos}{k:Nat}(hc:X.calm=true)(hN:X.N.Nodup)(hi:X.N[i]?=some x:=by rfl)(hj:X.N[j]?=some y:=by rfl)(hx:Loc X.env.scope x:=by first | exact Or.inl rfl | exact Or.inr rfl)(hy:Loc X.env.scope y:=by first | exact Or.inl rfl | exact Or.inr rfl)
 (hf:X.fn x=true∨X.env.scope.names.lookup x=some .local:=by first | exact .inl rfl | exact .inr rfl) (hf2:X.fn y=true∨X.env.scope.names.lookup y=some .local:=by first | exact .inl rfl | exact .inr rfl):MG X (.Tuple [.Name x px,.Name y py] k pos) (Yyz i j):=
 PG.imp (y4g (n:=2) hc (Ysp (Yqx hN hi hx hf) (Ysp (Yqx hN hj hy hf2) y1h))) fun v σ H Q hx_=>by
  obtain⟨d,ρ,ρ',H0,G0,G,e,s,r,h⟩:=hx_
  match d,e,r with
  | .tup [a,b],e,r=>
    cases e
    rw[Rp]at r
    obtain⟨p,xs,rfl,g,rl⟩:=r
    rw[RpL]at rl
    obtain⟨u,us,rfl,ru,rl⟩:=rl
    obtain⟨w,rfl,rw'⟩:=Ykb rl
    exact⟨p,[u,w],rfl,.inl (.inl (s.seen _ _ g)),rfl,u,[w],rfl,w,[],rfl,rfl,h _ ((s.set_sh i ru).set_sh j rw')⟩
noncomputable def forM(gt:D→Ro→Option Ro)(fb:Ro→Option Out):List D→Ro→Option Out
 | [],ρ=>some (.nx ρ)
 | d::ds,ρ=>(gt d ρ).bind fun ρ1=>(fb ρ1).bind fun
   | .nx ρ2=>forM gt fb ds ρ2
   | .ct ρ2=>forM gt fb ds ρ2
   | .bk ρ2=>some (.nx ρ2)
   | .rt d=>some (.rt d)
noncomputable def sFor(gl:Ro→Option (List D))(gt:D→Ro→Option Ro)(fb:Ro→Option Out):Ro→Option Out:=fun ρ=>(gl ρ).bind fun ds=>forM gt fb ds ρ
theorem Ygg{gt:D→Ro→Option Ro}{fb:Ro→Option Out}:∀(ds:List D) (ρ:Ro) (out:Out),forM gt fb ds ρ=some out→(∃ρ',out=.nx ρ')∨∃d,out=.rt d
 | [],ρ,out,h=>by cases h;exact .inl ⟨_,rfl⟩
 | d::ds,ρ,out,h=>by
   rw[forM]at h
   obtain⟨ρ1,h1,h⟩:=qa h
   obtain⟨o,h2,h⟩:=qa h
   cases o with
   | nx ρ2=>exact Ygg ds ρ2 out h
   | ct ρ2=>exact Ygg ds ρ2 out h
   | bk ρ2=>cases h;exact .inl ⟨_,rfl⟩
   | rt d=>cases h;exact .inr ⟨_,rfl⟩
theorem y53{iter:Expr}{body:List Stmt}{gt:D→Ro→Option Ro}(hp:PassesOwn (model X.prog X.w) X.A X.env X.xe)(hc:X.calm=true)(hi:MI X tg iter gl)(hg:MG X tg gt)(hb:MB X body fs)
 (hs:∀x,foldedSetIterable iter X.env x=pure x:=by intro _;rfl):MS X (.For tg iter body [] pos) (sFor gl gt fs):=
 PS.imp (y4h hp hc hi hg hb hs) fun F σ H hx_=>by
  obtain⟨ρ,out,H0,G0,G,e,s,h⟩:=hx_
  unfold sFor at e
  obtain⟨ds,h1,h2⟩:=qa e
  refine⟨ρ,ds,H0,G0,G,h1,s,fun J H1 G1 g1 wk=>?_⟩
  obtain⟨Hb,sb,back⟩:=(s.grow g1).rebase
  have hout:=Ygg ds ρ out h2
  refine⟨fun i m σ' H'=>m=ds.length - i∧i≤ds.length∧∃ρ' G',SR X.K Hb G1 σ' H' G' ρ'∧forM gt fs (ds.drop i) ρ'=some out,⟨_,rfl,Qe _,ρ,G1,sb,h2⟩,?_⟩
  rintro i m σ' H' ⟨rfl,hi,ρ',G',s',e'⟩
  have W:=wk.2 i H' G' s'.gr.g s'.seen
  by_cases hlt:i < ds.length
  ·have hd:ds[i]?=some ds[i]:=qp hlt
   obtain⟨go,yl⟩:=W.1 _ hd
   rw[List.drop_eq_getElem_cons hlt,forM]at e'
   obtain⟨ρ1,e1,e'⟩:=qa e'
   obtain⟨o,e2,e'⟩:=qa e'
   refine .inr ⟨go,fun σ' H'=>i+1≤ds.length∧∃ρ' G',SR X.K Hb G1 σ' H' G' ρ'∧forM gt fs (ds.drop (i+1)) ρ'=some out,fun σ2 H2 q=>⟨ds.length - (i+1),by lia,rfl,q.1,q.2⟩,fun x H2 y=>?_⟩
   obtain⟨G2,g2,r2⟩:=yl x H2 y
   refine⟨_,ρ',ρ1,Hb,G1,G2,e1,s'.grow g2,r2,fun σ3 s3=>?_⟩
   refine⟨ρ1,o,Hb,G1,G2,e2,s3,?_⟩
   cases o with
   | nx ρ2=>exact fun σ4 H4 G4 s4=>⟨hlt,ρ2,G4,s4,e'⟩
   | ct ρ2=>exact fun σ4 H4 G4 s4=>⟨hlt,ρ2,G4,s4,e'⟩
   | bk ρ2=>
     cases e'
     exact fun σ4 H4 G4 s4=>h σ4 H4 G4 (back _ _ _ _ s4)
   | rt d=>
     cases e'
     refine fun v H4 G4 g4 r4=>h v H4 G4 ?_ r4
     have:=(back [] H4 G4 [] (SR.mkSh g4 rfl (fun i d e=>(by simp at e)) (fun i l e=>(by simp at e)) (fun i t ks vs e=>(by simp at e)))).gr
     exact this
  ·have ei:i=ds.length:=by lia
   subst ei
   rw[List.drop_length,forM]at e'
   cases e'
   exact .inl ⟨W.2 (qt _),h σ' H' G' (back _ _ _ _ s')⟩
noncomputable def capR(src:List (Option Nat))(ρ:Ro):Ro:=src.map fun o=>o.bind fun j=>match ρ[j]? with
 | some (some (B.sh d))=>some (.sh d)
 | _=>none
theorem SR.cap{H0 G0 H G:Hp}{σ:L2.St}{ρ:Ro}(s:SR K H0 G0 σ H G ρ)(src:List (Option Nat)):SR K H G (capσ src σ) H G (capR src ρ):=by
 have noow:∀(i:Nat) l,(capR src ρ)[i]?≠some (some (B.ow l)):=fun i l h=>by
  unfold capR at h
  rw[Qh]at h
  obtain⟨o,h1,h2⟩:=qb h
  obtain⟨j,rfl,h3⟩:=qa h2
  split at h3<;>cases h3
 have nood:∀(i:Nat) t ks vs,(capR src ρ)[i]?≠some (some (B.od t ks vs)):=fun i t ks vs h=>by
  unfold capR at h
  rw[Qh]at h
  obtain⟨o,h1,h2⟩:=qb h
  obtain⟨j,rfl,h3⟩:=qa h2
  split at h3<;>cases h3
 refine SR.mkSh (.refl s.seen) (by simp[capσ,capR]) (fun i d h=>?_) noow nood
 unfold capR at h
 rw[Qh]at h
 obtain⟨o,h1,h2⟩:=qb h
 obtain⟨j,rfl,h3⟩:=qa h2
 split at h3
 ·rename_i d' hd
  cases h3
  obtain⟨v,q1,q2⟩:=s.sh j _ hd
  refine⟨v,?_,q2⟩
  unfold capσ
  rw[Qh,h1]
  show some ((σ[j]?).join)=some (some v)
  rw[q1]
  rfl
 ·cases h3
noncomputable def Yh4(gt:D→Ro→Option Ro)(fc:Ro→Option Bool)(fe:Ro→Option D)(ρ:Ro):List D→Option (List D)
 | []=>some []
 | d::ds=>(gt d ρ).bind fun ρ1=>(fc ρ1).bind fun k=>if k=true then (fe ρ1).bind fun v=>(Yh4 gt fc fe ρ ds).map (v::·)else Yh4 gt fc fe ρ ds
noncomputable def Yas(gl:Ro→Option (List D))(src:List (Option Nat))(gt:D→Ro→Option Ro)(fc:Ro→Option Bool)(fe:Ro→Option D):Ro→Option (List D):=fun ρ=>(gl ρ).bind fun ds=>Yh4 gt fc fe (capR src ρ) ds
noncomputable def tY:Ro→Option Bool:=fun _=>some true
theorem y2n{σ:L2.St}{H:Hp}{Q:Bool→Hp→Prop}(h:tTof K tY σ H Q):tYes σ H Q:=by
 obtain⟨ρ,k,H0,G0,G,e,s,h⟩:=h
 cases e
 exact h H G (.refl s.seen)
theorem y54:PIfs X [] (tTof X.K tY):=fun pins s σ H Q I h=>y12 pins s σ H Q I (y2n h)
theorem Yag{src:List (Option Nat)}{i:Nat}(h:src[i]?=some none):∀ρ d ρ1,gSet i d (capR src ρ)=some ρ1→Le (capR src ρ) ρ1:=fun ρ d ρ1 e=>by
 cases e
 refine⟨by simp,fun j b hb=>?_⟩
 by_cases hj:j=i
 ·subst hj
  unfold capR at hb
  rw[Qh,h]at hb
  cases hb
 ·rw[Qg (Ne.symm hj)];exact hb
theorem Yvv{src:List (Option Nat)}{gt:D→Ro→Option Ro}{fc:Ro→Option Bool}{fe:Ro→Option D}(hle:∀ρ d ρ1,gt d (capR src ρ)=some ρ1→Le (capR src ρ) ρ1){σ:L2.St}{H:Hp}{Q:VK}
 (h:tFof K (Yas gl src gt fc fe) σ H Q):tLC (tIof K gl) src (gOf K gt) (tTof K fc) (tOf K fe) σ H Q:=by
 obtain⟨ρ,l,H0,G0,G,e,s,h⟩:=h
 unfold Yas at e
 obtain⟨ds,h1,h2⟩:=qa e
 refine⟨ρ,ds,H0,G0,G,h1,s,fun J H1 G1 g1 wk p hp=>?_⟩
 have s1:=s.grow g1
 have sc:=s1.cap src
 have gp:G1 p=none:=s1.seen.free hp
 refine⟨fun i m σ' H'=>m=ds.length - i∧i≤ds.length∧∃G' done xs rest,SR K H1 G1 σ' H' G' (capR src ρ)∧H' p=some (.lst xs)∧G' p=none∧RpL K G' done xs∧xs.length≤i∧Yh4 gt fc fe (capR src ρ) (ds.drop i)=some rest∧done++rest=l,
  ⟨_,rfl,Qe _,G1,[],[],l,sc.grow (Gr.hid s1.seen hp _),y0,gp,.nil,Qe _,h2,rfl⟩,?_⟩
 rintro i m σ' H' ⟨rfl,hi,G',done,xs,rest,s',hx,gx,rx,hl,e',hd⟩
 have W:=wk.2 i H' G' s'.gr.g s'.seen
 by_cases hlt:i < ds.length
 ·have hdi:ds[i]?=some ds[i]:=qp hlt
  obtain⟨go,yl⟩:=W.1 _ hdi
  rw[List.drop_eq_getElem_cons hlt,Yh4]at e'
  obtain⟨ρ1,e1,e'⟩:=qa e'
  obtain⟨k,e2,e'⟩:=qa e'
  refine .inr ⟨go,fun x H2 y=>?_⟩
  obtain⟨G2,g2,r2⟩:=yl x H2 y
  have keep:∀{Ha Ga Hb Gb:Hp},Gr Ha Ga Hb Gb→Ha p=some (.lst xs)→Ga p=none→Hb p=some (.lst xs)∧Gb p=none:=fun {Ha Ga Hb Gb} g e1 e2=>by
   refine⟨g.h _ _ e1,?_⟩
   cases q:Gb p with
   | none=>rfl
   | some o=>
     have:=g.n p e2 (by rw[q];exact fun z=>nomatch z)
     rw[e1]at this
     cases this
  obtain⟨hx2,gx2⟩:=keep g2 hx gx
  refine⟨_,capR src ρ,ρ1,H1,G1,G2,e1,s'.grow g2,r2,fun σ3 s3=>?_⟩
  refine tTof.at e2 s3 fun H4 G4 g4 s4=>?_
  obtain⟨hx4,gx4⟩:=keep g4 hx2 gx2
  have le:=hle ρ _ ρ1 e1
  cases k with
  | false=>
    rw[if_neg qh]at e' ⊢
    exact⟨ds.length - (i+1),by lia,rfl,hlt,G4,done,xs,rest,s4.le le,hx4,gx4,(rx.mono g2.g).mono g4.g,by lia,e',hd⟩
  | true=>
    rw[if_pos rfl]at e' ⊢
    obtain⟨v,e3,e'⟩:=qa e'
    obtain⟨rest',e4,rfl⟩:=qb e'
    refine tOf.at e3 s4 fun w H5 G5 g5 r5 s5=>?_
    obtain⟨hx5,gx5⟩:=keep g5 hx4 gx4
    have hz:=wk.1
    refine⟨xs,hx5,by lia,ds.length - (i+1),by lia,rfl,hlt,G5,done++[v],xs++[w],rest',?_,y0,gx5,(((rx.mono g2.g).mono g4.g).mono g5.g).append (.one r5),by simp;lia,e4,by simpa using hd⟩
    have s6:=s5.le le
    have noow:∀(i:Nat) l,(capR src ρ)[i]?≠some (some (B.ow l)):=fun i l h=>by
     unfold capR at h
     rw[Qh]at h
     obtain⟨o,h1,h2⟩:=qb h
     obtain⟨j,rfl,h3⟩:=qa h2
     split at h3<;>cases h3
    have nood:∀(i:Nat) t ks vs,(capR src ρ)[i]?≠some (some (B.od t ks vs)):=fun i t ks vs h=>by
     unfold capR at h
     rw[Qh]at h
     obtain⟨o,h1,h2⟩:=qb h
     obtain⟨j,rfl,h3⟩:=qa h2
     split at h3<;>cases h3
    refine SR.mkSh ⟨fun b o q=>?_,s6.gr.g,fun b o q=>?_,s6.gr.n⟩ s6.len s6.sh noow nood
    ·rw[Yaa (y9 q hp)];exact s6.gr.h b o q
    ·rw[Yaa (y9 q gx5)];exact s6.gr.s b o q
 ·have ei:i=ds.length:=by lia
  subst ei
  rw[List.drop_length,Yh4]at e'
  cases e'
  rw[List.append_nil]at hd
  subst hd
  exact .inl ⟨W.2 (qt _),h p xs H' G' (g1.trans s'.gr) (g1.h.free hp) gx hx rx⟩
section
variable {elt iter:Expr} {ifs:List Expr} {scope:Scope} {N:List Str} {src:List (Option Nat)} {gt:D→Ro→Option Ro} {fc:Ro→Option Bool} {fe:Ro→Option D}
theorem y2o(S:CompSc X.N X.env.scope N src scope)(hc:X.calm=true)(hit:MI X tg iter gl)(hg:∀cl C fp s H,MG (Yaz X scope N cl C fp s H) tg gt)(hi:∀cl C fp s H,PIfs (Yaz X scope N cl C fp s H) ifs (tTof X.K fc))(he:∀cl C fp s H,ME (Yaz X scope N cl C fp s H) elt fe)
 (hle:∀ρ d ρ1,gt d (capR src ρ)=some ρ1→Le (capR src ρ) ρ1) (hs:∀x,foldedSetIterable iter X.env x=pure x:=by intro _;rfl):MF X (.ListComp elt [⟨tg,iter,ifs,0⟩] scope pos) (Yas gl src gt fc fe):=
 PE.imp (y14 S hc hit hg hi he hs) fun _ _ _ h=>Yvv hle h
theorem y2p(i:Nat){y:Str}{py spos:Pos}(hN:X.N.Nodup)(S:CompSc X.N X.env.scope N src scope)(hc:X.calm=true)(hit:MI X tg iter gl)(hg:∀cl C fp s H,MG (Yaz X scope N cl C fp s H) tg gt)(hi:∀cl C fp s H,PIfs (Yaz X scope N cl C fp s H) ifs (tTof X.K fc))(he:∀cl C fp s H,ME (Yaz X scope N cl C fp s H) elt fe)
 (hle:∀ρ d ρ1,gt d (capR src ρ)=some ρ1→Le (capR src ρ) ρ1) (hsw:swapsWith (.ListComp elt [⟨tg,iter,ifs,0⟩] scope pos) (some (.Name y py)) spos.line X.env=pure true:=by rfl) (hy:X.N[i]?=some y:=by rfl) (hx:Loc X.env.scope y:=by first | exact Or.inl rfl | exact Or.inr rfl)
 (hf:X.fn y=true∨X.env.scope.names.lookup y=some .local:=by first | exact .inl rfl | exact .inr rfl) (hs:∀x,foldedSetIterable iter X.env x=pure x:=by intro _;rfl):MS X (.Assign [.Name y py] (.ListComp elt [⟨tg,iter,ifs,0⟩] scope pos) spos) (sOwn i (Yas gl src gt fc fe)):=
 PS.imp (y15 S hc hit hg hi he hN hy hx hsw hf hs) fun F σ H h=>by
  obtain⟨ρ,out,H0,G0,G,e,s,h⟩:=h
  obtain⟨l,h1,rfl⟩:=qb e
  exact Yvv hle ⟨ρ,l,H0,G0,G,h1,s,fun p xs H' G' g hp gp e' r=>h _ H' G' (s.set_ow i g hp gp e' r)⟩
end
noncomputable def Yai(n:Nat)(ds:List D):Ro:=ds.map (fun d=>some (.sh d))++List.replicate (n - ds.length) none
noncomputable def runB(k n:Nat)(fb:Ro→Option Out)(ds:List D):Option D:=if ds.length=k then (fb (Yai n ds)).bind fun
 | .rt d=>some d
 | .nx _=>some .non
 | _=>none
 else none
theorem SR.start{H G:Hp}{ds:List D}{vs:List V}{N:List Str}(s:Same G H)(r:RpL K G ds vs):SR K H G (start N vs) H G (Yai N.length ds):=by
 have hl:=r.length
 have noow:∀(i:Nat) l,(Yai N.length ds)[i]?≠some (some (B.ow l)):=fun i l h=>by
  unfold Yai at h
  rw[List.getElem?_append]at h
  split at h
  ·rw[Qh]at h
   obtain⟨d,_,h2⟩:=qb h
   cases h2
  ·rw[List.getElem?_replicate]at h
   split at h<;>cases h
 have nood:∀(i:Nat) t ks vs,(Yai N.length ds)[i]?≠some (some (B.od t ks vs)):=fun i t ks vs h=>by
  unfold Yai at h
  rw[List.getElem?_append]at h
  split at h
  ·rw[Qh]at h
   obtain⟨d,_,h2⟩:=qb h
   cases h2
  ·rw[List.getElem?_replicate]at h
   split at h<;>cases h
 refine SR.mkSh (.refl s) (by simp[L2.start,Yai,hl]) (fun i d h=>?_) noow nood
 unfold Yai at h
 rw[List.getElem?_append]at h
 split at h
 ·rename_i hi
  rw[Qh]at h
  obtain⟨d',h1,h2⟩:=qb h
  cases h2
  obtain⟨v,h3,h4⟩:=r.get h1
  refine⟨v,?_,h4⟩
  unfold L2.start
  rw[List.getElem?_append_left (by rw[qe,hl];simpa using hi),Qh,h3]
  rfl
 ·rw[List.getElem?_replicate]at h
  split at h<;>cases h
section
variable {P:Program} {w:World} {mg:Str→Option Value} {base:Heap}
theorem Yvw{x qual:Str}{st:Stmt}{f:Addr}{fd:FuncData}{N ps:List Str}{k n m:Nat}{fb:Ro→Option Out}(F:Fun K x qual st f fd)(S:FnScope N ps (defScope st))(hn:N.length=n)(hm:ps.length=m)
 (hb:∀(cdv:Value) (A:Around) (outer:List Env) (s:Shared) (H:Hp) (E:XK),Room k (A.deeper (envOfC qual (defScope st) s.heap.objs.size f cdv))→MB (cxOf CX0 P w K mg base N qual (defScope st) f cdv A outer s H E).nox (defBody st) fb) :
 FnOk P w K mg base CX0 (k+1) f fd ps (spOf K m (runB m n fb)):=by
 refine F.ok S (fun vs H Q E h=>by rw[h.1,hm]) fun cdv A outer s H vs Q E hr h=>?_
 obtain⟨hl,ds,d,G,sm,r,e,q⟩:=h
 refine⟨_,hb cdv A outer s H E hr,?_⟩
 unfold runB at e
 split at e
 ·rename_i hds
  obtain⟨o,h1,h2⟩:=qa e
  refine⟨Yai n ds,o,H,G,G,h1,by rw[←hn];exact SR.start sm r,?_⟩
  cases o with
  | rt d'=>cases h2;exact fun v H' G' g r'=>q v H' G' g r'
  | nx ρ=>cases h2;exact fun σ' H' G' s'=>q .non H' G' s'.gr (by rw[Rp])
  | bk ρ=>cases h2
  | ct ρ=>cases h2
 ·cases e
end
end
end
section
variable {K:W.Frag}
def Okf(P:Program)(w:World)(K:W.Frag)(mg:Str→Option Value)(base:Heap)(k n:Nat)(x:Str)(ps:List Str)(fn:List D→Option D):Prop:=
 ∃a fd,FnOk P w K mg base CX0 k a fd ps (spOf K n fn)∧Binds K fd ps []∧W.keepIn K (.ref a)=true∧mg x=some (.ref a)
theorem Yal{P:Program}{w:World}{K:W.Frag}{mg:Str→Option Value}{base:Heap}{k n:Nat}{x q:Str}{ps:List Str}{fn:List D→Option D}{st:Stmt}{a:Addr}{fd:FuncData}(F:Fun K x q st a fd)(b:Binds K fd ps [])
 (hm:mg x=some (.ref a)) (h:FnOk P w K mg base CX0 k a fd ps (spOf K n fn)):Okf P w K mg base k n x ps fn:=⟨a,fd,h,b,F.kp,hm⟩
section
variable {X:Cx} {a b e:Expr} {es:List Expr} {fa fb:Ro→Option D} {ga:Ro→Option (List D)} {pos:Pos}
theorem Yy0{j k n:Nat}{x:Str}{p:Pos}{ps:List Str}{fn:List D→Option D}(c:Okf X.prog X.w X.K X.mg X.base j n x ps fn)(hr:Room k X.A)(hg:Gl X x)(ha:MA X (e::es) ga)(hl:∀ρ l,ga ρ=some l→l.length=n)
 (hj:j≤k:=by first | exact qt _ | lia) (hdb:(x==("__debug__":Str))=false:=by decide) (he:starEach (e::es) X.env=(false,eval e X.env)::starEach es X.env:=by rfl) (hpl:(backTo pos (starEach es X.env)).any (·.1)=false:=by rfl) :
 ME X (.Call (.Name x p) (e::es) [] pos) (cC ga fn):=by
 obtain⟨a,fd,F,hb,hk,hm⟩:=c
 exact y2j F (hr.mono hj) hg hm hk hb ha hdb he hpl hl
theorem y55(ha:MC X a fa)(hb:MC X b fb):ME X (.BinOp a .Add b pos) (b2 fa fb addI):=Yo2 y4i Yvk ha hb
noncomputable def catD:D→D→Option (List D)
 | .lst a,.lst b=>if a.length+b.length≤cap6 then some (a++b)else none
 | _,_=>none
noncomputable def y77:R2:=fun x y H Q=>∃l b xs zs,x=.ref l∧y=.ref b∧Rd H l (.lst xs)∧Rd H b (.lst zs)∧xs.length+zs.length≤sizeLine∧∀p,H p=none→Q (.ref p) (upd H p (.lst (xs++zs)))
theorem y2q:OpR X (binaryOp .Add) y77:=by
 intro pins s σ H x y v u Q I rx ry h
 obtain⟨l,b,xs,zs,rfl,rfl,hH,hB,hz,q⟩:=h
 cases rx
 cases ry
 obtain⟨z,its,n,r,e⟩:=hH.ok I.hok
 obtain⟨z2,its2,n2,r2,e2⟩:=hB.ok I.hok
 have hl:=r.length
 have hl2:=r2.length
 refine PySem.P.add_list e e2 ?_ (by rw[qj,qj];lia)
 have ea:its.toArray++its2.toArray=(its++its2).toArray:=by simp
 rw[ea]
 exact⟨.ref _,_,I.lnew (t':=s.toks) (r.append r2) (by rw[qy];lia),rfl,q _ I.fresh⟩
theorem y56(ha:MC X a fa)(hb:MC X b fb):MF X (.BinOp a .Add b pos) (b2 fa fb catD):=PE.imp (y1j y2q ha hb) fun σ H Q hx_=>by
 obtain⟨ρ,l,H0,G0,G,e,s,h⟩:=hx_
 obtain⟨dx,dy,h1,h2,h3⟩:=Yj9 e
 refine tCof.at h1 s fun v H1 G1 g1 r1 s1=>tCof.at h2 s1 fun u H2 G2 g2 r2 s2=>?_
 unfold catD at h3
 split at h3
 ·rename_i l1 l2
  split at h3
  ·rename_i hz
   cases h3
   have r1':=r1.grow g2
   rw[Ct]at r1' r2
   obtain⟨p,xs,rfl,gp,rl⟩:=r1'
   obtain⟨q,zs,rfl,gq,rm⟩:=r2
   refine⟨p,q,xs,zs,rfl,rfl,gp,gq,by rw[rl.length,rm.length];exact Yfe hz,fun m hm=>?_⟩
   exact h m _ _ G2 ((g1.trans g2).trans (.hid s2.seen hm _)) (g1.h.free (g2.h.free hm)) (s2.seen.free hm) y0 (rl.append rm)
  ·cases h3
 ·cases h3
noncomputable def Yha:D→String
 | .non=>"NoneType"
 | .bl _=>"bool"
 | .int _=>"int"
 | .str _=>"str"
 | .tup _=>"tuple"
 | .lst _=>"list"
 | .scr _=>"list"
 | .dct _ _ _=>"dict"
noncomputable def Yy1:D→Bool
 | .scr _=>false
 | .dct _ _ _=>false
 | _=>true
noncomputable def isiD(T:String)(d:D):Option Bool:=if Yy1 d=true then some (Yha d==T||(T=="int"&&Yha d=="bool"))else none
theorem y2r{G H:Hp}{d:D}{v:V}(hn:Yy1 d=true)(r:Ct K G H d v):TyOf K H v (.type (Yha d)):=by
 cases d<;>rw[Ct]at r
 ·subst r;exact .non
 ·subst r;exact .bl _
 ·subst r;exact .int _
 ·obtain⟨rfl,_⟩:=r;exact .str _
 ·obtain⟨a,xs,rfl,g,_⟩:=r;exact .tup g.1
 ·obtain⟨a,xs,rfl,g,_⟩:=r
  rcases g with g | ⟨o,g⟩
  ·exact .lst g
  ·exact .frz g
 ·cases hn
 ·cases hn
def Kit(T:String):Prop:=∀(K:W.Frag) (d:D),W.kitOne K (.type (Yha d)) (.type T)=some (Yha d==T||(T=="int"&&Yha d=="bool"))
theorem Ym7:Kit "int":=fun K d=>by cases d<;>rfl
theorem Yd5:Kit "bool":=fun K d=>by cases d<;>rfl
theorem Ym8:Kit "str":=fun K d=>by cases d<;>rfl
theorem Ycw:Kit "tuple":=fun K d=>by cases d<;>rfl
theorem Yy2:Kit "list":=fun K d=>by cases d<;>rfl
theorem Yy3{T:String}(hk:Kit T):Ycv X (.builtin "isinstance") (fun xs H Q=>∃x d G,xs=[x,.ty T]∧Yy1 d=true∧Ct X.K G H d x∧Q (.bl (Yha d==T||(T=="int"&&Yha d=="bool"))) H):=by
 intro pins s σ H xs us Q I r h
 obtain⟨x,d,G,rfl,hn,rx,q⟩:=h
 obtain⟨u,w',rfl,r1,r2⟩:=Yu5 r
 cases (show w'=Value.type T from r2)
 exact Yu7 I r1 (y2r hn rx) (hk X.K d) fun tk=>⟨.bl _,H,I.tok tk,rfl,q⟩
theorem y57{T:String}{tn:Str}{p p2:Pos}(ha:MC X a fa)(hg:Gl X "isinstance")(hg2:Gl X tn)(hm:X.mg "isinstance"=none)(hm2:X.mg tn=none)(hv2:bootBuiltins tn=some (.type T))(hk:Kit T)(hv:bootBuiltins "isinstance"=some (.builtin "isinstance"):=by decide +kernel)
 (hn2:tn≠"__name__":=by decide) (hd2:(tn==("__debug__":Str))=false:=by decide)
 (hs:starEach [a,.Name tn p2] X.env=(false,eval a X.env)::starEach [.Name tn p2] X.env:=by rfl) (hs2:starEach [.Name tn p2] X.env=(false,eval (.Name tn p2) X.env)::starEach [] X.env:=by rfl) (hpl:(backTo pos (starEach [.Name tn p2] X.env)).any (·.1)=false:=by rfl) :
 ME X (.Call (.Name "isinstance" p) [a,.Name tn p2] [] pos) (mB (b1 fa (isiD T))):=
 PE.imp (Yfx (Yy3 hk) hg hm hv (Ydn ha (Ydn (y1d hg2 hm2 hv2 (v:=.ty T) rfl hn2 hd2) Ygz hs2) hs) (by decide) (by decide) hs hpl) fun σ H Q hx_=>by
  obtain⟨ρ,d,H0,G0,G,e,s,h⟩:=hx_
  obtain⟨k,ek,rfl⟩:=Yq4 e
  obtain⟨x,h1,h2⟩:=Ych ek
  unfold isiD at h2
  split at h2
  ·cases h2
   exact tCof.at h1 s fun v H1 G1 g1 r1 s1=>⟨v,x,G1,rfl,by assumption,r1,h _ H1 G1 g1 (by rw[Rp])⟩
  ·cases h2
end
end
section
variable {K:W.Frag}
noncomputable def insI(a:Int):List Int→List Int
 | []=>[a]
 | b::l=>if a≤b then a::b::l else b::insI a l
noncomputable def Yq8:List Int→List Int
 | []=>[]
 | a::l=>insI a (Yq8 l)
theorem Ykd(a:Int):∀l:List Int,(insI a l).Perm (a::l)
 | []=>.refl _
 | b::l=>by
   rw[insI]
   split
   ·exact .refl _
   ·exact((Ykd a l).cons b).trans (.swap a b l)
theorem Yh5:∀l:List Int,(Yq8 l).Perm l
 | []=>.refl _
 | a::l=>(Ykd a _).trans ((Yh5 l).cons a)
theorem Yke(a:Int):∀l:List Int,l.Pairwise (·≤·)→(insI a l).Pairwise (·≤·)
 | [],_=>by simp[insI]
 | b::l,h=>by
   rw[insI]
   split
   ·rename_i hab
    refine List.pairwise_cons.mpr ⟨fun x hx=>?_,h⟩
    rcases qr hx with rfl | hx
    ·exact hab
    ·exact Int.le_trans hab ((List.pairwise_cons.mp h).1 x hx)
   ·rename_i hab
    refine List.pairwise_cons.mpr ⟨fun x hx=>?_,Yke a l (List.pairwise_cons.mp h).2⟩
    rcases qr ((Ykd a l).mem_iff.mp hx)with rfl | hx
    ·lia
    ·exact(List.pairwise_cons.mp h).1 x hx
theorem Yi0:∀l:List Int,(Yq8 l).Pairwise (·≤·)
 | []=>.nil
 | a::l=>Yke a _ (Yi0 l)
section
variable {prog:Program} {w:World} {A:Around} {E:Value→Shared→Prop} {s:Shared}
theorem Yt1{l:Addr}{vs:List Value}{Q:Value→Shared→Prop}(hl:s.heap.IsList l vs.toArray)(h2:vs.length < 2)
 (h:Q (.ref (s.heap.objs.size+1)) { s with heap:=sortedAll s.heap vs vs.toArray }):wpAny (model prog w) A (call (.builtin "sorted") [.ref l]) Q E s:=by
 refine Calls.call_function_entry kind_sorted plain_sorted entry_sorted (args_sorted1 _) ?_
 unfold Builtin.«sorted»
 refine wpAny_bind (m:=checkCount "sorted" 1 1 _) (wpAny_pure ?_)
 refine wpAny_bind (collect_list hl ?_ (by rw[sizeLine_eq];lia))
 refine wpAny_bind (wpAny_newList ?_ (by rw[sizeLine_eq];lia))
 have hsz:((s.heap.push (seqObj "list" #[] 0)).update s.heap.objs.size (Obj.mapSeq (·++vs.toArray))).objs.size=s.heap.objs.size+1:=by
  rw[Heap.size_update,size_push']
 have hoL:(((s.heap.push (seqObj "list" #[] 0)).update s.heap.objs.size (Obj.mapSeq (·++vs.toArray))).push (seqObj "list" vs.toArray 0)).get? (s.heap.objs.size+1)=some (seqObj "list" vs.toArray 0):=by
  rw[←hsz];exact qo _ rfl
 show wpAny _ _ _ _ _ { s with heap:=((s.heap.push (seqObj "list" #[] 0)).update s.heap.objs.size (Obj.mapSeq (·++vs.toArray))).push (seqObj "list" vs.toArray 0) }
 rw[hsz]
 refine wpAny_bind (wpAny_holding (wpAny_call_entry slot_list_sort ⟨_,hoL,rfl⟩ entry_list_sort ?body (args_list_sort _)))
 case body=>
  rw[list_sort_plain]
  generalize hS:({ s with heap:=((s.heap.push (seqObj "list" #[] 0)).update s.heap.objs.size (Obj.mapSeq (·++vs.toArray))).push (seqObj "list" vs.toArray 0) }:Shared)=S at *
  have hoS:S.heap.get? (s.heap.objs.size+1)=some (seqObj "list" vs.toArray 0):=by rw[←hS];exact hoL
  have ha:s.heap.objs.size+1 < S.heap.objs.size:=qk hoS
  refine wpAny_bind (listItems_at hoS rfl ?_)
  refine wpAny_bind (listUpdate_at hoS rfl ?_ (by rw[qj,sizeLine_eq];lia) (Qe _))
  obtain⟨e1,ho1⟩:∃e1,(S.heap.update (s.heap.objs.size+1) (Obj.mapSeq fun _=>#[])).get? (s.heap.objs.size+1)=some (seqObj "list" #[] e1):=⟨_,get?_update_seq hoS (fun _=>#[])⟩
  refine wpAny_bind (seqEpoch_at ho1 rfl ?_)
  refine wpAny_bind (wpAny_newTuple ?_ (by show vs.length≤_;rw[sizeLine_eq];lia))
  refine wpAny_bind (wpAny_newList ?_ (Qe _))
  refine wpAny_holding ?_
  have ho6:(((S.heap.update (s.heap.objs.size+1) (Obj.mapSeq fun _=>#[])).push (seqObj "tuple" vs.toArray 0)).push (seqObj "list" #[] 0)).get? (s.heap.objs.size+1)=some (seqObj "list" #[] e1):=by
   rw[Heap.get?_push_ne _ _ _ (by rw[size_push',Heap.size_update];exact ql (qv ha)),Heap.get?_push_ne _ _ _ (by rw[Heap.size_update];exact ql ha)]
   exact ho1
  show wpAny (model prog w) _ _ _ _ { S with heap:=((S.heap.update (s.heap.objs.size+1) (Obj.mapSeq fun _=>#[])).push (seqObj "tuple" vs.toArray 0)).push (seqObj "list" #[] 0) }
  dsimp only
  have hlt:vs.toArray.size < 2:=by rw[qj];exact h2
  rw[if_pos hlt,if_pos hlt]
  refine wpAny_bind (wpAny_pure ?_)
  rw[StateT.run_pure]
  refine wpAny_bind (wpAny_pure ?_)
  dsimp only
  refine wpAny_bind (seqEpoch_at ho6 rfl ?_)
  refine wpAny_bind (listUpdate_at ho6 rfl ?_ (hsz2:=by rw[Array.size_map];show(pairsOf vs).size≤_;rw[pairsOf_size,sizeLine_eq];lia))
  simp only[bne_self_eq_false,Bool.false_eq_true,if_false]
  have hout:(arrOf (SortSt.mk' general' (vs.toArray.zip vs.toArray) #[] 7 none)).map (·.2)=vs.toArray:=by
   show(vs.toArray.zip vs.toArray).map (·.2)=vs.toArray
   apply Array.toList_inj.mp
   simp[List.map_snd_zip]
  refine wpAny_pure ⟨_,rfl,wpAny_pure ⟨_,rfl,?_⟩⟩
  have hh:=h
  unfold sortedAll sortedHeap at hh
  rw[←hS,hout]
  exact hh
noncomputable def plt(j:Int)(q:Bool)(i:Int)(p:Bool):Bool:=if j=i then (!q&&p)else decide (j < i)
theorem Yvx{b c:Addr}{i j:Int}{p q:Bool}{t u:Tok}{R:Bool→Shared→Prop}(hb:IsTup s.heap b #[.int i t,.bool p])(hc:IsTup s.heap c #[.int j u,.bool q])(h:R (plt j q i p) s) :
 wpAny (model prog w) A (keyLt' (tuples' true) (.ref c) (.ref b)) R E s:=by
 obtain⟨ob,h1,_,n1,d1⟩:=hb
 obtain⟨oc,h2,_,n2,d2⟩:=hc
 refine W.kat_lt h2 d2 h1 d1 ?_
 show W.KatLex prog w A true false R [(.int j u,.int i t),(.bool q,.bool p)] 0 s
 unfold plt at h
 refine W.kat_cons (SeqAt.EqAt.int_int j u i t prog w _ _ (W.kat_go (fun e=>W.kat_yes (W.kat_cons (SeqAt.EqAt.bool_bool q p prog w _ _ (W.kat_go (fun e2=>W.kat_yes (W.kat_nil ?_)) fun e2=>W.kat_no (W.kat_one _ _ (lt_bool ?_)))))) fun e=>W.kat_no ?_))
 ·have e':j=i:=by simpa using e
  have e2':q=p:=by simpa using e2
  rw[if_pos e',e2']at h
  cases p<;>exact h
 ·have e':j=i:=by simpa using e
  rw[if_pos e']at h
  show R _ s
  cases p<;>cases q<;>first | exact h | simp at e2
 ·have e':¬j=i:=by simpa using e
  rw[if_neg e']at h
  exact oneLt_int h
theorem Ymm{cmp:Nat→Nat→(Bool→Shared→Prop)→Shared→Prop}{G:Array Nat→Shared→Prop}{S:Shared}(h:cmp 1 0 (fun k s'=>if k=true then G #[1,0] s' else G #[0,1] s') S):(W.kas_sort 2).kasWp cmp G S:=by
 show cmp 1 0 (fun k s'=>W.KasT.kasWp cmp _ G s') S
 have e:∀(k:Bool) (s':Shared),(if k=true then G #[1,0] s' else G #[0,1] s')=W.KasT.kasWp cmp (W.KasT.bind (W.KasT.bind (if k=true then W.KasT.ret 1 else W.kas_asc (List.toArray (List.range 2)) 0 2)
  fun n=>if (n==2)=true then W.KasT.ret (n,List.toArray (List.range 2))else if n > 1 then .ask ((List.toArray (List.range 2)).getD 0 0) ((List.toArray (List.range 2)).getD (n - 1) 0) fun c=>if c=true then .ret (n,List.toArray (List.range 2))else W.kas_descPart n 2 (W.kas_rev (List.toArray (List.range 2)) 0 n)
   else W.kas_descPart n 2 (List.toArray (List.range 2))) fun r=>if r.1 < 2 then W.kas_bin (2 - max r.1 1) r.2 (max r.1 1)else .ret r.2) G s':=fun k s'=>by cases k<;>rfl
 have e2:(fun(k:Bool) (s':Shared)=>if k=true then G #[1,0] s' else G #[0,1] s')=_:=funext fun k=>funext fun s'=>e k s'
 rw[e2]at h
 exact h
theorem Yt2{l b c:Addr}{i j:Int}{p q:Bool}{t u:Tok}{Q:Value→Shared→Prop}(hl:s.heap.IsList l #[.ref b,.ref c])(hb:IsTup s.heap b #[.int i t,.bool p])(hc:IsTup s.heap c #[.int j u,.bool q])
 (h:Q (.ref (s.heap.objs.size+1)) { s with heap:=sortedAll s.heap [.ref b,.ref c] (if plt j q i p=true then #[.ref c,.ref b]else #[.ref b,.ref c]) }):wpAny (model prog w) A (call (.builtin "sorted") [.ref l]) Q E s:=by
 generalize hvs:[Value.ref b,Value.ref c]=vs at *
 have hl':s.heap.IsList l vs.toArray:=hl
 have hlen:vs.length=2:=by rw[←hvs];rfl
 refine Calls.call_function_entry kind_sorted plain_sorted entry_sorted (args_sorted1 _) ?_
 unfold Builtin.«sorted»
 refine wpAny_bind (m:=checkCount "sorted" 1 1 _) (wpAny_pure ?_)
 refine wpAny_bind (collect_list hl' ?_ (by rw[sizeLine_eq];lia))
 refine wpAny_bind (wpAny_newList ?_ (by rw[sizeLine_eq];lia))
 have hsz:((s.heap.push (seqObj "list" #[] 0)).update s.heap.objs.size (Obj.mapSeq (·++vs.toArray))).objs.size=s.heap.objs.size+1:=by
  rw[Heap.size_update,size_push']
 have hoL:(((s.heap.push (seqObj "list" #[] 0)).update s.heap.objs.size (Obj.mapSeq (·++vs.toArray))).push (seqObj "list" vs.toArray 0)).get? (s.heap.objs.size+1)=some (seqObj "list" vs.toArray 0):=by
  rw[←hsz];exact qo _ rfl
 have keep0:∀b o,s.heap.get? b=some o→(((s.heap.push (seqObj "list" #[] 0)).update s.heap.objs.size (Obj.mapSeq (·++vs.toArray))).push (seqObj "list" vs.toArray 0)).get? b=some o:=fun b o q=>by
  have hlt:b < s.heap.objs.size:=qk q
  rw[Heap.get?_push_ne _ _ _ (by rw[hsz];exact ql (qv hlt)),Heap.get?_update_ne _ _ _ _ (ql hlt),Heap.get?_push_ne _ _ _ (ql hlt)]
  exact q
 show wpAny _ _ _ _ _ { s with heap:=((s.heap.push (seqObj "list" #[] 0)).update s.heap.objs.size (Obj.mapSeq (·++vs.toArray))).push (seqObj "list" vs.toArray 0) }
 rw[hsz]
 refine wpAny_bind (wpAny_holding (wpAny_call_entry slot_list_sort ⟨_,hoL,rfl⟩ entry_list_sort ?body (args_list_sort _)))
 case body=>
  rw[list_sort_plain]
  generalize hS:({ s with heap:=((s.heap.push (seqObj "list" #[] 0)).update s.heap.objs.size (Obj.mapSeq (·++vs.toArray))).push (seqObj "list" vs.toArray 0) }:Shared)=S at *
  have hoS:S.heap.get? (s.heap.objs.size+1)=some (seqObj "list" vs.toArray 0):=by rw[←hS];exact hoL
  have keepS:∀b o,s.heap.get? b=some o→S.heap.get? b=some o:=by rw[←hS];exact keep0
  have ha:s.heap.objs.size+1 < S.heap.objs.size:=qk hoS
  refine wpAny_bind (listItems_at hoS rfl ?_)
  refine wpAny_bind (listUpdate_at hoS rfl ?_ (by rw[qj,sizeLine_eq];lia) (Qe _))
  obtain⟨e1,ho1⟩:∃e1,(S.heap.update (s.heap.objs.size+1) (Obj.mapSeq fun _=>#[])).get? (s.heap.objs.size+1)=some (seqObj "list" #[] e1):=⟨_,get?_update_seq hoS (fun _=>#[])⟩
  refine wpAny_bind (seqEpoch_at ho1 rfl ?_)
  refine wpAny_bind (wpAny_newTuple ?_ (by show vs.length≤_;rw[sizeLine_eq];lia))
  refine wpAny_bind (wpAny_newList ?_ (Qe _))
  refine wpAny_holding ?_
  have ho6:(((S.heap.update (s.heap.objs.size+1) (Obj.mapSeq fun _=>#[])).push (seqObj "tuple" vs.toArray 0)).push (seqObj "list" #[] 0)).get? (s.heap.objs.size+1)=some (seqObj "list" #[] e1):=by
   rw[Heap.get?_push_ne _ _ _ (by rw[size_push',Heap.size_update];exact ql (qv ha)),Heap.get?_push_ne _ _ _ (by rw[Heap.size_update];exact ql ha)]
   exact ho1
  have keep6:∀b o,s.heap.get? b=some o→(((S.heap.update (s.heap.objs.size+1) (Obj.mapSeq fun _=>#[])).push (seqObj "tuple" vs.toArray 0)).push (seqObj "list" #[] 0)).get? b=some o:=fun b o q=>by
   have hlt:b < s.heap.objs.size:=qk q
   refine qd _ (qd _ ?_)
   rw[Heap.get?_update_ne _ _ _ _ (ql (qv hlt))]
   exact keepS b o q
  generalize hS6:({ S with heap:=((S.heap.update (s.heap.objs.size+1) (Obj.mapSeq fun _=>#[])).push (seqObj "tuple" vs.toArray 0)).push (seqObj "list" #[] 0) }:Shared)=S6
  have ho7:S6.heap.get? (s.heap.objs.size+1)=some (seqObj "list" #[] e1):=by rw[←hS6];exact ho6
  have tb:IsTup S6.heap b #[.int i t,.bool p]:=by
   obtain⟨o,a1,a2⟩:=hb
   exact⟨o,by rw[←hS6];exact keep6 b o a1,a2⟩
  have tc:IsTup S6.heap c #[.int j u,.bool q]:=by
   obtain⟨o,a1,a2⟩:=hc
   exact⟨o,by rw[←hS6];exact keep6 c o a1,a2⟩
  dsimp only
  have hn2:¬vs.toArray.size < 2:=by rw[qj];lia
  rw[if_neg hn2,if_neg hn2]
  have kt:W.KatTups S6.heap vs [.int i t,.int j u]:=by
   obtain⟨ob,b1,b2,n1,b3⟩:=tb
   obtain⟨oc,c1,c2,n2,c3⟩:=tc
   rw[←hvs]
   exact .cons b1 b2 b3 rfl (.cons c1 c2 c3 rfl .nil)
  refine wpAny_bind (W.kat_kind (T:=.type "int") kt (qv (qz 0)) (fun v hv=>?_) (by decide) ?_)
  ·rcases qr hv with rfl | hv
   ·exact .of_pure rfl
   ·rcases qr hv with rfl | hv
    ·exact .of_pure rfl
    ·cases hv
  have hcmp:wpAny (model prog w) A.in1.in1 (keyLt' (tuples' true) (vs.getD 1 Value.none) (vs.getD 0 Value.none)) (fun k s'=>k=plt j q i p∧s'=S6) (fun _ _=>False) S6:=by
   rw[←hvs]
   exact Yvx tb tc ⟨rfl,rfl⟩
  refine wpAny_bind (wpAny_mono (W.kat_run (ks:=vs) (vs:=vs) (κ:=tuples' true) (G:=fun pm s'=>s'=S6∧pm=if plt j q i p=true then #[1,0]else #[0,1])
   (Q:=fun st' s'=>s'=S6∧failedOf st'=none∧(arrOf st').map (·.2)=if plt j q i p=true then #[.ref c,.ref b]else #[.ref b,.ref c]) rfl (by lia) (by lia) (fun pm st' s' a1 a2 a3 a4=>?_) ?_) ?_ fun _ _ e=>e)
  ·obtain⟨rfl,rfl⟩:=a4
   refine⟨rfl,a3,?_⟩
   rw[W.kat_snds rfl a2,←hvs]
   cases plt j q i p<;>rfl
  ·rw[hlen]
   refine Ymm ?_
   refine wpAny_mono hcmp (fun k s' hk=>?_) fun _ _ x=>x
   obtain⟨rfl,rfl⟩:=hk
   cases plt j q i p
   ·exact⟨rfl,rfl⟩
   ·exact⟨rfl,rfl⟩
  rintro⟨⟨⟩,st'⟩ s' ⟨rfl,hf,hout⟩
  dsimp only
  refine wpAny_bind (seqEpoch_at ho7 rfl ?_)
  refine wpAny_bind (listUpdate_at ho7 rfl ?_ (Qe _) (by rw[hout,sizeLine_eq];cases plt j q i p<;>exact(by decide:2≤16777216+1)))
  rw[hf]
  simp only[bne_self_eq_false,Bool.false_eq_true,if_false]
  refine wpAny_pure ⟨_,rfl,wpAny_pure ⟨_,rfl,?_⟩⟩
  have hh:=h
  unfold sortedAll sortedHeap at hh
  rw[←hS6,←hS,hout]
  subst hvs
  exact hh
end
noncomputable def Yf5:List D→Option (List Int)
 | []=>some []
 | .int i::l=>(Yf5 l).map (i::·)
 | _=>none
noncomputable def prI:D→Option (Int × Bool)
 | .tup [.int j,.bl q]=>some (j,q)
 | _=>none
noncomputable def y0n(e d:D):Option Bool:=(prI e).bind fun x=>(prI d).map fun y=>plt x.1 x.2 y.1 y.2
theorem Yh6{α:Type}{x:α}{P:Prop}(h:none=some x):P:=by cases h
theorem Ym9{d:D}{x:Int × Bool}(h:prI d=some x):d=.tup [.int x.1,.bl x.2]:=by
 cases d with
 | tup l=>cases l with
   | nil=>exact Yh6 h
   | cons a l=>cases a with
     | int j=>cases l with
       | nil=>exact Yh6 h
       | cons b l=>cases b with
         | bl q=>cases l with
           | nil=>exact Option.some.inj h ▸ rfl
           | cons _ _=>exact Yh6 h
         | _=>exact Yh6 h
     | _=>exact Yh6 h
 | _=>exact Yh6 h
noncomputable def y58(l:List D):Option (List D):=match Yf5 l with
 | some ns=>if ns.length < 64 then some ((Yq8 ns).map D.int)else none
 | none=>match l with
   | [d]=>some [d]
   | [d,e]=>(y0n e d).map fun k=>if k=true then [e,d]else [d,e]
   | _=>none
noncomputable def Yy4:List D→Option (List D)
 | [.lst l]=>y58 l
 | _=>none
theorem Yf1:∀{l:List D} {ns:List Int},Yf5 l=some ns→l=ns.map D.int
 | [],ns,h=>by cases h;rfl
 | .int i::l,ns,h=>by
   rw[Yf5]at h
   obtain⟨m,h1,rfl⟩:=qb h
   rw[Yf1 h1]
   rfl
 | .non::l,ns,h=>by simp[Yf5]at h
 | .bl _::l,ns,h=>by simp[Yf5]at h
 | .str _::l,ns,h=>by simp[Yf5]at h
 | .tup _::l,ns,h=>by simp[Yf5]at h
 | .lst _::l,ns,h=>by simp[Yf5]at h
 | .scr _::l,ns,h=>by simp[Yf5]at h
 | .dct _ _ _::l,ns,h=>by simp[Yf5]at h
theorem Yjp{G:Hp}:∀{ns:List Int} {xs:List V},RpL K G (ns.map D.int) xs→xs=ns.map V.int
 | [],xs,h=>by rw[List.map_nil,RpL]at h;exact h
 | n::ns,xs,h=>by
   rw[Qc,RpL]at h
   obtain⟨x,r,rfl,h1,h2⟩:=h
   rw[Rp]at h1
   rw[h1,Yjp h2]
   rfl
def Yvy(H:Hp)(x:V)(i:Int)(p:Bool):Prop:=∃a,x=.ref a∧H a=some (.tup [.int i,.bl p])
noncomputable def y59:List V→Hp→VK→Prop:=fun vs H Q=>∃a xs,vs=[.ref a]∧Rd H a (.lst xs)∧
 ((∃ns:List Int,xs=ns.map V.int∧ns.length < 64∧∀p,H p=none→Q (.ref p) (upd H p (.lst ((Yq8 ns).map V.int))))∨
  (xs.length < 2∧∀p,H p=none→Q (.ref p) (upd H p (.lst xs)))∨
  (∃x y i p j q,xs=[x,y]∧Yvy H x i p∧Yvy H y j q∧∀r,H r=none→Q (.ref r) (upd H r (.lst (if plt j q i p=true then [y,x]else [x,y])))))
theorem Yi1{X:Cx}:Ycv X (.builtin "sorted") y59:=by
 intro pins s σ H xs us Q I r h
 obtain⟨a,ys,rfl,hr,h⟩:=h
 obtain⟨u,rfl,ru⟩:=Yfb r
 cases ru
 obtain⟨its,rv,pl,hz⟩:=I.list (.inl hr)
 have fin:∀(out:Array Value) (zs:List V),Vals zs out.toList→zs.length≤sizeLine→Q (.ref (s.heap.objs.size+1)) (upd H (s.heap.objs.size+1) (.lst zs))→EP X pins σ Q (.ref (s.heap.objs.size+1)) { s with heap:=sortedAll s.heap its out }:=fun out zs hv hz' hq=>by
  obtain⟨e,he⟩:=sortedAll_at s.heap its out
  exact⟨.ref (s.heap.objs.size+1),_,I.laid (t':=s.toks) (fun b o q=>sortedAll_old q) (Nat.le_succ _) (show ObjOk X.prog X.w _ _ _ (.lst zs) from⟨hz',out.toList,e,hv,by rw[Array.toArray_toList];exact he⟩),rfl,hq⟩
 have fr:H (s.heap.objs.size+1)=none:=I.hok.fresh (Nat.le_succ _)
 have hl:=rv.length
 rcases h with⟨ns,rfl,h64,q⟩ | ⟨h2,q⟩ | ⟨x,y,i,p,j,k,rfl,px,py,q⟩
 ·have hI:=Yfy rv
  refine sorted_ints pl.isList hI (by rw[hI.length];exact h64) fun out ns' h1 h2 h3=>?_
  have e:ns'=Yq8 ns:=W.ksm_same (h2.trans (Yh5 ns).symm) h3 (Yi0 ns)
  subst e
  have hn:(Yq8 ns).length=ns.length:=(Yh5 ns).length_eq
  exact fin out _ (Yj4 h1) (by rw[qe,hn,sizeLine_eq];lia) (q _ fr)
 ·refine Yt1 pl.isList (by lia) ?_
  exact fin its.toArray ys (by simpa using rv) hz (q _ fr)
 ·obtain⟨b,rfl,hb⟩:=px
  obtain⟨c,rfl,hc⟩:=py
  obtain⟨u1,u2,rfl,r1,r2⟩:=Yu5 rv
  cases r1
  cases r2
  obtain⟨_,ib,vb,tb⟩:=(show ObjOk X.prog X.w H s.heap b (.tup [.int i,.bl p]) from I.hok b _ hb)
  obtain⟨_,ic,vc,tc⟩:=(show ObjOk X.prog X.w H s.heap c (.tup [.int j,.bl k]) from I.hok c _ hc)
  obtain⟨w1,w2,rfl,⟨t,rfl⟩,w2e⟩:=Yu5 vb
  cases w2e
  obtain⟨w3,w4,rfl,⟨t',rfl⟩,w4e⟩:=Yu5 vc
  cases w4e
  refine Yt2 (by simpa using pl.isList) (by simpa using tb) (by simpa using tc) ?_
  refine fin _ (if plt j k i p=true then [.ref c,.ref b]else [.ref b,.ref c]) ?_ (by rw[sizeLine_eq];cases plt j k i p<;>exact(by decide:2≤16777216)) (q _ fr)
  cases plt j k i p
  ·exact .cons rfl (.cons rfl .nil)
  ·exact .cons rfl (.cons rfl .nil)
theorem Yo5{G H:Hp}{d:D}{v:V}{i:Int}{p:Bool}(s:Same G H)(e:d=.tup [.int i,.bl p])(r:Rp K G d v):Yvy H v i p:=by
 subst e
 rw[Rp]at r
 obtain⟨a,xs,rfl,g,rl⟩:=r
 rw[RpL]at rl
 obtain⟨x,r',rfl,h1,h2⟩:=rl
 obtain⟨y,rfl,h3⟩:=Ykb h2
 rw[Rp]at h1
 rw[Rp]at h3
 subst h1;subst h3
 exact⟨a,rfl,s _ _ g⟩
theorem Yq9{e d:D}{k:Bool}(h:y0n e d=some k):∃j q i p,e=.tup [.int j,.bl q]∧d=.tup [.int i,.bl p]∧k=plt j q i p:=by
 obtain⟨x,h1,h2⟩:=qa h
 obtain⟨y,h3,h4⟩:=qb h2
 exact⟨x.1,x.2,y.1,y.2,Ym9 h1,Ym9 h3,h4.symm⟩
theorem Ykf:SemF K y59 Yy4:=by
 intro vs ds l H G Q h s r q
 unfold Yy4 at h
 split at h
 ·rename_i m
  obtain⟨v,rfl,rv⟩:=Yc5 r
  rw[Ct]at rv
  obtain⟨a,xs,rfl,g,rl⟩:=rv
  refine⟨a,xs,rfl,g,?_⟩
  unfold y58 at h
  split at h
  ·rename_i ns hns
   split at h
   ·rename_i h64
    cases h
    cases Yf1 hns
    refine .inl ⟨ns,Yjp rl,h64,fun p hp=>?_⟩
    exact q p _ _ G (.hid s hp _) hp (s.free hp) y0 (.ints _)
   ·cases h
  ·split at h
   ·cases h
    refine .inr (.inl ⟨by rw[rl.length];exact qz 1,fun p hp=>?_⟩)
    exact q p _ _ G (.hid s hp _) hp (s.free hp) y0 rl
   ·rename_i d e
    obtain⟨k,h1,rfl⟩:=qb h
    obtain⟨j,y,i,x,rfl,rfl,rfl⟩:=Yq9 h1
    rw[RpL]at rl
    obtain⟨v1,r1,rfl,p1,rl⟩:=rl
    obtain⟨v2,rfl,p2⟩:=Ykb rl
    refine .inr (.inr ⟨v1,v2,i,x,j,y,rfl,Yo5 s rfl p1,Yo5 s rfl p2,fun p hp=>?_⟩)
    refine q p _ _ G (.hid s hp _) hp (s.free hp) y0 ?_
    cases plt j y i x
    ·exact .cons p1 (.one p2)
    ·exact .cons p2 (.one p1)
   ·cases h
 ·cases h
end
section
variable {K:W.Frag}
theorem Ysz{P:Program}{w:World}{mg:Str→Option Value}{base:Heap}{k n:Nat}{x q:Str}{ps:List Str}{st:Stmt}{a:Addr}{fd:FuncData}(F:Fun K x q st a fd)(b:Binds K fd ps [])(hm:mg x=some (.ref a))(hn:ps.length=n) :
 Okf P w K mg base k n x ps (fun _=>none):=by
 have no:∀vs H Q E,¬spOf K n (fun _=>none) vs H Q E:=fun vs H Q E h=>by
  obtain⟨_,ds,d,G,_,_,e,_⟩:=h
  cases e
 exact⟨a,fd,⟨fun vs H Q E h=>absurd h (no vs H Q E),fun A outer s H args us vs Q E _ _ _ _ h=>absurd h (no vs H Q E)⟩,b,F.kp,hm⟩
section
variable {X:Cx} {e:Expr} {f fb:Ro→Option D} {pos pos':Pos}
noncomputable def blsD:List D→Option (List Bool)
 | []=>some []
 | .bl b::l=>(blsD l).map (b::·)
 | _=>none
theorem Ykg:∀{l:List D} {bs:List Bool},blsD l=some bs→l=bs.map D.bl
 | [],bs,h=>by cases h;rfl
 | .bl i::l,bs,h=>by
   rw[blsD]at h
   obtain⟨m,h1,rfl⟩:=qb h
   rw[Ykg h1]
   rfl
 | .non::l,ns,h=>by simp[blsD]at h
 | .int _::l,ns,h=>by simp[blsD]at h
 | .str _::l,ns,h=>by simp[blsD]at h
 | .tup _::l,ns,h=>by simp[blsD]at h
 | .lst _::l,ns,h=>by simp[blsD]at h
 | .scr _::l,ns,h=>by simp[blsD]at h
 | .dct _ _ _::l,ns,h=>by simp[blsD]at h
theorem Yra{G:Hp}:∀{bs:List Bool} {xs:List V},RpL K G (bs.map D.bl) xs→xs=bs.map V.bl
 | [],xs,h=>by rw[List.map_nil,RpL]at h;exact h
 | n::ns,xs,h=>by
   rw[Qc,RpL]at h
   obtain⟨x,r,rfl,h1,h2⟩:=h
   rw[Rp]at h1
   rw[h1,Yra h2]
   rfl
theorem Yjq:∀{bs:List Bool} {us:List Value},Vals (bs.map V.bl) us→us=bs.map Value.bool
 | [],us,h=>by cases h;rfl
 | b::bs,us,h=>by
   cases h with
   | cons r t=>
     cases (show _=Value.bool b from r)
     rw[Yjq t]
     rfl
theorem Yvz(bs:List Bool):((List.range bs.length).any fun i=>bs.getD i false)=bs.any id:=by
 induction bs with
 | nil=>rfl
 | cons b bs ih=>
   rw[qq,List.range_succ_eq_map,List.any_cons,List.any_map,List.any_cons]
   have:(List.range bs.length).any ((fun i=>(b::bs).getD i false) ∘ Nat.succ)=(List.range bs.length).any fun i=>bs.getD i false:=by
    congr 1
   rw[this,ih]
   rfl
theorem Yv0(bs:List Bool):((List.range bs.length).all fun i=>bs.getD i false)=bs.all id:=by
 induction bs with
 | nil=>rfl
 | cons b bs ih=>
   rw[qq,List.range_succ_eq_map,List.all_cons,List.all_map,List.all_cons]
   have:(List.range bs.length).all ((fun i=>(b::bs).getD i false) ∘ Nat.succ)=(List.range bs.length).all fun i=>bs.getD i false:=by
    congr 1
   rw[this,ih]
   rfl
noncomputable def rBls(g:List Bool→V):List V→Hp→VK→Prop:=fun vs H Q=>∃(a:Addr) (bs:List Bool),vs=[.ref a]∧Rd H a (.lst (bs.map V.bl))∧Q (g bs) H
theorem Yo6(A:Around)(prog:Program)(w:World)(bs:List Bool):TruthOf prog w A (fun i v=>((bs.map Value.bool).toArray)[i]?=some v) (fun i=>bs.getD i false):=fun i v s Q E hP hQ=>by
 have hP':(bs.map Value.bool)[i]?=some v:=by simpa using hP
 rw[Qh]at hP'
 obtain⟨b,h1,rfl⟩:=qb hP'
 refine wpAny_truthy_bool ?_
 have:bs.getD i false=b:=by simp[h1]
 rw[←this]
 exact hQ
theorem Ykh{pins:List (Addr × Obj)}{s:Shared}{σ:L2.St}{H:Hp}{a:Addr}{its:List Value}{A:Around}{E:Value→Shared→Prop}{Q:Value→Shared→Prop}(hh:A.handled=none)(hl:s.heap.IsList a its.toArray)
 (h:∀s₂,s₂={ s with heap:=s.heap.push { cls:=.type "list_iterator",data:=.fields #[.ref a,.int 0 0] } }→Walks X.prog X.w A s.heap.objs.size [s.heap.objs.size,a] [s.heap.objs.size] its.toArray.size (fun i v=>its.toArray[i]?=some v) (fun i h=>h.IsListIter s.heap.objs.size a i∧h.IsList a its.toArray)→
  (s₂.heap.IsListIter s.heap.objs.size a 0∧s₂.heap.IsList a its.toArray)→Q (.ref s.heap.objs.size) s₂):wpAny (model X.prog X.w) A (pyIter (.ref a)) Q E s:=by
 have hne:a≠s.heap.objs.size:=by
  obtain⟨o,ho,_⟩:=hl
  exact ql (qk ho)
 refine wpAny_pyIter_list hl (h _ rfl (Walks.list hh _ a hne _) ⟨⟨_,qo _ rfl,rfl,rfl⟩,?_⟩)
 obtain⟨o,ho,r⟩:=hl
 exact⟨o,qd _ ho,r⟩
theorem Yff{pins:List (Addr × Obj)}{s:Shared}{σ:L2.St}{H:Hp}{h':Heap}{tk:Nat}{o:Obj}(I:Inv X pins σ H s)(k:∀b u,b∉[s.heap.objs.size]→(s.heap.push o).get? b=some u→h'.get? b=some u):Inv X pins σ H { s with heap:=h',toks:=tk }:=
 I.kept fun b u q=>k b u (by
  intro z
  have e:b=s.heap.objs.size:=by simpa using z
  exact absurd (qk q) (by rw[e];exact Qf _)) (qd _ q)
theorem Yhb(hc:X.calm=true):Ycv X (.builtin "any") (rBls fun bs=>.bl (bs.any id)):=by
 intro pins s σ H xs us Q I r h
 obtain⟨a,bs,rfl,hr,q⟩:=h
 obtain⟨u,rfl,ru⟩:=Yfb r
 cases ru
 obtain⟨its,rv,pl,hz⟩:=I.list (.inl hr)
 cases Yjq rv
 refine call_any_walk (Ykh (X:=X) (pins:=pins) (σ:=σ) (H:=H) (show X.A.in1.handled=none from I.ok.hd hc) pl.isList fun s₂ e W st=>?_)
 subst e
 refine⟨_,_,_,_,_,_,fun i=>bs.getD i false,rfl,W,st,Yo6 _ _ _ bs,fun h' tk k=>⟨.bl _,H,(show Inv X pins σ H { s with heap:=h',toks:=tk } from Yff I k),?_,q⟩⟩
 show Value.bool _=Value.bool _
 rw[qj,qe,Yvz]
theorem Yeq(hc:X.calm=true):Ycv X (.builtin "all") (rBls fun bs=>.bl (bs.all id)):=by
 intro pins s σ H xs us Q I r h
 obtain⟨a,bs,rfl,hr,q⟩:=h
 obtain⟨u,rfl,ru⟩:=Yfb r
 cases ru
 obtain⟨its,rv,pl,hz⟩:=I.list (.inl hr)
 cases Yjq rv
 refine call_all_walk (Ykh (X:=X) (pins:=pins) (σ:=σ) (H:=H) (show X.A.in1.handled=none from I.ok.hd hc) pl.isList fun s₂ e W st=>?_)
 subst e
 refine⟨_,_,_,_,_,_,fun i=>bs.getD i false,rfl,W,st,Yo6 _ _ _ bs,fun h' tk k=>⟨.bl _,H,(show Inv X pins σ H { s with heap:=h',toks:=tk } from Yff I k),?_,q⟩⟩
 show Value.bool _=Value.bool _
 rw[qj,qe,Yv0]
noncomputable def anyC:List D→Option D
 | [.lst l]=>(blsD l).map fun bs=>.bl (bs.any id)
 | _=>none
noncomputable def allC:List D→Option D
 | [.lst l]=>(blsD l).map fun bs=>.bl (bs.all id)
 | _=>none
theorem Yv1{g:List Bool→V}{gd:List Bool→D}{m:List D→Option D}(hm:∀ds d,m ds=some d→∃l bs,ds=[.lst l]∧blsD l=some bs∧d=gd bs)(hg:∀G bs,Rp K G (gd bs) (g bs)):SemC K (rBls g) m:=by
 intro vs ds d H G Q h s r q
 obtain⟨l,bs,rfl,h1,rfl⟩:=hm ds d h
 obtain⟨v,rfl,rv⟩:=Yc5 r
 rw[Ct]at rv
 obtain⟨a,xs,rfl,g',rl⟩:=rv
 cases Ykg h1
 cases Yra rl
 exact⟨a,bs,rfl,g',q _ H G (.refl s) (hg G bs)⟩
theorem Yna:SemC K (rBls fun bs=>.bl (bs.any id)) anyC:=Yv1 (gd:=fun bs=>.bl (bs.any id)) (fun ds d h=>by
 unfold anyC at h
 split at h
 ·obtain⟨bs,h1,rfl⟩:=qb h
  exact⟨_,bs,rfl,h1,rfl⟩
 ·cases h) fun G bs=>by rw[Rp]
theorem Yh7:SemC K (rBls fun bs=>.bl (bs.all id)) allC:=Yv1 (gd:=fun bs=>.bl (bs.all id)) (fun ds d h=>by
 unfold allC at h
 split at h
 ·obtain⟨bs,h1,rfl⟩:=qb h
  exact⟨_,bs,rfl,h1,rfl⟩
 ·cases h) fun G bs=>by rw[Rp]
noncomputable def rSum:List V→Hp→VK→Prop:=fun vs H Q=>∃(a:Addr) (ns:List Int),vs=[.ref a]∧Rd H a (.lst (ns.map V.int))∧Q (.int ns.sum) H
theorem Yki(ns:List Int):∀n,n≤ns.length→preSum (fun i=>ns.getD i 0) n=(ns.take n).sum
 | 0,_=>by simp[preSum]
 | n+1,h=>by
   have ih:=Yki ns n (by lia)
   rw[preSum,ih,List.take_succ_eq_append_getElem (by lia),List.sum_append]
   simp[qp (show n < ns.length by lia)]
theorem Yo7(hc:X.calm=true):Ycv X (.builtin "sum") rSum:=by
 intro pins s σ H xs us Q I r h
 obtain⟨a,ns,rfl,hr,q⟩:=h
 obtain⟨u,rfl,ru⟩:=Yfb r
 cases ru
 obtain⟨its,rv,pl,hz⟩:=I.list (.inl hr)
 have hI:=Yfy rv
 have hlen:its.length=ns.length:=hI.length
 refine call_sum_walkG (Ykh (X:=X) (pins:=pins) (σ:=σ) (H:=H) (show X.A.in1.handled=none from I.ok.hd hc) pl.isList fun s₂ e W st=>?_)
 subst e
 refine⟨_,_,_,_,_,_,fun i=>ns.getD i 0,rfl,W,st,fun b hb=>?_,fun i v hv=>?_,fun h' tk t' k=>⟨.int _,H,(show Inv X pins σ H { s with heap:=h',toks:=tk } from Yff I k),⟨t',?_⟩,q⟩⟩
 ·obtain⟨o,ho,_⟩:=pl.isList
  have hlt:=qk ho
  show b < (s.heap.push _).objs.size
  rw[Heap.size_push]
  rcases qr hb with rfl | hb
  ·exact qz _
  ·rw[List.mem_singleton.mp hb];exact qv hlt
 ·have hv':its[i]?=some v:=by simpa using hv
  have hi:i < ns.length:=by rw[←hlen];exact(qm hv').1
  obtain⟨u,hu,ru⟩:=rv.get (i:=i) (x:=.int ns[i]) (by rw[Qh,qp hi];rfl)
  rw[hu]at hv'
  cases hv'
  obtain⟨t,rfl⟩:=ru
  exact⟨t,by simp[qp hi]⟩
 ·rw[qj,hlen,Yki ns _ (qt _),List.take_length]
noncomputable def sumC:List D→Option D
 | [.lst l]=>(Yf5 l).map fun ns=>.int ns.sum
 | _=>none
theorem Yv2:SemC K rSum sumC:=by
 intro vs ds d H G Q h s r q
 unfold sumC at h
 split at h
 ·obtain⟨ns,h1,rfl⟩:=qb h
  obtain⟨v,rfl,rv⟩:=Yc5 r
  rw[Ct]at rv
  obtain⟨a,xs,rfl,g',rl⟩:=rv
  cases Yf1 h1
  cases Yjp rl
  exact⟨a,ns,rfl,g',q _ H G (.refl s) (by rw[Rp])⟩
 ·cases h
noncomputable def Yt3(i:Nat)(fi f:Ro→Option D)(g:List D→D→D→Option (List D)):Ro→Option Out:=fun ρ=>(f ρ).bind fun d=>(getO i ρ).bind fun l=>(fi ρ).bind fun k=>(g l k d).map fun l'=>.nx (ρ.set i (some (.ow l')))
end
end
section
variable {K:W.Frag}
section
variable {prog:Program} {w:World} {A:Around} {E:Value→Shared→Prop} {s:Shared}
theorem Yh8{it t:Addr}{i:Nat}{items:Array Value}{x:Value}{Q:Value→Shared→Prop}(hit:s.heap.IsTupleIter it t i)
 (ht:s.heap.IsTuple t items) (hx:items[i]?=some x)
 (hQ:∀h',h'.IsTupleIter it t (i+1)→Heap.SameBut it s.heap h'→Q x { s with heap:=h' }) :
 wpAny (model prog w) A (Builtin.SmallTypes.nextOf (.ref it)) Q E s:=by
 obtain⟨o,ho,hc,hd⟩:=id hit
 obtain⟨ol,hol,_,nl,hdl⟩:=ht
 unfold Builtin.SmallTypes.nextOf
 refine wpAny_bind (wpAny_callSpecial?_slot (name:=Str.ofString "__next__") hit.typeIs F.slot_tuple_iterator_next
  (wpAny_call_entry F.slot_tuple_iterator_next hit.typeIs F.entry_tuple_iterator_next ?_ (F.args_tuple_iterator_next_1 _)))
 show wpAny _ _ (field (.ref it) 0 >>= _) _ _ s
 refine wpAny_bind (wpAny_field ho hd (x:=.ref t) rfl ?_)
 show wpAny _ _ (if (Value.ref t==Value.none)=true then _ else _) _ _ s
 rw[if_neg (show ¬((Value.ref t==Value.none)=true) from qh)]
 show wpAny _ _ (field (.ref it) 1 >>= _) _ _ s
 refine wpAny_bind (wpAny_field ho hd (x:=.int i 0) rfl ?_)
 show wpAny _ _ (seqItems? (.ref t) >>= _) _ _ s
 refine wpAny_bind (wpAny_seqItems hol hdl ?_)
 simp only[Int.toNat_natCast,hx]
 refine wpAny_bind (wpAny_setField ho hd (by simp) (wpAny_pure ⟨x,rfl,wpAny_pure (hQ _ ?_ (Heap.SameBut.update ..))⟩))
 exact⟨_,Heap.get?_update_self _ ho (Obj.isFreed_of_fields (Obj.data_mapFields hd _)),(Obj.cls_mapFields ..).trans hc,by
  rw[Obj.data_mapFields hd];simp[rawInt]⟩
theorem Yjb{it l:Addr}{i:Nat}{items:Array Value}{Q:Value→Shared→Prop}(hh:A.handled=none)
 (hit:s.heap.IsTupleIter it l i) (hl:s.heap.IsTuple l items) (hx:items[i]?=none)
 (hE:∀h' e,Heap.ExtBut it s.heap h'→(∃o,h'.get? e=some o∧o.cls=.type "StopIteration")→E (.ref e) { s with heap:=h' }) :
 wpAny (model prog w) A (Builtin.SmallTypes.nextOf (.ref it)) Q E s:=by
 obtain⟨o,ho,hc,hd⟩:=id hit
 obtain⟨ol,hol,_,nl,hdl⟩:=hl
 unfold Builtin.SmallTypes.nextOf
 refine wpAny_bind (wpAny_callSpecial?_slot (name:=Str.ofString "__next__") hit.typeIs F.slot_tuple_iterator_next
  (wpAny_call_entry F.slot_tuple_iterator_next hit.typeIs F.entry_tuple_iterator_next ?_ (F.args_tuple_iterator_next_1 _)))
 show wpAny _ _ (field (.ref it) 0 >>= _) _ _ s
 refine wpAny_bind (wpAny_field ho hd (x:=.ref l) rfl ?_)
 show wpAny _ _ (if (Value.ref l==Value.none)=true then _ else _) _ _ s
 rw[if_neg (show ¬((Value.ref l==Value.none)=true) from qh)]
 show wpAny _ _ (field (.ref it) 1 >>= _) _ _ s
 refine wpAny_bind (wpAny_field ho hd (x:=.int i 0) rfl ?_)
 show wpAny _ _ (seqItems? (.ref l) >>= _) _ _ s
 refine wpAny_bind (wpAny_seqItems hol hdl ?_)
 simp only[Int.toNat_natCast,hx]
 refine wpAny_bind (wpAny_rule (wpAny_bind (wpAny_setField ho hd (by simp) ?_)))
 show wpAny _ _ (newExc (.type "StopIteration") [] >>= _) _ _ _
 refine wpAny_bind ?_
 simp only[newExc,newTuple]
 refine wpAny_bind (wpAny_newObj_type ?_ (by size_fits))
 refine wpAny_bind (m:=firstArgMember _ _) (wpAny_of_eq (a:=Value.none) (by first | rfl | (simp only[firstArgMember];rfl)) ?_)
 refine wpAny_newObj_type ?_ (by size_fits)
 simp only[raiseNew]
 refine wpAny_bind (wpAny_handled ?_)
 first | rw[show A.in1.handled=none from hh] | rw[hh]
 refine wpAny_bind (wpAny_pure (wpAny_throw ?_))
 exact hE _ _ (((Heap.SameBut.update ..).extBut.push _).push _) ⟨_,qo _ rfl,rfl⟩
theorem Ykj{e it l:Addr}{i:Nat}{items:Array Value}{x old:Value}{Q:Value→Shared→Prop}
 (he:IsEnum s.heap e it i old) (hit:s.heap.IsTupleIter it l i) (hl:s.heap.IsTuple l items) (hx:items[i]?=some x) (hne:e≠it)
 (hQ:∀h',IsEnumOut h' e it ((i:Int)+1) x s.heap.objs.size→h'.IsTupleIter it l (i+1)→
  h'.get? s.heap.objs.size=some { cls:=.type "tuple",data:=.seq #[.int i s.toks,x] }→h'.objs.size=s.heap.objs.size+1→
  (∀b o,b≠e→b≠it→s.heap.get? b=some o→h'.get? b=some o)→Q (.ref s.heap.objs.size) { s with heap:=h',toks:=s.toks+1 }) :
 wpAny (model prog w) A (Builtin.«enumerate.__next__» ⟨[.ref e],[]⟩) (fun fin s'=>∃v,fin=.done (.ret v)∧Q v s') E s:=by
 obtain⟨hp,g,d,tk,os⟩:=s
 show wpAny _ _ (field (.ref e) 2 >>= _) _ _ _
 refine wpAny_bind (wpAny_field he rfl (x:=.ref it) rfl ?_)
 refine wpAny_bind (Yh8 hit hl hx fun h₁ hit₁ hs₁=>?_)
 replace hs₁:Heap.SameBut it hp h₁:=hs₁
 have he₁:IsEnum h₁ e it i old:=(hs₁.2 e hne).trans he
 show wpAny _ _ (field (.ref e) 3 >>= _) _ _ ⟨h₁,g,d,tk,os⟩
 refine wpAny_bind (wpAny_field he₁ rfl (x:=rawInt i) rfl ?_)
 show wpAny _ _ (field (.ref e) 4 >>= _) _ _ ⟨h₁,g,d,tk,os⟩
 refine wpAny_bind (wpAny_field he₁ rfl (x:=.none) rfl ?_)
 show wpAny _ _ (mkInt i >>= _) _ _ ⟨h₁,g,d,tk,os⟩
 refine wpAny_bind (wpAny_mkInt ?_)
 show wpAny _ _ (setField (.ref e) 3 (rawInt ((i:Int)+1)) >>= _) _ _ ⟨h₁,g,d,tk+1,os⟩
 refine wpAny_bind (wpAny_setField_rec he₁ (by simp) fun h₂ he₂ hs₂=>?_)
 replace hs₂:Heap.SameBut e h₁ h₂:=hs₂
 replace he₂:IsEnum h₂ e it ((i:Int)+1) old:=he₂
 show wpAny _ _ (setField (.ref e) 4 .none >>= _) _ _ ⟨h₂,g,d,tk+1,os⟩
 refine wpAny_bind (wpAny_setField_rec he₂ (by simp) fun h₃ he₃ hs₃=>?_)
 replace hs₃:Heap.SameBut e h₂ h₃:=hs₃
 replace he₃:IsEnum h₃ e it ((i:Int)+1) old:=he₃
 show wpAny _ _ (newTuple [.int i tk,x] >>= _) _ _ ⟨h₃,g,d,tk+1,os⟩
 refine wpAny_bind (wpAny_newTuple ?_)
 have he₄:IsEnum (h₃.push { cls:=.type "tuple",data:=.seq #[.int i tk,x] }) e it ((i:Int)+1) old:=qd _ he₃
 generalize hh₄:h₃.push { cls:=.type "tuple",data:=.seq #[.int i tk,x] }=h₄ at he₄
 have hsz:h₃.objs.size=hp.objs.size:=by rw[hs₃.1,hs₂.1,hs₁.1]
 have hel:e < hp.objs.size:=qk he
 have ht₄:h₄.get? hp.objs.size=some { cls:=.type "tuple",data:=.seq #[.int i tk,x] }:=by rw[←hh₄,←hsz];exact qo _ rfl
 have hz₄:h₄.objs.size=hp.objs.size+1:=by rw[←hh₄,Heap.size_push,hsz]
 have hk₄:∀b o,b≠e→b≠it→hp.get? b=some o→h₄.get? b=some o:=fun b o hbe hbi hb=>by
  rw[←hh₄];exact qd _ (hs₃.extBut b o hbe (hs₂.extBut b o hbe (hs₁.extBut b o hbi hb)))
 have hit₄:h₄.IsTupleIter it l (i+1):=by
  rw[←hh₄];obtain⟨o,ho,r⟩:=(hit₁.at fun o q=>hs₃.extBut it o (Ne.symm hne) (hs₂.extBut it o (Ne.symm hne) q));exact⟨o,qd _ ho,r⟩
 show wpAny _ _ (Builtin.SmallTypes.ownedTupleIsFree (.ref e) >>= _) _ _ ⟨h₄,g,d,tk+1,os⟩
 rw[hsz]
 clear hh₄ he₃ hs₃ he₂ hs₂ he₁ hs₁ hit₁ hsz h₃ h₂ h₁
 refine wpAny_bind ?_
 ·unfold Builtin.SmallTypes.ownedTupleIsFree
  refine wpAny_bind (wpAny_field he₄ rfl (x:=.none) rfl (wpAny_pure ?_))
  simp only[if_true]
  refine wpAny_bind (wpAny_rule ?_)
  refine wpAny_bind (wpAny_field he₄ rfl (x:=old) rfl ?_)
  refine wpAny_bind (wpAny_setField_rec he₄ (by simp) fun h₅ he₅ hs₅=>?_)
  replace hs₅:Heap.SameBut e h₄ h₅:=hs₅
  replace he₅:IsEnum h₅ e it ((i:Int)+1) x:=he₅
  show wpAny _ _ (Builtin.SmallTypes.ownedTupleHandOut (.ref e) (.ref hp.objs.size) >>= _) _ _ ⟨h₅,g,d,tk+1,os⟩
  refine wpAny_bind ?_
  ·unfold Builtin.SmallTypes.ownedTupleHandOut
   refine wpAny_bind (wpAny_setField_rec he₅ (by simp) fun h₆ he₆ hs₆=>?_)
   replace hs₆:Heap.SameBut e h₅ h₆:=hs₆
   replace he₆:IsEnumOut h₆ e it ((i:Int)+1) x hp.objs.size:=he₆
   refine wpAny_setField_rec he₆ (by simp) fun h₇ he₇ hs₇=>?_
   replace hs₇:Heap.SameBut e h₆ h₇:=hs₇
   replace he₇:IsEnumOut h₇ e it ((i:Int)+1) x hp.objs.size:=he₇
   refine wpAny_bind (wpAny_letGo (wpAny_pure ⟨_,rfl,hQ h₇ he₇ ?_ ?_ ?_ ?_⟩))
   ·exact hit₄.at fun o q=>hs₇.extBut it o (Ne.symm hne) (hs₆.extBut it o (Ne.symm hne) (hs₅.extBut it o (Ne.symm hne) q))
   ·exact hs₇.extBut _ _ (Nat.ne_of_gt hel) (hs₆.extBut _ _ (Nat.ne_of_gt hel) (hs₅.extBut _ _ (Nat.ne_of_gt hel) ht₄))
   ·rw[hs₇.1,hs₆.1,hs₅.1,hz₄]
   ·exact fun b o hbe hbi hb=>hs₇.extBut b o hbe (hs₆.extBut b o hbe (hs₅.extBut b o hbe (hk₄ b o hbe hbi hb)))
theorem Yh9{e it l:Addr}{i:Nat}{items:Array Value}{x old:Value}{Q:Option Value→Shared→Prop}
 (he:IsEnum s.heap e it i old) (hit:s.heap.IsTupleIter it l i) (hl:s.heap.IsTuple l items) (hx:items[i]?=some x) (hne:e≠it)
 (hQ:∀h',IsEnumOut h' e it ((i:Int)+1) x s.heap.objs.size→h'.IsTupleIter it l (i+1)→
  h'.get? s.heap.objs.size=some { cls:=.type "tuple",data:=.seq #[.int i s.toks,x] }→h'.objs.size=s.heap.objs.size+1→
  (∀b o,b≠e→b≠it→s.heap.get? b=some o→h'.get? b=some o)→Q (some (.ref s.heap.objs.size)) { s with heap:=h',toks:=s.toks+1 }) :
 wpAny (model prog w) A (pyNext (.ref e)) Q E s:=by
 have hT:s.TypeIs (.ref e) "enumerate":=⟨_,he,rfl⟩
 unfold pyNext
 exact wpAny_bind (wpAny_attempt (wpAny_callSpecial?_slot (name:=Str.ofString "__next__") hT F.slot_enumerate_next
  (wpAny_call_entry F.slot_enumerate_next hT F.entry_enumerate_next
   (Ykj he hit hl hx hne fun h' a b c d k=>wpAny_pure (hQ h' a b c d k)) (F.args_enumerate_next_1 _))))
theorem Yjc{e it l:Addr}{i:Nat}{items:Array Value}{old:Value}{Q:Option Value→Shared→Prop}(hh:A.handled=none)
 (he:IsEnum s.heap e it i old) (hit:s.heap.IsTupleIter it l i) (hl:s.heap.IsTuple l items) (hx:items[i]?=none)
 (hQ:∀h',Heap.ExtBut it s.heap h'→Q none { s with heap:=h' }):wpAny (model prog w) A (pyNext (.ref e)) Q E s:=by
 have hT:s.TypeIs (.ref e) "enumerate":=⟨_,he,rfl⟩
 unfold pyNext
 refine wpAny_bind (wpAny_attempt (wpAny_callSpecial?_slot (name:=Str.ofString "__next__") hT F.slot_enumerate_next
  (wpAny_call_entry F.slot_enumerate_next hT F.entry_enumerate_next ?_ (F.args_enumerate_next_1 _))))
 show wpAny _ _ (field (.ref e) 2 >>= _) _ _ _
 refine wpAny_bind (wpAny_field he rfl (x:=.ref it) rfl ?_)
 refine wpAny_bind (Yjb hh hit hl hx fun h' x he' hx'=>?_)
 obtain⟨o,ho,hc⟩:=hx'
 refine wpAny_bind (wpAny_isInstance (T:="StopIteration") (b:=true) ⟨o,ho,hc⟩ isSubtype_stop ?_)
 exact wpAny_pure (hQ _ he')
theorem Ykk(l:Addr)(items:Array Value)(n:Nat)(dct:Option Addr)(sl:Array (Option Value)) :
 Meets (Builtin.«enumerate.__new__» ⟨[.type "enumerate",.ref l],[]⟩) (fun _ R s=>s.heap.get? l=some { cls:=.type "tuple",dict:=dct,data:=.seq items n,slots:=sl }∧
  R (.ok (.ret (.ref (s.heap.push { cls:=.type "tuple_iterator",data:=.fields #[.ref l,.int 0 0] }).objs.size)))
   { s with heap:=(s.heap.push { cls:=.type "tuple_iterator",data:=.fields #[.ref l,.int 0 0] }).push { cls:=.type "enumerate",data:=.fields #[.none,.bool false,.ref s.heap.objs.size,rawInt 0,.none,.none] } }):=
 .of_wp fun prog w A R s h=>by
  obtain⟨hp,g,d,tk,os⟩:=s;obtain⟨hl,h⟩:=h
  have hsub:=sub_enumerate
  have hL:Heap.IsTuple (Shared.heap ⟨hp,g,d,tk,os⟩) l items:=⟨_,hl,rfl,n,rfl⟩
  wp_walk using PySem.AutoSeq1.wpAny_loadPart' hl
  refine wpAny_stack_any fun st=>wpAny_pure ?_
  split
  ·rename_i c _ _ _ _ _
   cases (c==Value.type "enumerate")
   ·wp_walk using PySem.AutoSeq1.wpAny_loadPart' hl,wpAny_pyIter_tuple hL
    exact⟨_,rfl,h⟩
   ·wp_walk using PySem.AutoSeq1.wpAny_loadPart' hl,wpAny_pyIter_tuple hL
    exact⟨_,rfl,h⟩
  ·wp_walk using PySem.AutoSeq1.wpAny_loadPart' hl,wpAny_pyIter_tuple hL
   exact⟨_,rfl,h⟩
theorem Yf6{l:Addr}{items:Array Value}{Q:Value→Shared→Prop}(hL:s.heap.IsTuple l items)
 (h:∀h',IsEnum h' (s.heap.objs.size+1) s.heap.objs.size 0 .none→h'.IsTupleIter s.heap.objs.size l 0→h'.objs.size=s.heap.objs.size+2→
  (∀b o,s.heap.get? b=some o→h'.get? b=some o)→Q (.ref (s.heap.objs.size+1)) { s with heap:=h' }) :
 wpAny (model prog w) A (call (.type "enumerate") [.ref l]) Q E s:=by
 obtain⟨⟨c,dct,dt,sl⟩,hl,hc,n,hd⟩:=hL
 replace hc:c=.type "tuple":=hc
 replace hd:dt=.seq items n:=hd
 subst hc hd
 refine callType_new F.called_enumerate (by decide) (F.typeCall_enumerate_1 _) (F.newCall_enumerate_1 _) (fun obj=>F.args_object_init_2 obj _) F.entry_enumerate_new
  (Ykk l items n dct sl) ⟨hl,?_⟩
 have hz:(s.heap.push { cls:=.type "tuple_iterator",data:=.fields #[.ref l,.int 0 0] }).objs.size=s.heap.objs.size+1:=Heap.size_push ..
 show _∧_
 rw[hz]
 have he:IsEnum ((s.heap.push { cls:=.type "tuple_iterator",data:=.fields #[.ref l,.int 0 0] }).push
  { cls:=.type "enumerate",data:=.fields #[.none,.bool false,.ref s.heap.objs.size,rawInt 0,.none,.none] }) (s.heap.objs.size+1) s.heap.objs.size 0 .none:=by
  have:=qo (s.heap.push { cls:=.type "tuple_iterator",data:=.fields #[.ref l,.int 0 0] })
   (o:={ cls:=.type "enumerate",data:=.fields #[.none,.bool false,.ref s.heap.objs.size,rawInt 0,.none,.none] }) rfl
  rw[hz]at this;exact this
 refine⟨⟨_,he,rfl⟩,h _ he ⟨_,qd _ (qo _ rfl),rfl,rfl⟩ (by rw[Heap.size_push,hz]) fun b o x=>qd _ (qd _ x)⟩
end
theorem Yhc{X:Cx}{pins:List (Addr × Obj)}{σ:L2.St}{H:Hp}{s:Shared}{h':Heap}{t':Nat}{ch:List Addr}{T:Addr}{o:HO}(I:Inv X pins σ H s)(hf:∀b∈ch,FpOk X pins H b)
 (k:∀b u,b∉ch→s.heap.get? b=some u→h'.get? b=some u) (hT:s.heap.objs.size≤T) (new:ObjOk X.prog X.w (upd H T o) h' T o):Inv X pins σ (upd H T o) { s with heap:=h',toks:=t' }:=by
 have fr:H T=none:=I.hok.fresh hT
 have nch:∀b u,H b=some u→b∉ch:=fun b u e z=>by rw[(hf b z).1]at e;cases e
 refine I.step (g':=s.gens) (d':=s.drawn) (ch:=ch) (fun b hb=>?_) (fun b u _ _ hc e _=>k b u hc e) (fun b u _ _ hc e _=>⟨u.slots,k b u hc e⟩) (fun b u _ e n=>?_)
  (fun b u hc e=>⟨u,k b u hc e⟩) (fun b xs e=>?_) (fun b u xs e=>?_) (fun b ps e=>⟨#[],?_⟩) (fun m hm=>?_) (fun b u e=>?_) I.bare
 ·obtain⟨_,f1,_,f3,f4,f5⟩:=hf b hb
  exact⟨f3,f1,f4,f5⟩
 ·rw[Yaa (ql (Qd (qk e) hT))];exact n
 ·rw[Yaa (y9 e fr)];exact e
 ·rw[Yaa (y9 e fr)];exact e
 ·rw[Yaa (y9 e fr),e];simp
 ·obtain⟨ob,es,ep,ho,r⟩:=hm
  exact⟨ob,es,ep,k _ ob (fun z=>(hf _ z).2.1 rfl) ho,r⟩
 ·by_cases hb:b=T
  ·subst hb;rw[y0]at e;cases e;exact new
  ·rw[Yaa hb]at e
   refine(I.hok b u e).stay (fun c v hc q=>k c v ?_ q) (fun c q=>by rw[Yaa (y9 q fr)];exact q) fun c xs q=>by rw[Yaa (y9 q fr)];exact q
   rcases hc with z | z
   ·rw[z];exact nch b u e
   ·exact nch c _ z
noncomputable def IteL(K:W.Frag)(a:Addr):It:=
 ⟨fun i H=>∃xs x,SqL K H a xs∧xs[i]?=some x,fun i H x H'=>∃y p,(∀xs,SqL K H a xs→xs[i]?=some y)∧H p=none∧x=.ref p∧H'=upd H p (.tup [.int i,y]),fun i H=>∃xs,SqL K H a xs∧xs.length≤i⟩
noncomputable def IteT(K:W.Frag)(a:Addr):It:=
 ⟨fun i H=>∃xs x,SqT K H a xs∧xs[i]?=some x,fun i H x H'=>∃y p,(∀xs,SqT K H a xs→xs[i]?=some y)∧H p=none∧x=.ref p∧H'=upd H p (.tup [.int i,y]),fun i H=>∃xs,SqT K H a xs∧xs.length≤i⟩
section
variable {elts:List Expr} {x1:Nat} {pt:Pos}
theorem Yt4{P:Program}{w:World}(a it e:Addr)(hei:e≠it):Turn P w K (.Tuple elts x1 pt) (IteL K a) [e,it] e (fun i h=>(∃old,IsEnum h e it i old)∧h.IsListIter it a i) where
 mem:=by simp
 obj:=fun i h st b hb=>by
  obtain⟨⟨old,he⟩,hit⟩:=st
  rcases qr hb with rfl | hb
  ·exact⟨_,he,fun v z=>by cases z⟩
  ·have z:b=it:=by simpa using hb
   subst z
   obtain⟨o,q,c,d⟩:=hit
   exact⟨o,q,fun v z=>by rw[d]at z;cases z⟩
 keep:=fun i h h' st k=>by
  obtain⟨⟨old,he⟩,hit⟩:=st
  exact⟨⟨old,k e (by simp) _ he⟩,hit.at fun o q=>k it (by simp) o q⟩
 item:=by
  intro X hP hw hK hc i pins s σ H E I hf st hg
  subst hP hw hK
  obtain⟨xs,x,hq,hx⟩:=hg
  obtain⟨its,rv,p,hz⟩:=I.list hq
  obtain⟨u,hu,ru⟩:=rv.get hx
  obtain⟨⟨old,he⟩,hit⟩:=st
  refine wpAny_pyNext_enum_item he hit p.isList (x:=u) (by simpa using hu) hei fun h' ho hit' hT hsz hk=>?_
  refine⟨_,rfl,wpAny_letOwnedTupleGo_enum ho fun h2 he2 hs2=>?_⟩
  have fr:H s.heap.objs.size=none:=I.fresh
  have hne:∀b∈[e,it],b≠s.heap.objs.size:=fun b hb z=>by
   rcases qr hb with rfl | hb
   ·exact absurd (qk he) (by rw[z];exact Qf _)
   ·have z2:b=it:=by simpa using hb
    subst z2
    obtain⟨o,q,_⟩:=hit
    exact absurd (qk q) (by rw[z];exact Qf _)
  have kk:∀b o,b∉[e,it]→s.heap.get? b=some o→h2.get? b=some o:=fun b o hb q=>by
   have h1:b≠e:=fun z=>hb (by simp[z])
   have h3:b≠it:=fun z=>hb (by simp[z])
   exact(hs2.2 b h1).trans (hk b o h1 h3 q)
  have tT:h2.get? s.heap.objs.size=some { cls:=.type "tuple",data:=.seq #[.int i s.toks,u] }:=(hs2.2 _ (Ne.symm (hne e (by simp)))).trans hT
  refine⟨.ref s.heap.objs.size,upd H s.heap.objs.size (.tup [.int i,x]),(show Inv X pins σ _ { s with heap:=h2,toks:=s.toks+1 } from Yhc (s:=s) (t':=s.toks+1) I hf kk (qt _) ?_),rfl,⟨x,s.heap.objs.size,fun ys hy=>by rw[I.list_inj hy hq];exact hx,fr,rfl,rfl⟩,⟨⟨_,by simpa using he2⟩,hit'.at fun o q=>(hs2.2 it (Ne.symm hei)).trans q⟩,fun b hb=>?_⟩
  ·exact⟨by rw[sizeLine_eq];show 2≤16777216;decide,[.int i s.toks,u],.cons ⟨_,rfl⟩ (.cons ru .nil),_,tT,rfl,0,rfl⟩
  ·rw[Yaa (hne b hb)];exact(hf b hb).1
 done:=by
  intro X hP hw hK hc i pins s σ H E I hf st hg
  subst hP hw hK
  obtain⟨xs,hq,hx⟩:=hg
  obtain⟨its,rv,p,hz⟩:=I.list hq
  obtain⟨⟨old,he⟩,hit⟩:=st
  obtain⟨f0,f1,f2,f3,f4,f5⟩:=hf it (by simp)
  have hl:=rv.length
  exact wpAny_pyNext_enum_end (I.ok.hd hc) he hit p.isList (by simp;lia) fun h' eb=>⟨rfl,I.turned (t':=s.toks) (fun b o hb e=>eb b o hb e) f0 f1 f3 f4 f5⟩
 self:=fun _ _ _ _ _ st h=>let ⟨⟨_,he⟩,_⟩:=st;wpAny_pyIter_enum he h
theorem Yt5{P:Program}{w:World}(a it e:Addr)(hei:e≠it):Turn P w K (.Tuple elts x1 pt) (IteT K a) [e,it] e (fun i h=>(∃old,IsEnum h e it i old)∧h.IsTupleIter it a i) where
 mem:=by simp
 obj:=fun i h st b hb=>by
  obtain⟨⟨old,he⟩,hit⟩:=st
  rcases qr hb with rfl | hb
  ·exact⟨_,he,fun v z=>by cases z⟩
  ·have z:b=it:=by simpa using hb
   subst z
   obtain⟨o,q,c,d⟩:=hit
   exact⟨o,q,fun v z=>by rw[d]at z;cases z⟩
 keep:=fun i h h' st k=>by
  obtain⟨⟨old,he⟩,hit⟩:=st
  exact⟨⟨old,k e (by simp) _ he⟩,hit.at fun o q=>k it (by simp) o q⟩
 item:=by
  intro X hP hw hK hc i pins s σ H E I hf st hg
  subst hP hw hK
  obtain⟨xs,x,hq,hx⟩:=hg
  obtain⟨its,rv,p,hz⟩:=I.tuple hq
  obtain⟨u,hu,ru⟩:=rv.get hx
  obtain⟨⟨old,he⟩,hit⟩:=st
  refine Yh9 he hit (show s.heap.IsTuple a its.toArray from p) (x:=u) (by simpa using hu) hei fun h' ho hit' hT hsz hk=>?_
  refine⟨_,rfl,wpAny_letOwnedTupleGo_enum ho fun h2 he2 hs2=>?_⟩
  have fr:H s.heap.objs.size=none:=I.fresh
  have hne:∀b∈[e,it],b≠s.heap.objs.size:=fun b hb z=>by
   rcases qr hb with rfl | hb
   ·exact absurd (qk he) (by rw[z];exact Qf _)
   ·have z2:b=it:=by simpa using hb
    subst z2
    obtain⟨o,q,_⟩:=hit
    exact absurd (qk q) (by rw[z];exact Qf _)
  have kk:∀b o,b∉[e,it]→s.heap.get? b=some o→h2.get? b=some o:=fun b o hb q=>by
   have h1:b≠e:=fun z=>hb (by simp[z])
   have h3:b≠it:=fun z=>hb (by simp[z])
   exact(hs2.2 b h1).trans (hk b o h1 h3 q)
  have tT:h2.get? s.heap.objs.size=some { cls:=.type "tuple",data:=.seq #[.int i s.toks,u] }:=(hs2.2 _ (Ne.symm (hne e (by simp)))).trans hT
  refine⟨.ref s.heap.objs.size,upd H s.heap.objs.size (.tup [.int i,x]),(show Inv X pins σ _ { s with heap:=h2,toks:=s.toks+1 } from Yhc (s:=s) (t':=s.toks+1) I hf kk (qt _) ?_),rfl,⟨x,s.heap.objs.size,fun ys hy=>by rw[I.tuple_inj hy hq];exact hx,fr,rfl,rfl⟩,⟨⟨_,by simpa using he2⟩,hit'.at fun o q=>(hs2.2 it (Ne.symm hei)).trans q⟩,fun b hb=>?_⟩
  ·exact⟨by rw[sizeLine_eq];show 2≤16777216;decide,[.int i s.toks,u],.cons ⟨_,rfl⟩ (.cons ru .nil),_,tT,rfl,0,rfl⟩
  ·rw[Yaa (hne b hb)];exact(hf b hb).1
 done:=by
  intro X hP hw hK hc i pins s σ H E I hf st hg
  subst hP hw hK
  obtain⟨xs,hq,hx⟩:=hg
  obtain⟨its,rv,p,hz⟩:=I.tuple hq
  obtain⟨⟨old,he⟩,hit⟩:=st
  obtain⟨f0,f1,f2,f3,f4,f5⟩:=hf it (by simp)
  have hl:=rv.length
  exact Yjc (I.ok.hd hc) he hit (show s.heap.IsTuple a its.toArray from p) (by simp;lia) fun h' eb=>⟨rfl,I.turned (t':=s.toks) (fun b o hb e=>eb b o hb e) f0 f1 f3 f4 f5⟩
 self:=fun _ _ _ _ _ st h=>let ⟨⟨_,he⟩,_⟩:=st;wpAny_pyIter_enum he h
variable {X:Cx} {pos:Pos}
noncomputable def y78(K:W.Frag)(ta:TA):TI:=fun σ H R=>ta σ H fun vs H1=>∃a xs,vs=[.ref a]∧((SqL K H1 a xs∧(xs.length≤sizeLine→R (IteL K a) H1))∨(SqT K H1 a xs∧(xs.length≤sizeLine→R (IteT K a) H1)))
theorem y2s{l:Expr}{ta:TA}{p:Pos}(hg:Gl X "enumerate")(hm:X.mg "enumerate"=none)(ha:PA X [l] ta)(hs:starEach [l] X.env=[(false,eval l X.env)]:=by rfl):PI X (.Tuple elts x1 pt) (.Call (.Name "enumerate" p) [l] [] pos) (y78 X.K ta):=by
 intro pins s σ H R I h
 refine Call_ (Yj1 I hg hm boot_enumerate (PyProof.Rows.callWith_type1 (thn (ha pos pins s σ H _ I h) fun us s1 hx_=>?_) hs rfl))
 obtain⟨vs,H1,I1,r1,q1⟩:=hx_
 obtain⟨a,xs,rfl,q⟩:=q1
 obtain⟨u,rfl,ru⟩:=Yfb r1
 cases ru
 have fin:∀(h':Heap),h'.objs.size=s1.heap.objs.size+2→(∀b o,s1.heap.get? b=some o→h'.get? b=some o)→∀b∈[s1.heap.objs.size+1,s1.heap.objs.size],FpOk X pins H1 b:=fun h' hz hk b hb=>by
  have hb':s1.heap.objs.size≤b:=by
   rcases qr hb with rfl | hb
   ·exact Nat.le_succ _
   ·have:b=s1.heap.objs.size:=by simpa using hb
    lia
  exact I1.fpOk hb' (I1.hok.fresh hb')
 rcases q with⟨hq,q⟩ | ⟨hq,q⟩
 ·obtain⟨its,rv,pl,hz⟩:=I1.list hq
  refine call_enumerate_list pl.isList fun h' he hit hsz hk=>wpAny_pyIter_enum (s:={ s1 with heap:=h' }) he ?_
  exact⟨_,[s1.heap.objs.size+1,s1.heap.objs.size],_,_,H1,rfl,I1.kept (t':=s1.toks) hk,Yt4 a s1.heap.objs.size _ (Nat.succ_ne_self _),⟨⟨_,he⟩,hit⟩,fin h' hsz hk,q hz⟩
 ·obtain⟨its,rv,pl,hz⟩:=I1.tuple hq
  refine Yf6 (show s1.heap.IsTuple a its.toArray from pl) fun h' he hit hsz hk=>wpAny_pyIter_enum (s:={ s1 with heap:=h' }) he ?_
  exact⟨_,[s1.heap.objs.size+1,s1.heap.objs.size],_,_,H1,rfl,I1.kept (t':=s1.toks) hk,Yt5 a s1.heap.objs.size _ (Nat.succ_ne_self _),⟨⟨_,he⟩,hit⟩,fin h' hsz hk,q hz⟩
noncomputable def Ynb(l:List D):List D:=(List.range l.length).map fun i:Nat=>.tup [.int (i:Int),l.getD i .non]
noncomputable def Yy5(c:D):Option (List D):=(Yn c).map Ynb
theorem Ykl{l:List D}{i:Nat}{d:D}(h:(Ynb l)[i]?=some d):∃e,l[i]?=some e∧d=.tup [.int i,e]:=by
 unfold Ynb at h
 rw[Qh]at h
 obtain⟨j,h1,rfl⟩:=qb h
 have hj:i < l.length:=by
  have:=(qm h1).1
  simpa using this
 rw[List.getElem?_range hj]at h1
 cases h1
 exact⟨l[i],qp hj,by simp[hj]⟩
theorem Yb5(l:List D):(Ynb l).length=l.length:=by simp[Ynb]
theorem Gr.newTup{H G:Hp}{d:D}{x:V}(s:Same G H){p:Addr}(hp:H p=none)(i:Nat)(r:Rp K G d x):∃G3,Gr H G (upd H p (.tup [.int i,x])) G3∧Rp K G3 (.tup [.int i,d]) (.ref p):=by
 refine⟨_,Gr.new s hp (.tup [.int i,x]),?_⟩
 rw[Rp]
 exact⟨p,_,rfl,y0,.cons (by rw[Rp]) (.one (r.mono (Gr.new s hp _).g))⟩
theorem Yo8{l:Expr}{f:Ro→Option D}{p:Pos}(hg:Gl X "enumerate")(hm:X.mg "enumerate"=none)(hl:ME X l f)(hs:starEach [l] X.env=[(false,eval l X.env)]:=by rfl) :
 MI X (.Tuple elts x1 pt) (.Call (.Name "enumerate" p) [l] [] pos) (b1 f Yy5):=
 PI.imp (y2s hg hm (Yvo hl y0k hs) hs) fun σ H R hx_=>by
  obtain⟨ρ,ds,H0,G0,G,e,s,h⟩:=hx_
  obtain⟨c,h1,h2⟩:=Ych e
  obtain⟨l,h3,rfl⟩:=qb h2
  refine tAof.at (show Yg f aNil ρ=some [c] by simp[Yg,aNil,h1]) s fun vs H1 G1 g1 r1 s1=>?_
  obtain⟨v,rfl,rv⟩:=Ykb r1
  rcases Yax h3 with rfl | rfl | ⟨ns,rfl,rfl⟩
  ·rw[Rp]at rv
   obtain⟨p,xs,rfl,g,rl⟩:=rv
   refine⟨p,xs,rfl,.inr ⟨.inl (.inl (s1.seen _ _ g)),fun hz=>h _ H1 G1 g1 ⟨by rw[Yb5,←rl.length];exact hz,fun i H2 G2 e1 e2=>⟨fun d hd=>?_,fun hi=>⟨xs,.inl (.inl (e2 _ _ (e1 _ _ g))),by rw[rl.length,←Yb5 l];exact hi⟩⟩⟩⟩⟩
   obtain⟨d',hd',rfl⟩:=Ykl hd
   obtain⟨x,hx,rx⟩:=rl.get hd'
   refine⟨⟨xs,x,.inl (.inl (e2 _ _ (e1 _ _ g))),hx⟩,fun y H3 q=>?_⟩
   obtain⟨y',q',a1,a2,rfl,rfl⟩:=q
   have:=a1 xs (.inl (.inl (e2 _ _ (e1 _ _ g))))
   rw[hx]at this
   cases this
   exact Gr.newTup e2 a2 i (rx.mono e1)
  ·rw[Rp]at rv
   obtain⟨p,xs,rfl,g,rl⟩:=rv
   refine⟨p,xs,rfl,.inl ⟨.inl (Ybd s1.seen g),fun hz=>h _ H1 G1 g1 ⟨by rw[Yb5,←rl.length];exact hz,fun i H2 G2 e1 e2=>⟨fun d hd=>?_,fun hi=>⟨xs,.inl (Ybd e2 (Ybd e1 g)),by rw[rl.length,←Yb5 l];exact hi⟩⟩⟩⟩⟩
   obtain⟨d',hd',rfl⟩:=Ykl hd
   obtain⟨x,hx,rx⟩:=rl.get hd'
   refine⟨⟨xs,x,.inl (Ybd e2 (Ybd e1 g)),hx⟩,fun y H3 q=>?_⟩
   obtain⟨y',q',a1,a2,rfl,rfl⟩:=q
   have:=a1 xs (.inl (Ybd e2 (Ybd e1 g)))
   rw[hx]at this
   cases this
   exact Gr.newTup e2 a2 i (rx.mono e1)
  ·rw[Rp]at rv
   obtain⟨p,rfl,g⟩:=rv
   have rl:RpL X.K G1 (ns.map D.int) (ns.map V.int):=.ints ns
   refine⟨p,_,rfl,.inl ⟨s1.seen.seq g,fun hz=>h _ H1 G1 g1 ⟨by rw[Yb5,←rl.length];exact hz,fun i H2 G2 e1 e2=>⟨fun d hd=>?_,fun hi=>⟨_,e2.seq (e1.seq g),by rw[rl.length,←Yb5];exact hi⟩⟩⟩⟩⟩
   obtain⟨d',hd',rfl⟩:=Ykl hd
   obtain⟨x,hx,rx⟩:=rl.get hd'
   refine⟨⟨_,x,e2.seq (e1.seq g),hx⟩,fun y H3 q=>?_⟩
   obtain⟨y',q',a1,a2,rfl,rfl⟩:=q
   have:=a1 _ (e2.seq (e1.seq g))
   rw[hx]at this
   cases this
   exact Gr.newTup e2 a2 i (rx.mono e1)
end
end
section
variable {K:W.Frag}
noncomputable def Ykm(k:Int):Value→Bool
 | .int i _=>i==k
 | .bool b=>(if b then 1 else 0)==k
 | _=>false
theorem Ycj{k:Int}{v:Value}(h:Ykm k v=true):(∃t,v=.int k t)∨∃b:Bool,v=.bool b∧k=if b then 1 else 0:=by
 cases v with
 | int i t=>
   have e:i=k:=by simpa [Ykm]using h
   exact .inl ⟨t,by rw[e]⟩
 | bool b=>
   have e:(if b then (1:Int)else 0)=k:=by simpa [Ykm]using h
   exact .inr ⟨b,rfl,e.symm⟩
 | _=>simp[Ykm]at h
theorem Yrb{prog:Program}{w:World}{A:Around}{E:Value→Shared→Prop}{s:Shared}{b:Bool}{Q:Int→Shared→Prop}(h:Q (hashInt (if b then 1 else 0)) { s with toks:=s.toks+1 }) :
 wpAny (model prog w) A (pyHash (.bool b)) Q E s:=by
 have hr:=rawHash_range (if b then 1 else 0)
 have hT:s.TypeIs (.bool b) "bool":=rfl
 unfold pyHash
 first | unfold pyHashByItsType | skip
 have hv:[Value.bool b].any Value.onHeap=false:=rfl
 refine wpAny_bind ?_
 rw[cRoomFor,if_neg (by rw[hv];exact qh)];refine wpAny_pure ?_
 refine wpAny_bind (wpAny_specialOf hT F.slot_bool_hash.lookup ?_)
 show wpAny _ _ (if (some (Value.builtin "int.__hash__")==some Value.none)=true then _ else _) Q E s
 rw[if_neg (by rw[beq_builtin_none];exact qh)]
 refine wpAny_bind (wpAny_specialOf hT F.slot_bool_hash.lookup ?_)
 show wpAny _ _ (callSpecialIfBoundUnlessNone? (.bool b) "__hash__" _ >>= _) Q E s
 refine wpAny_bind (wpAny_callSpecialIfBoundUnlessNone?_slot hT F.slot_bool_hash
  (wpAny_call_entry F.slot_bool_hash hT entry_int_hash
   (show wpAny _ _ (do ret (←mkInt (rawHash (if b then 1 else 0)))) _ _ s from wpAny_ret_mkInt ?_) (args_int_hash _)))
 show wpAny _ _ (if (decide (-(2:Int) ^ 63≤rawHash (if b then 1 else 0))&&decide (rawHash (if b then 1 else 0) < 2 ^ 63))=true then _ else _) Q E _
 rw[if_pos (by rw[decide_eq_true hr.1,decide_eq_true hr.2];rfl)]
 exact wpAny_pure h
noncomputable def Ybp(prog:Program)(w:World):KeyKind prog w Int where
 is:=Ykm
 hash:=hashInt
 inj:=fun v a b ha hb=>by
  rcases Ycj ha with⟨t,rfl⟩ | ⟨c,rfl,rfl⟩
  ·have e:a=b:=by simpa [Ykm]using hb
   exact e
  ·have e:(if c then (1:Int)else 0)=b:=by simpa [Ykm]using hb
   exact e
 byValue:=fun k v h=>by
  rcases Ycj h with⟨t,rfl⟩ | ⟨c,rfl,rfl⟩<;>rfl
 pyHash:=fun hv h=>by
  rcases Ycj hv with⟨t,rfl⟩ | ⟨c,rfl,rfl⟩
  ·exact wpAny_pyHash_int h
  ·exact Yrb h
 eqBool:=fun {A E s a b u v Q} hu hv h=>by
  rcases Ycj hu with⟨t,rfl⟩ | ⟨c,rfl,rfl⟩
  ·rcases Ycj hv with⟨t',rfl⟩ | ⟨c',rfl,rfl⟩
   ·exact wpAny_eqBool_int (by rw[show(a==b)=decide (a=b) from rfl];exact h)
   ·exact SeqAt.EqAt.int_bool a t c' _ _ _ _ (by rw[show(a==if c'=true then 1 else 0)=decide (a=if c'=true then 1 else 0) from rfl];exact h)
  ·rcases Ycj hv with⟨t',rfl⟩ | ⟨c',rfl,rfl⟩
   ·exact SeqAt.EqAt.bool_int c b t' _ _ _ _ (by rw[show((if c=true then 1 else 0)==b)=decide ((if c=true then 1 else 0)=b) from rfl];exact h)
   ·refine SeqAt.EqAt.bool_bool c c' _ _ _ _ ?_
    have e:(c==c')=decide ((if c=true then (1:Int)else 0)=if c'=true then 1 else 0):=by cases c<;>cases c'<;>rfl
    rw[e];exact h
 «strs»:=fun k x t v h=>by simp[Ykm]at h
noncomputable def Ygh{α β:Type} [DecidableEq α]:List α→List β→α→Option β
 | k::ks,v::vs,x=>if k=x then some v else Ygh ks vs x
 | _,_,_=>none
theorem Yv3{α:Type} [DecidableEq α] {G:Hp} (x:α):∀{ks:List α} {vs:List D} {vxs:List V},RpL K G vs vxs→(∀d,Ygh ks vs x=some d→∃v,Ygh ks vxs x=some v∧Rp K G d v)∧(Ygh ks vs x=none→Ygh ks vxs x=none)
 | [],_,_,_=>⟨fun d h=>by simp[Ygh]at h,fun _=>by simp[Ygh]⟩
 | k::ks,[],_,r=>by
   rw[RpL]at r;subst r
   exact⟨fun d h=>by simp[Ygh]at h,fun _=>by simp[Ygh]⟩
 | k::ks,d::vs,_,r=>by
   rw[RpL]at r
   obtain⟨y,r',rfl,r1,r2⟩:=r
   by_cases e:k=x
   ·simp only[Ygh,if_pos e]
    exact⟨fun d' h=>⟨y,rfl,by cases h;exact r1⟩,fun h=>by cases h⟩
   ·simp only[Ygh,if_neg e]
    exact Yv3 x r2
end
section
open Sem (wp)
variable {K:W.Frag}
end
section
variable {K:W.Frag}
section
variable {X:Cx} {e ie:Expr} {f fb:Ro→Option D} {pos:Pos}
noncomputable def rIns:V→List V→Hp→VK→Prop:=fun x vs H Q=>∃l xs i y,x=.ref l∧vs=[.int i,y]∧H l=some (.lst xs)∧0≤i∧i≤xs.length∧xs.length < sizeLine∧Q .non (upd H l (.lst (xs.take i.toNat++y::xs.drop i.toNat)))
theorem Yv4:MtM X "list.insert" rIns:=by
 intro pins s σ H x vs v us Q I rx rv h
 obtain⟨l,xs,i,y,rfl,rfl,hH,h0,hi,hz,q⟩:=h
 cases rx
 obtain⟨u1,u2,rfl,⟨t,rfl⟩,r2⟩:=Yu5 rv
 obtain⟨z,its,n,r,hl,e⟩:=I.lstM hH
 have hn:=sizeLine_eq
 have hfit:¬(!Builtin.List.listFitsIndex i)=true:=by
  unfold Builtin.List.listFitsIndex
  have a1:-(2 ^ 63:Int)≤i:=by lia
  have a2:i < 2 ^ 63:=by lia
  simp
  exact⟨by lia,by lia⟩
 refine call_meets F.slot_list_insert ⟨_,e,rfl⟩ F.entry_list_insert (F.args_list_insert_3 _ _ _) (AutoSeq1.list_insert_list_int_val_1 l its.toArray n i t u2 hfit (by rw[qj];lia)) ⟨e,?_⟩
 have hk:¬i < 0:=by lia
 have hm:min i.toNat its.length=i.toNat:=by lia
 refine⟨.non,_,I.lset (its':=its.take i.toNat++u2::its.drop i.toNat) hH e ?_ ((r.take _).append (.cons r2 (r.drop _))) ?_,rfl,q⟩
 ·simp only[if_neg hk,qj,hm]
  apply Array.toList_inj.mp
  simp
  exact List.take_of_length_le (by simp)
 ·simp
  lia
noncomputable def insD(l:List D)(k d:D):Option (List D):=(intD k).bind fun i=>if decide (0≤i)&&decide (i≤l.length)&&decide (l.length < cap6)then some (l.take i.toNat++d::l.drop i.toNat)else none
theorem Yv5(i:Nat){x:Str}{p2 apos cpos:Pos}(hb:ME X ie fb)(he:ME X e f)(hN:X.N[i]?=some x:=by rfl)(hv:Vis X.env.scope x:=by first | exact Or.inl rfl | exact Or.inr (Or.inl rfl) | exact Or.inr (Or.inr rfl))
 (hd:(x==("__debug__":Str))=false:=by decide) (hcd:(x==("__classdict__":Str))=false:=by decide) (hse:swapsWith (.Call (.Attribute (.Name x p2) "insert" apos) [ie,e] [] cpos) none pos.line X.env=pure false:=by rfl)
 (hs:starEach [ie,e] X.env=(false,eval ie X.env)::starEach [e] X.env:=by rfl) (hs2:starEach [e] X.env=[(false,eval e X.env)]:=by rfl)
 (hfew:((backTo cpos (starEach [ie,e] X.env)).all (fun x=>!x.1)&&(backToKw cpos (keywordEach [] X.env)).all (fun x=>x.1.isSome)&&decide ([ie,e].length+([]:List Keyword).length+(if ([]:List Keyword).isEmpty then 0 else 1) < 30))=true:=by rfl)
 (hline:(apos.endLine==cpos.line)=true:=by rfl) (hbase:attributeBase (.Name x p2) "insert" X.env (eval (.Name x p2) X.env)=eval (.Name x p2) X.env:=by rfl) (hpl:(backTo cpos (starEach [e] X.env)).any (·.1)=false:=by rfl) :
 MS X (.Expr (.Call (.Attribute (.Name x p2) "insert" apos) [ie,e] [] cpos) pos) (Yt3 i fb f insD):=
 PS.imp (Ymv (y10 PySem.F.plainAttrs_list PySem.F.slot_list_insert PySem.F.type_list_insert Yv4 (Yol hN hv hd hcd) (Ydn hb (Ydn he Ygz hs2) hs) hbase hfew hline hs hpl) hse) fun F σ H hx_=>by
  obtain⟨ρ,out,H0,G0,G,e,s,h⟩:=hx_
  unfold Yt3 at e
  obtain⟨d,h1,e⟩:=qa e
  obtain⟨l,h2,e⟩:=qa e
  obtain⟨k,h3,e⟩:=qa e
  obtain⟨l',h4,rfl⟩:=qb e
  unfold insD at h4
  obtain⟨n,h5,h4⟩:=qa h4
  split at h4
  ·rename_i hc
   cases h4
   simp only[Qi,decide_eq_true_eq]at hc
   obtain⟨⟨hc1,hc2⟩,hc3⟩:=hc
   obtain⟨a,xs,ha,hH,hr,hG⟩:=Yvs s h2
   refine⟨_,ha,.inl ⟨rfl,xs,SqL.of hH⟩,tOf.at h3 s fun u H1 G1 g1 r1 s1=>tOf.at h1 s1 fun v H2 G2 g2 r2 s2=>?_⟩
   cases k<;>simp[intD]at h5
   subst h5
   rw[Rp]at r1
   subst r1
   have hr2:=(hr.mono g1.g).mono g2.g
   refine⟨a,xs,_,v,rfl,rfl,g2.h _ _ (g1.h _ _ hH),hc1,by rw[hr.length];exact hc2,?_,h σ _ G2 (s2.mut (Yg7 h2) ha ((hr2.take _).append (.cons r2 (hr2.drop _))))⟩
   rw[hr.length]
   exact Qd hc3 (Yfe (qt _))
  ·cases h4
noncomputable def rExt:V→List V→Hp→VK→Prop:=fun x vs H Q=>∃l b xs zs,x=.ref l∧vs=[.ref b]∧H l=some (.lst xs)∧Rd H b (.lst zs)∧xs.length+zs.length≤sizeLine∧Q .non (upd H l (.lst (xs++zs)))
theorem y6a:MtM X "list.extend" rExt:=by
 intro pins s σ H x vs v us Q I rx rv h
 obtain⟨l,b,xs,zs,rfl,rfl,hH,hB,hz,q⟩:=h
 cases rx
 obtain⟨u,rfl,ru⟩:=rv.one
 cases ru
 obtain⟨z,its,n,r,hl,e⟩:=I.lstM hH
 obtain⟨z2,its2,n2,r2,e2⟩:=hB.ok I.hok
 have hl2:=r2.length
 have hsz:its.toArray.size+its2.toArray.size≤sizeLine:=by rw[qj,qj];lia
 have hlong:¬(!its.toArray.isEmpty&&Builtin.List.listTooLong (its.toArray.size+its2.toArray.size))=true:=by
  rw[Yyn hsz,Bool.and_false]
  exact qh
 refine call_meets F.slot_list_extend ⟨_,e,rfl⟩ F.entry_list_extend (F.args_list_extend_2 _ _)
  (AutoSeq1.list_extend_list_list_0 l its.toArray n b its2.toArray n2 hlong (by rw[qj];lia) (by lia)) ⟨e,e2,?_⟩
 refine⟨.non,_,I.lset (its':=its++its2) hH e (by simp) (r.append r2) ?_,rfl,q⟩
 rw[qy]
 lia
noncomputable def extD(l:List D)(d:D):Option (List D):=match d with
 | .lst m=>if l.length+m.length≤cap6 then some (l++m)else none
 | _=>none
theorem Yv6(i:Nat){x:Str}{p2 apos cpos:Pos}(he:ME X e f)(hN:X.N[i]?=some x:=by rfl)(hv:Vis X.env.scope x:=by first | exact Or.inl rfl | exact Or.inr (Or.inl rfl) | exact Or.inr (Or.inr rfl))
 (hd:(x==("__debug__":Str))=false:=by decide) (hcd:(x==("__classdict__":Str))=false:=by decide) (hse:swapsWith (.Call (.Attribute (.Name x p2) "extend" apos) [e] [] cpos) none pos.line X.env=pure false:=by rfl)
 (hs:starEach [e] X.env=[(false,eval e X.env)]:=by rfl)
 (hfew:((backTo cpos (starEach [e] X.env)).all (fun x=>!x.1)&&(backToKw cpos (keywordEach [] X.env)).all (fun x=>x.1.isSome)&&decide ([e].length+([]:List Keyword).length+(if ([]:List Keyword).isEmpty then 0 else 1) < 30))=true:=by rfl)
 (hline:(apos.endLine==cpos.line)=true:=by rfl) (hbase:attributeBase (.Name x p2) "extend" X.env (eval (.Name x p2) X.env)=eval (.Name x p2) X.env:=by rfl) :
 MS X (.Expr (.Call (.Attribute (.Name x p2) "extend" apos) [e] [] cpos) pos) (sMut i f extD):=
 PS.imp (Ymv (y10 PySem.F.plainAttrs_list PySem.F.slot_list_extend PySem.F.type_list_extend y6a (Yol hN hv hd hcd) (Ydn he Ygz hs) hbase hfew hline hs rfl) hse) fun F σ H hx_=>by
  obtain⟨ρ,out,H0,G0,G,e,s,h⟩:=hx_
  unfold sMut at e
  obtain⟨l,h1,e⟩:=qa e
  obtain⟨d,h2,e⟩:=qa e
  obtain⟨l',h3,rfl⟩:=qb e
  unfold extD at h3
  split at h3
  ·rename_i m
   split at h3
   ·rename_i hl
    cases h3
    obtain⟨a,xs,ha,hH,hr,hG⟩:=Yvs s h1
    refine⟨_,ha,.inl ⟨rfl,xs,SqL.of hH⟩,tOf.at h2 s fun v H1 G1 g1 r1 s1=>?_⟩
    rw[Rp]at r1
    obtain⟨b,zs,rfl,gb,rz⟩:=r1
    refine⟨a,b,xs,zs,rfl,rfl,g1.h _ _ hH,Ybd s1.seen gb,?_,h σ _ G1 (s1.mut (Yg7 h1) ha ((hr.mono g1.g).append rz))⟩
    rw[hr.length,rz.length]
    exact Yfe hl
   ·cases h3
  ·cases h3
end
end
section
variable {K:W.Frag}
def GI(mg:Str→Option Value)(x:Str)(i:Int):Prop:=∃t,mg x=some (.int i t)
section
variable {X:Cx} {ke:Expr} {fk:Ro→Option D} {pos px:Pos} {x:Str}
theorem y2t{i:Int}(g:GI X.mg x i)(hg:Gl X x)(hd:(x==("__debug__":Str))=false:=by decide):ME X (.Name x px) (kD (.int i)):=by
 obtain⟨t,hm⟩:=g
 exact Yg8 (v:=.int i) (Yuz (v:=.int i) hg hm ⟨t,rfl⟩ hd) (fun _ _ _ q=>q) fun _=>by rw[Rp]
end
theorem Gr.updHid{H G H2 G2:Hp}(g:Gr H G H2 G2){p:Addr}(hp:H p=none)(gp:G2 p=none)(o:HO):Gr H G (upd H2 p o) G2:=
 ⟨fun b u e=>by rw[Yaa (y9 e hp)];exact g.h b u e,g.g,fun b u e=>by rw[Yaa (y9 e gp)];exact g.s b u e,g.n⟩
noncomputable def tK(x:Str):TE:=fun _ H Q=>Q (.str x) H
theorem y6b{X:Cx}{x:Str}{j:Nat}{pos:Pos}:PE X (.Constant (.str x) j pos) (tK x):=y0a
structure MP(X:Cx)(pos:Pos)(keys:List (Option Expr))(values:List Expr)(ks:List Str)(fs:List (Ro→Option D)):Prop where
 len:ks.length=fs.length
 pps:PPs X pos keys values ((ks.zip fs).map fun p=>(tK p.1,tOf X.K p.2))
 all:keys.all (·.isSome)=true
 kv:keys.length=values.length
 kk:keys.length=ks.length
theorem y6c{X:Cx}{pos:Pos}:MP X pos [] [] [] []:=⟨rfl,y1t,rfl,rfl,rfl⟩
theorem y2u{X:Cx}{pos pk:Pos}{x:Str}{j:Nat}{v:Expr}{f:Ro→Option D}{keys:List (Option Expr)}{values:List Expr}{ks:List Str}{fs:List (Ro→Option D)}(hv:ME X v f)(hr:MP X pos keys values ks fs) :
 MP X pos (some (.Constant (.str x) j pk)::keys) (v::values) (x::ks) (f::fs):=⟨by simp[hr.len],Yyl y6b hv hr.pps,by simpa using hr.all,by simp[hr.kv],by simp[hr.kk]⟩
noncomputable def evs:List (Ro→Option D)→Ro→Option (List D)
 | [],_=>some []
 | f::fs,ρ=>(f ρ).bind fun d=>(evs fs ρ).map (d::·)
theorem Yo9{H0 G0:Hp}{σ:L2.St}{ρ:Ro}:∀{ks:List Str} {fs:List (Ro→Option D)} {ds:List D} {H G:Hp} {Q:List (V × V)→Hp→Prop},ks.length=fs.length→evs fs ρ=some ds→SR K H0 G0 σ H G ρ→
 (∀vs H' G',Gr H G H' G'→RpL K G' ds vs→Q ((ks.map V.str).zip vs) H')→Yss ((ks.zip fs).map fun p=>(tK p.1,tOf K p.2)) σ H Q
 | [],[],_,H,G,Q,_,e,s,h=>by
   cases e
   exact h [] H G (.refl s.seen) .nil
 | [],_::_,_,_,_,_,hl,_,_,_=>by simp at hl
 | _::_,[],_,_,_,_,hl,_,_,_=>by simp at hl
 | x::ks,f::fs,ds,H,G,Q,hl,e,s,h=>by
   rw[evs]at e
   obtain⟨d,h1,e⟩:=qa e
   obtain⟨l,h2,rfl⟩:=qb e
   exact tOf.at h1 s fun v H1 G1 g1 r1 s1=>Yo9 (ks:=ks) (fs:=fs) (by simpa using hl) h2 s1 fun vs H2 G2 g2 r2=>h (v::vs) H2 G2 (g1.trans g2) (.cons (r1.mono g2.g) r2)
theorem Ypa:∀{more acc:List (Key × V)},(more.map (·.1)).Nodup→(∀k∈more.map (·.1),valV acc k=none)→Yg0 acc more=acc++more
 | [],acc,_,_=>by simp[Yg0]
 | p::more,acc,hn,ha=>by
   rw[Qc,List.nodup_cons]at hn
   have h1:valV acc p.1=none:=ha p.1 (by simp)
   show Yg0 (putK acc p.1 p.2) more=_
   rw[Yyj _ h1,Ypa hn.2 fun k hk=>?_]
   ·simp
   ·rw[Yos _ _ _ _ h1]
    have:¬k=p.1:=fun e=>hn.1 (e ▸ hk)
    rw[if_neg this]
    exact ha k (by simp at hk ⊢;exact .inr hk)
theorem Yy6{ks:List Str}(k:Str):∀{vs:List V},valV ((ks.map Sum.inr:List Key).zip vs) (Sum.inr k)=Ygh ks vs k:=by
 induction ks with
 | nil=>intro vs;cases vs<;>rfl
 | cons a ks ih=>
   intro vs
   cases vs with
   | nil=>rfl
   | cons v vs=>
     rw[Qc,List.zip_cons_cons]
     by_cases e:a=k
     ·rw[Yd2 (by rw[e])]
      simp[Ygh,e]
     ·rw[Yd3 (fun z=>e (Sum.inr.inj z)),ih]
      simp[Ygh,e]
section
variable {X:Cx} {ke:Expr} {fk:Ro→Option D} {pos dpos:Pos}
noncomputable def Yt6(ks:List Str)(fs:List (Ro→Option D))(fk:Ro→Option D):Ro→Option D:=fun ρ=>(evs fs ρ).bind fun ds=>(fk ρ).bind fun
 | .str k=>Ygh ks ds k
 | _=>none
theorem y2v(hu:X.A.units+64 < cLine){keys:List (Option Expr)}{values:List Expr}(ks:List Str)(fs:List (Ro→Option D))(hn:ks.Nodup)(h15:ks.length≤15)(h0:ks≠[])(hp:MP X dpos keys values ks fs)(hk:MC X ke fk)(hs:NoSl ke:=by intro _ _;rfl) :
 ME X (.Subscript (.Dict keys values dpos) ke pos) (Yt6 ks fs fk):=
 PE.imp (y1s (by lia) (y1u hp.pps hp.all hp.kv (fun z=>h0 (List.eq_nil_of_length_eq_zero (by rw[←hp.kk,z];rfl))) (by rw[hp.kk];exact h15)) hk hs) fun σ H Q hx_=>by
  obtain⟨ρ,d,H0,G0,G,e,s,h⟩:=hx_
  unfold Yt6 at e
  obtain⟨ds,h1,e⟩:=qa e
  obtain⟨dk,h2,e⟩:=qa e
  intro p hp0
  have g0:Gr H G (upd H p (.dK [])) G:=Gr.hid s.seen hp0 _
  refine Yo9 hp.len h1 (s.grow g0) fun vs H2 G2 g2 r2=>?_
  have hz:vs.length=ks.length:=by
   rw[r2.length,hp.len]
   have:∀(fs:List (Ro→Option D)) (ds:List D),evs fs ρ=some ds→ds.length=fs.length:=fun fs=>by
    induction fs with
    | nil=>intro ds h;cases h;rfl
    | cons f fs ih=>
      intro ds h
      rw[evs]at h
      obtain⟨d,_,h⟩:=qa h
      obtain⟨l,h3,rfl⟩:=qb h
      simp[ih l h3]
   exact this fs ds h1
  refine⟨g2.h _ _ y0,(ks.map Sum.inr:List Key).zip vs,?_,by simp[hz];exact h15,?_⟩
  ·apply List.ext_getElem
   ·simp
   ·intro i h3 h4
    simp[kV]
  ·have hkeys:(((ks.map Sum.inr:List Key).zip vs).map (·.1))=ks.map Sum.inr:=List.map_fst_zip (by simp[hz])
   have hm:Yg0 [] ((ks.map Sum.inr:List Key).zip vs)=(ks.map Sum.inr:List Key).zip vs:=by
    rw[Ypa (by rw[hkeys];exact List.Pairwise.map _ (fun a b h z=>h (Sum.inr.inj z)) hn) fun k _=>rfl]
    rfl
   rw[hm]
   have gp:G2 p=none:=Yj8 g2 y0 (s.seen.free hp0)
   have g3:Gr H G (upd H2 p (.dK ((ks.map Sum.inr:List Key).zip vs))) G2:=(g0.trans g2).updHid hp0 gp _
   refine tCof.at h2 (s.grow g3) fun v H3 G3 g4 r4 s4=>?_
   split at e
   ·rename_i k
    rw[Ct]at r4
    obtain⟨rfl,_⟩:=r4
    obtain⟨x,h5,h6⟩:=(Yv3 k r2).1 d e
    refine⟨p,x,rfl,.inl ⟨_,Sum.inr k,.inl (g4.h _ _ y0),rfl,?_⟩,h x H3 G3 (g3.trans g4) (h6.mono g4.g)⟩
    rw[Yy6,h5]
   ·cases e
end
end
section
variable {K:W.Frag}
structure DtH(H:Hp)(a:Addr)(nks:List (List Int × Addr))(vxs:List V):Prop where
 at':H a=some (dTo a nks vxs)
 len:nks.length=vxs.length
 nd:(nks.map (·.1)).Nodup
 keys:∀p∈nks,∃ys,H p.2=some (.tup ys)∧y19 ys=some p.1
end
section
end
section
section
variable {X:Cx} {a b c e:Expr} {fa fb fc:Ro→Option D} {pos:Pos} {st:Stmt}
noncomputable def ch3(fa fb fc:Ro→Option D)(g g':D→D→Option Bool):Ro→Option Bool:=fun ρ=>
 (fa ρ).bind fun x=>(fb ρ).bind fun y=>(g x y).bind fun k=>if k=true then (fc ρ).bind fun z=>g' y z else some false
theorem Yy7{g g':D→D→Option Bool}{ρ:Ro}{k:Bool}(h:ch3 fa fb fc g g' ρ=some k) :
 ∃x y,fa ρ=some x∧fb ρ=some y∧((g x y=some false∧k=false)∨(g x y=some true∧∃z,fc ρ=some z∧g' y z=some k)):=by
 unfold ch3 at h
 obtain⟨x,h1,h⟩:=qa h
 obtain⟨y,h2,h⟩:=qa h
 obtain⟨q,h3,h⟩:=qa h
 refine⟨x,y,h1,h2,?_⟩
 cases q with
 | false=>
   rw[if_neg (by simp)]at h
   cases h
   exact .inl ⟨h3,rfl⟩
 | true=>
   rw[if_pos rfl]at h
   obtain⟨z,h4,h⟩:=qa h
   exact .inr ⟨h3,z,h4,h⟩
theorem Yy8{op op':CmpOp}{r r':R2}{g g':D→D→Option Bool}(ho:OpR X (compareOp op) r)(hr:Yg6 X.K r g)(ho':OpR X (compareOp op') r')(hr':Yg6 X.K r' g')(ha:MC X a fa)(hb:MC X b fb)(hc:MC X c fc)
 (hm:lastMarks [op,op'] [b,c]=false:=by with_unfolding_all rfl):ME X (.Compare a [op,op'] [b,c] pos) (mB (ch3 fa fb fc g g')):=
 PE.imp (Yyh ho ho' ha hb hc hm) fun σ H Q h=>by
  obtain⟨ρ,d,H0,G0,G,e,s,h⟩:=h
  obtain⟨k,ek,rfl⟩:=Yq4 e
  obtain⟨x,y,h1,h2,h3⟩:=Yy7 ek
  refine tCof.at h1 s fun v H1 G1 g1 r1 s1=>tCof.at h2 s1 fun u H2 G2 g2 r2 s2=>?_
  rcases h3 with⟨h3,rfl⟩ | ⟨h3,z,h4,h5⟩
  ·exact hr v u x y false H2 G2 _ h3 s2.seen (r1.grow g2) r2 ⟨false,rfl,by rw[if_neg (by simp)];exact h _ H2 G2 (g1.trans g2) (by rw[Rp])⟩
  ·refine hr v u x y true H2 G2 _ h3 s2.seen (r1.grow g2) r2 ⟨true,rfl,?_⟩
   rw[if_pos rfl]
   exact tCof.at h4 s2 fun w H3 G3 g3 r3 s3=>hr' u w y z k H3 G3 _ h5 s3.seen (r2.grow g3) r3 (h _ H3 G3 ((g1.trans g2).trans g3) (by rw[Rp]))
noncomputable def nS:Ro→Option Out:=fun _=>none
theorem Yy9:MS X st nS:=fun _ _ _ _ _ _ ⟨_,_,_,_,_,h,_⟩=>nomatch h
end
end
section
end
section
variable {K:W.Frag}
set_option maxRecDepth 100000
section
variable {X:Cx} {e:Expr} {f:Ro→Option D} {p pos:Pos}
theorem nr1{α:Sort _}{a b:α}(h:a=b):a=b:=h
end
end
section
section
variable {X:Cx} {a b e:Expr} {fa fb f:Ro→Option D} {pos:Pos} {K:W.Frag}
theorem Yrc{M:Model}{A:Around}{E:Value→Shared→Prop}{s:Shared}{Q:Value→Shared→Prop}{v:Value}{k:Bool}(hb:∀id,v≠.builtin id)(h:Q (.bool (v==.bool k)) s):wpAny M A (compareOp .Is v (.bool k)) Q E s:=by
 cases v<;>first | exact wpAny_pure h | exact absurd rfl (hb _)
noncomputable def isBl(k:Bool):D→Bool
 | .bl j=>j==k
 | _=>false
noncomputable def isB(neg:Bool):D→D→Option Bool
 | d,.bl k=>some (isBl k d != neg)
 | _,_=>none
theorem vbl{x:V}{v:Value}(r:RelV x v)(k:Bool):(v==.bool k)=decide (x=.bl k):=by
 cases x with
 | bl j=>
   cases (show v=Value.bool j from r)
   by_cases h:j=k
   ·subst h;simp
   ·simp[h]
 | non=>cases (show v=Value.none from r);rfl
 | int i=>obtain⟨t,rfl⟩:=r;rfl
 | str i=>obtain⟨t,rfl⟩:=r;rfl
 | ref i=>cases (show v=Value.ref i from r);rfl
 | _=>first | (obtain⟨t,rfl⟩:=r;rfl) | (cases r;rfl)
theorem nobl{x:V}{v:Value}(r:RelV x v):∀id,v≠.builtin id:=fun id z=>by
 subst z
 cases x<;>first | (obtain⟨t,h⟩:=r;cases h;done) | (cases r;done)
theorem y6d:OpR X (compareOp .Is) (fun x y H Q=>∃k,y=.bl k∧Q (.bl (decide (x=.bl k) != false)) H):=by
 intro pins s σ H x y v u Q I rx ry h
 obtain⟨k,rfl,q⟩:=h
 cases ry
 refine Yrc (nobl rx) ⟨_,H,I,?_,q⟩
 rw[vbl rx]
 simp
 rfl
theorem y2w{G H:Hp}{d:D}{v:V}(r:Ct K G H d v)(k:Bool):decide (v=.bl k)=isBl k d:=by
 cases d with
 | bl j=>
   rw[Ct]at r
   subst r
   by_cases h:j=k
   ·subst h;simp[isBl]
   ·simp[isBl,h]
 | non=>rw[Ct]at r;subst r;simp[isBl]
 | int i=>rw[Ct]at r;subst r;simp[isBl]
 | str i=>rw[Ct]at r;obtain⟨rfl,_⟩:=r;simp[isBl]
 | tup l=>rw[Ct]at r;obtain⟨a,xs,rfl,_⟩:=r;simp[isBl]
 | lst l=>rw[Ct]at r;obtain⟨a,xs,rfl,_⟩:=r;simp[isBl]
 | scr l=>rw[Ct]at r;obtain⟨a,rfl,_⟩:=r;simp[isBl]
 | dct t l m=>rw[Ct]at r;obtain⟨a,xs,ys,rfl,_⟩:=r;simp[isBl]
theorem y2x{neg:Bool}:Yg6 K (fun x y H Q=>∃k,y=.bl k∧Q (.bl (decide (x=.bl k) != neg)) H) (isB neg):=by
 intro x y dx dy c H G Q h s rx ry q
 unfold isB at h
 split at h
 ·rename_i k
  cases h
  have e:=y2w rx k
  rw[Ct]at ry
  subst ry
  exact⟨k,rfl,by rw[e];exact q⟩
 ·cases h
theorem y6e(ha:MC X a fa)(hb:MC X b fb):MT X (.Compare a [.Is] [b] pos) (b2 fa fb (isB false)):=Yg9 y6d y2x ha hb (Ydb _)
end
end
section
set_option maxRecDepth 100000
noncomputable def y0o:List D→Option (List (Int × D))
 | []=>some []
 | .tup [.int i,v]::l=>(y0o l).map ((i,v)::·)
 | _=>none
noncomputable def pairsOf:D→Option (List (Int × D))
 | .lst l=>y0o l
 | _=>none
variable {K:W.Frag}
end
section
noncomputable def y2y:List Value→List Str→Prop:=Paired fun v k=>(∃t,v=.str k t)∧PyData.strOk k=true
def GT(K:W.Frag)(mg:Str→Option Value)(x:Str)(ks:List Str):Prop:=∃p o its n,mg x=some (.ref p)∧K.lookup p=some o∧o.cls=.type "tuple"∧o.data=.seq its n∧y2y its.toList ks
theorem Ymn{h:Heap}:∀{vs:List Value} {ks:List Str},y2y vs ks→∃as,ReadsAll h vs (ks.map PyData.str) as∧PyData.canLayAll0 (ks.map PyData.str)=true
 | _,_,.nil=>⟨_,.nil,by simp[PyData.canLayAll0]⟩
 | _,_,.cons r t=>by
   obtain⟨⟨tk,rfl⟩,hk⟩:=r
   obtain⟨as,h1,h2⟩:=Ymn (h:=h) t
   exact⟨_,.cons (.str _ tk) h1,by simp[PyData.canLayAll0,PyData.canLay0,h2,hk]⟩
noncomputable def inG(neg:Bool)(ks:List Str):D→Option Bool
 | .str k=>some (decide (k∈ks) != neg)
 | _=>none
noncomputable def rInG(p:Addr)(ks:List Str)(neg:Bool):R2:=fun x y H Q=>∃k,x=.str k∧PyData.strOk k=true∧y=.ref p∧Q (.bl (decide (k∈ks) != neg)) H
theorem Yv7(k:Str):∀ks:List Str,((ks.map PyData.str).any fun y=>PyData.eqv y (.str k))=decide (k∈ks)
 | []=>rfl
 | a::ks=>by
   rw[Qc,List.any_cons,Yv7 k ks]
   have e:PyData.eqv (.str a) (.str k)=decide (k=a):=by
    simp only[PyData.eqv]
    rw[show(a==k)=decide (a=k) from rfl]
    exact decide_eq_decide.mpr ⟨fun h=>h.symm,fun h=>h.symm⟩
   rw[e]
   by_cases h:k=a<;>simp[h]
section
variable {X:Cx} {a:Expr} {fa:Ro→Option D} {pos px:Pos} {x:Str} {ks:List Str}
theorem y2z(hu:X.A.units+64 < cLine){p:Addr}{o:Obj}{its:Array Value}{n:Nat}(hl:X.K.lookup p=some o)(hc:o.cls=.type "tuple")(hd:o.data=.seq its n)(hs:y2y its.toList ks):OpR X (compareOp .NotIn) (rInG p ks true):=by
 intro pins s σ H x y v u Q I rx ry h
 obtain⟨k,rfl,hk,rfl,q⟩:=h
 cases ry
 obtain⟨t,rfl⟩:=rx
 obtain⟨as,h1,h2⟩:=Ymn (h:=s.heap) hs
 have ht:Reads s.heap (.ref p) (.tuple (ks.map PyData.str)) _:=.tuple (I.kIn p o hl) hc hd h1
 refine SeqAt.notIn_tuple_reads ht (.str k t) (by simpa [PyData.canLay0]using h2) (by simp[PyData.canLay0,hk]) ?_ ⟨.bl _,H,I,rfl,?_⟩
 ·have e:(PyData.str k).depth=0:=by simp[PyData.depth]
  rw[e]
  lia
 ·rw[Yv7]
  have e:(!decide (k∈ks))=(decide (k∈ks) != true):=by cases decide (k∈ks)<;>rfl
  rw[e]
  exact q
theorem y20(hu:X.A.units+64 < cLine)(g:GT X.K X.mg x ks)(hg:Gl X x)(ha:MC X a fa)(hm:behindInMarks .NotIn (.Name x px)=false:=by with_unfolding_all rfl)(hd:(x==("__debug__":Str))=false:=by decide):MT X (.Compare a [.NotIn] [.Name x px] pos) (b1 fa (inG true ks)):=by
 obtain⟨p,o,its,n,hmg,hl,hc,hdt,hs⟩:=g
 refine PT.imp (Yu4 (y2z hu hl hc hdt hs) ha (Yuz (v:=.ref p) hg hmg rfl hd) hm) fun σ H Q hx_=>?_
 obtain⟨ρ,b,H0,G0,G,e,s,h⟩:=hx_
 obtain⟨d,h1,h2⟩:=Ych e
 refine tCof.at h1 s fun v H1 G1 g1 r1 s1=>?_
 unfold inG at h2
 split at h2
 ·rename_i k
  cases h2
  rw[Ct]at r1
  exact⟨k,r1.1,r1.2,rfl,_,rfl,h H1 G1 g1⟩
 ·cases h2
@[simp] theorem inG_str(neg:Bool)(ks:List Str)(k:Str):inG neg ks (.str k)=some (decide (k∈ks) != neg):=nr1 rfl
end
end
section
end
section
set_option maxRecDepth 100000
section
variable {prog:Program} {w:World} {A:Around} {E:Value→Shared→Prop} {s:Shared}
theorem Yrd:isSubtype (.type "set") (.type "set")=pure true:=by rw[isSubtype_type];kernel_rfl
end
section
variable {X:Cx} {pins:List (Addr × Obj)} {σ:L2.St} {H:Hp} {s:Shared}
theorem _root_.L2.Inv.dr(I:Inv X pins σ H s)(d':Drawn):Inv X pins σ H { s with drawn:=d' }:=⟨I.ok,I.os,I.bare,I.base,I.loc,I.cell,I.free,I.freeC,I.pin,I.hok,I.len⟩
theorem Yv8{ns:List Int}{us:List Value}(r:Vals (ns.map V.int) us):IntsAre us ns:=Yfy r
end
section
variable {X:Cx} {e:Expr} {f:Ro→Option D} {p p2 pos pos2:Pos}
theorem nr0{α:Sort _}{a b:α}(h:a=b):a=b:=h
end
end
section
noncomputable def lcgN(m:Nat):Nat→Nat→Nat
 | 0,i=>i
 | k+1,i=>lcgN m k ((i * 5+1) % m)
theorem Yjr(m:Nat):∀(a b i:Nat),lcgN m (a+b) i=lcgN m b (lcgN m a i)
 | 0,b,i=>by rw[Nat.zero_add];rfl
 | a+1,b,i=>by rw[Nat.succ_add];exact Yjr m a b _
noncomputable def y21(m:Nat):Nat→Nat→List Nat
 | 0,_=>[]
 | k+1,i=>i::y21 m k ((i * 5+1) % m)
theorem Ypb{m j:Nat}:∀{k i:Nat},j∈y21 m k i→∃a,a < k∧lcgN m a i=j
 | 0,_,h=>(nomatch h)
 | k+1,i,h=>by
   rcases qr h with rfl | h
   ·exact⟨0,by lia,rfl⟩
   ·obtain⟨a,ha,e⟩:=Ypb h
    exact⟨a+1,by lia,e⟩
noncomputable def cycB(m:Nat):Bool:=(List.range m).all (fun j=>(y21 m m 0).contains j)&&lcgN m m 0==0
noncomputable def sizes:List Nat:=[8,16,32,64,128]
theorem y22:sizes.all cycB=true:=by decide +kernel
theorem y0p{m:Nat}(hm:m∈sizes){i j:Nat}(hi:i < m)(hj:j < m):∃k,k < m∧lcgN m k i=j:=by
 have h:=List.all_eq_true.mp y22 m hm
 unfold cycB at h
 rw[Qi]at h
 obtain⟨h1,h2⟩:=h
 have h2':lcgN m m 0=0:=by simpa using h2
 have at0:∀x,x < m→∃a,a < m∧lcgN m a 0=x:=fun x hx=>by
  have:=List.all_eq_true.mp h1 x (List.mem_range.mpr hx)
  exact Ypb (by simpa using this)
 obtain⟨a,ha,rfl⟩:=at0 i hi
 obtain⟨b,hb,rfl⟩:=at0 j hj
 by_cases hab:a≤b
 ·refine⟨b - a,by lia,?_⟩
  rw[←Yjr,Nat.add_sub_cancel' hab]
 ·refine⟨m - a+b,by lia,?_⟩
  rw[←Yjr,show a+(m - a+b)=m+b by lia,Yjr,h2']
section
variable {mask:Nat} {owner:Array (Option Nat)}
theorem Ypc(fuel i p:Nat):(∃j,SetTable.layClean.free mask owner (fuel+1) i p=some j∧owner.getD j (some 0)=none)∨
 (owner.getD i (some 0)≠none∧SetTable.layClean.free mask owner (fuel+1) i p=SetTable.layClean.free mask owner fuel ((i * 5+1+p / 32) % (mask+1)) (p / 32)):=by
 rw[SetTable.layClean.free]
 cases e:(List.range (SetTable.runEnd mask i+1 - i)).find? (fun k=>(owner.getD (i+k) (some 0)).isNone)with
 | some k=>
   left
   have:=List.find?_some e
   exact⟨i+k,rfl,by simpa using this⟩
 | none=>
   right
   refine⟨fun z=>?_,rfl⟩
   have:=List.find?_eq_none.mp e 0 (List.mem_range.mpr (by unfold SetTable.runEnd;split<;>lia))
   simp[z]at this
theorem Ypd:∀(k fuel i:Nat),k < fuel→owner.getD (lcgN (mask+1) k i) (some 0)=none→∃j,SetTable.layClean.free mask owner fuel i 0=some j∧owner.getD j (some 0)=none
 | k,0,_,h,_=>absurd h (Nat.not_lt_zero _)
 | k,fuel+1,i,h,hf=>by
   rcases Ypc (mask:=mask) (owner:=owner) fuel i 0 with h1 | ⟨h1,h2⟩
   ·exact h1
   ·cases k with
    | zero=>exact absurd hf h1
    | succ k=>
      rw[h2]
      exact Ypd k fuel _ (by lia) hf
end
theorem Yhd{α β:Type}{f g:α→Option β}:∀{l:List α},(∀x∈l,f x=g x)→l.filterMap f=l.filterMap g
 | [],_=>rfl
 | x::l,h=>by
   have ih:=Yhd (l:=l) fun y hy=>h y (qf _ hy)
   have hx:=h x qg
   cases e:g x with
   | none=>rw[List.filterMap_cons_none (hx.trans e),List.filterMap_cons_none e,ih]
   | some v=>rw[List.filterMap_cons_some (hx.trans e),List.filterMap_cons_some e,ih]
theorem y0q{k j:Nat}{f g:Nat→Option Nat}(hf:f j=none)(hg:g j=some k):∀{l:List Nat},l.Nodup→j∈l→(∀x∈l,x≠j→g x=f x)→(l.filterMap g).Perm (k::l.filterMap f)
 | [],_,hj,_=>(nomatch hj)
 | x::l,hn,hj,he=>by
   obtain⟨hx,hn⟩:=List.nodup_cons.mp hn
   by_cases e:x=j
   ·subst e
    have:l.filterMap g=l.filterMap f:=Yhd fun y hy=>he y (qf _ hy) fun z=>hx (z ▸ hy)
    rw[List.filterMap_cons_some hg,List.filterMap_cons_none hf,this]
   ·have hj':j∈l:=by
     rcases qr hj with z | z
     ·exact absurd z.symm e
     ·exact z
    have ih:=y0q hf hg hn hj' fun y hy=>he y (qf _ hy)
    have hxe:=he x qg e
    cases h:f x with
    | none=>rw[List.filterMap_cons_none (hxe.trans h),List.filterMap_cons_none h];exact ih
    | some v=>
      rw[List.filterMap_cons_some (hxe.trans h),List.filterMap_cons_some h]
      exact(ih.cons v).trans (.swap _ _ _)
theorem Yhe{α:Type}(xs:Array α)(p:Nat)(x:α):(SetTable.insertAt xs p x).size=xs.size+1:=by
 rw[←qi,Yae,qy,qq,List.length_take,List.length_drop]
 simp
 lia
section
variable {prog:Program} {w:World} {A:Around} {E:Value→Shared→Prop} {s:Shared}
theorem Yza{es:Array (Int × Value)}{o:Array Nat}(hp:o.toList.Perm (List.range es.size)):(o.filterMap (es[·]?)).toList.Perm es.toList:=by
 have h1:(o.filterMap (es[·]?)).toList=o.toList.filterMap (es.toList[·]?):=by simp
 rw[h1]
 have h2:(List.range es.size).filterMap (es.toList[·]?)=es.toList:=by
  have:∀l:List (Int × Value),(List.range l.length).filterMap (l[·]?)=l:=fun l=>by
   rw[Yhd (g:=fun i=>some (l.getD i (0,.none))) fun i hi=>?_]
   ·show List.filterMap (some ∘ fun i=>l.getD i (0,.none)) _=_
    rw[List.filterMap_eq_map]
    refine List.ext_getElem (by simp) fun i h1 h2=>?_
    simp[h2]
   ·have:=Qa hi
    simp[this]
  have:=this es.toList
  rwa [qi]at this
 have:=hp.filterMap (es.toList[·]?)
 rwa [h2]at this
end
end
section
end
section
set_option maxRecDepth 100000
theorem Ys0{t:SetTable}(hp:t.place=#[])(hd:t.dummies=#[])(j:Nat):t.slot j=.empty:=by
 unfold SetTable.slot SetTable.has
 rw[hp,hd]
 rfl
theorem Yv9(j0 j:Nat):SetTable.below #[j0] j=if j0 < j then 1 else 0:=by
 show SetTable.below.go #[j0] j 1 0 1=_
 rw[SetTable.below.go,if_pos (by decide)]
 show(if #[j0].getD 0 j < j then SetTable.below.go #[j0] j 0 1 1 else SetTable.below.go #[j0] j 0 0 0)=_
 rw[SetTable.below.go,SetTable.below.go]
 rfl
theorem Yhf{t:SetTable}{j0:Nat}(hp:t.place=#[j0])(hd:t.dummies=#[])(j:Nat):t.slot j=if j=j0 then .live 0 else .empty:=by
 unfold SetTable.slot SetTable.has
 dsimp only
 rw[hp,hd,Yv9]
 by_cases h:j0 < j
 ·have h1:¬j=j0:=by lia
  simp[h,h1]
 ·by_cases h1:j=j0
  ·subst h1
   simp
  ·have h2:¬j0=j:=fun z=>h1 z.symm
   simp[h,h1,h2]
theorem Ype{t:SetTable}(hm:t.mask=7){p:SetTable.Probe}(h0:p.more=0):t.advance p={ p with j:=(p.i * 5+1+p.perturb / 32) % 8,more:=0,i:=(p.i * 5+1+p.perturb / 32) % 8,perturb:=p.perturb / 32 }:=by
 unfold SetTable.advance
 rw[if_neg (by lia),hm]
 show({ p with j:=(p.i * 5+1+p.perturb / 32) % 8,more:=SetTable.runEnd 7 ((p.i * 5+1+p.perturb / 32) % 8) - (p.i * 5+1+p.perturb / 32) % 8,i:=(p.i * 5+1+p.perturb / 32) % 8,perturb:=p.perturb / 32 }:SetTable.Probe)=_
 have:SetTable.runEnd 7 ((p.i * 5+1+p.perturb / 32) % 8) - (p.i * 5+1+p.perturb / 32) % 8=0:=by
  unfold SetTable.runEnd
  split<;>lia
 rw[this]
theorem y0r{t:SetTable}{j0:Nat}{hA:Nat→Int}{h:Int}(hm:t.mask=7)(hp:t.place=#[j0])(hd:t.dummies=#[])(hj:j0 < 8)(hne:(hA 0==h)=false):∀(k fuel:Nat) (p:SetTable.Probe),p.perturb < 32 ^ k→k+2≤fuel→p.more=0→p.i=p.j→p.dummy=none→p.j < 8→
 ∃j,SetTable.probe.go t hA h fuel p=some (.empty j none)∧j≠j0∧j < 8
 | 0,fuel+2,p,h1,_,h3,h4,h5,h6=>by
   have hz:p.perturb=0:=by simp at h1;lia
   rw[SetTable.probe.go,Yhf hp hd]
   by_cases e:p.j=j0
   ·rw[if_pos e]
    dsimp only
    rw[hne,if_neg qh,SetTable.probe.go,Yhf hp hd,Ype hm h3]
    dsimp only
    have hn:(p.i * 5+1+p.perturb / 32) % 8≠j0:=by rw[h4,e,hz];lia
    rw[if_neg hn]
    exact⟨_,by rw[h5],hn,by lia⟩
   ·rw[if_neg e]
    exact⟨_,by rw[h5],e,h6⟩
 | k+1,fuel+1,p,h1,h2,h3,h4,h5,h6=>by
   rw[SetTable.probe.go,Yhf hp hd]
   by_cases e:p.j=j0
   ·rw[if_pos e]
    dsimp only
    rw[hne,if_neg qh,Ype hm h3]
    refine y0r hm hp hd hj hne k fuel _ ?_ (by lia) rfl rfl h5 (by show _ % 8 < 8;lia)
    show p.perturb / 32 < 32 ^ k
    rw[Nat.div_lt_iff_lt_mul (by decide),←Nat.pow_succ]
    exact h1
   ·rw[if_neg e]
    exact⟨_,by rw[h5],e,h6⟩
 | 0,0,_,_,h,_,_,_,_=>by lia
 | 0,1,_,_,h,_,_,_,_=>by lia
 | _+1,0,_,_,h,_,_,_,_=>by lia
theorem Ygi{t:SetTable}(hm:t.mask=7)(h:Int):t.probeStart h={ j:=SetTable.bits h % 8,more:=0,i:=SetTable.bits h % 8,perturb:=SetTable.bits h,dummy:=none }:=by
 unfold SetTable.probeStart
 rw[hm]
 have:SetTable.runEnd 7 (SetTable.bits h % (7+1)) - SetTable.bits h % (7+1)=0:=by
  unfold SetTable.runEnd
  split<;>lia
 dsimp only
 rw[this]
theorem Ywa{t:SetTable}(hm:t.mask=7)(hp:t.place=#[])(hd:t.dummies=#[])(hA:Nat→Int)(h:Int):t.probe hA h (t.probeStart h)=some (.empty (SetTable.bits h % 8) none):=by
 unfold SetTable.probe
 rw[hm,Ygi hm]
 show SetTable.probe.go t hA h (219+1) _=_
 rw[SetTable.probe.go,Ys0 hp hd]
theorem Ywb{t:SetTable}{j0:Nat}(hm:t.mask=7)(hp:t.place=#[j0])(hd:t.dummies=#[])(hj:j0 < 8){hA:Nat→Int}{h:Int}(hne:(hA 0==h)=false):∃j,t.probe hA h (t.probeStart h)=some (.empty j none)∧j≠j0∧j < 8:=by
 unfold SetTable.probe
 rw[hm,Ygi hm]
 refine y0r hm hp hd hj hne 13 _ _ ?_ (by decide) rfl rfl rfl (by show _ % 8 < 8;lia)
 show SetTable.bits h < 32 ^ 13
 unfold SetTable.bits
 have:h % (2 ^ 64:Int) < 2 ^ 64:=Int.emod_lt_of_pos _ (by decide)
 have h2:0≤h % (2 ^ 64:Int):=Int.emod_nonneg _ (by decide)
 have:(h % (2 ^ 64:Int)).toNat < 2 ^ 64:=by lia
 exact Qd this (by decide)
section
variable {prog:Program} {w:World} {A:Around} {E:Value→Shared→Prop} {s:Shared}
theorem Yzb{u:Addr}{o:Obj}{i:Int}{tk:Tok}{b:Bool}{n:Nat}{Q:Bool→Shared→Prop}(ho:s.heap.get? u=some o)(hc:o.cls=.type "tuple")(hd:o.data=.seq #[.int i tk,.bool b] n)(h:Q true s):wpAny (model prog w) A (hashByValue 8 (.ref u)) Q E s:=by
 have hT:s.TypeIs (.ref u) "tuple":=⟨o,ho,hc⟩
 unfold hashByValue
 refine wpAny_bind (wpAny_specialOf hT F.slot_tuple_hash.lookup ?_)
 dsimp only
 refine wpAny_bind (wpAny_seqItems ho hd ?_)
 show wpAny _ _ (forIn #[Value.int i tk,Value.bool b] _ _ >>= _) _ _ _
 simp[hashByValue]
 exact wpAny_pure h
noncomputable def hAt(es:Array (Int × Value))(i:Nat):Int:=(es[i]?.map (·.1)).getD 0
theorem Ywc{S:Addr}{x:Value}{h:Int}{o:Obj}{es:Array (Int × Value)}{ep:Nat}{t:SetTable}{j:Nat}{Q:SetFound→Shared→Prop}(hS:s.heap.get? S=some o)(hd:o.data=.set es ep t)(hf:t.fits es.size=true)(hm:t.mask=7)
 (hpr:t.probe (hAt es) h (t.probeStart h)=some (.empty j none)) (hQ:Q (.free j false) s):wpAny (model prog w) A (setSearch S x h true) Q E s:=by
 show wpAny _ _ (setState S >>= _) _ _ _
 refine wpAny_bind (wpAny_setState_of hS hd hf ?_)
 dsimp only
 have hg:t.gaveWay=false:=by unfold SetTable.gaveWay;rw[hm];rfl
 rw[hg,if_neg qh]
 refine wpAny_bind (wpAny_pure ?_)
 have hpr':t.probe (fun i=>(es[i]?.map (·.1)).getD 0) h (t.probeStart h)=some (.empty j none):=hpr
 show wpAny _ _ (match t.probe (fun i=>(es[i]?.map (·.1)).getD 0) h (t.probeStart h)with | some met=>_ | _=>_) _ _ _
 rw[hpr']
 exact wpAny_pure hQ
theorem y6f{S u:Addr}{h:Int}{o:Obj}{es:Array (Int × Value)}{ep:Nat}{t:SetTable}{j:Nat}{ou:Obj}{i:Int}{tk:Tok}{b:Bool}{n:Nat}{Q:Bool→Shared→Prop}(hS:s.heap.get? S=some o)(hd:o.data=.set es ep t)(hf:t.fits es.size=true)(hm:t.mask=7)(hdm:t.dummies=#[])(hsz:es.size≤1)
 (hpr:t.probe (hAt es) h (t.probeStart h)=some (.empty j none)) (ho:s.heap.get? u=some ou) (hc:ou.cls=.type "tuple") (hud:ou.data=.seq #[.int i tk,.bool b] n)
 (hQ:Q true { s with heap:=s.heap.update S (Obj.putSet (SetTable.insertAt es (SetTable.below t.place j) (h,.ref u)) { t with place:=SetTable.insertAt t.place (SetTable.below t.place j) j }) }) :
 wpAny (model prog w) A (setAddHashed S (.ref u) h) Q E s:=by
 unfold setAddHashed setAddHashedIn
 refine wpAny_holding (wpAny_bind (wpAny_setState_of hS hd hf ?_))
 dsimp only
 have hby:byScan (.ref u) es=false:=rfl
 rw[hby,if_neg qh]
 refine wpAny_bind (Ywc hS hd hf hm hpr ?_)
 dsimp only
 refine wpAny_bind (wpAny_setState_of hS hd hf ?_)
 dsimp only
 have hput:t.put j=({ t with place:=SetTable.insertAt t.place (SetTable.below t.place j) j },SetTable.below t.place j):=by
  unfold SetTable.put
  dsimp only
  rw[hdm]
  have:SetTable.has #[] j=false:=rfl
  rw[this,if_neg qh]
 rw[hput]
 dsimp only
 have hfull:({ t with place:=SetTable.insertAt t.place (SetTable.below t.place j) j }:SetTable).tooFull=false:=by
  have h1:t.place.size=es.size:=by
   simp only[SetTable.fits,Qi,beq_iff_eq]at hf
   exact hf.1
  have h2:(SetTable.insertAt t.place (SetTable.below t.place j) j).size≤2:=by
   rw[←qi,Yae]
   simp
   lia
  unfold SetTable.tooFull SetTable.fill
  rw[hm,hdm]
  simp
  lia
 have hsz':(SetTable.insertAt es (SetTable.below t.place j) (h,Value.ref u)).size≤sizeLine:=by
  rw[←qi,Yae,sizeLine_eq]
  simp
  lia
 cases hpl:t.plain with
 | true=>
   rw[if_pos rfl]
   refine wpAny_bind (Yzb ho hc hud ?_)
   rw[if_pos rfl]
   refine wpAny_bind (wpAny_storeSet_of hS hd ?_ hsz')
   rw[hpl]at hfull hQ
   rw[hfull]
   exact wpAny_pure hQ
 | false=>
   rw[if_neg qh]
   refine wpAny_bind (wpAny_pure ?_)
   rw[if_pos rfl]
   refine wpAny_bind (wpAny_storeSet_of hS hd ?_ hsz')
   rw[hpl]at hfull hQ
   rw[hfull]
   exact wpAny_pure hQ
def PairV(h:Heap)(u:Addr)(p:Int × Bool):Prop:=∃o tk n,h.get? u=some o∧o.cls=.type "tuple"∧o.data=.seq #[.int p.1 tk,.bool p.2] n
noncomputable def pH(p:Int × Bool):Int:=y2a [p.1,if p.2 then 1 else 0]
theorem PairV.keep{h h':Heap}{u:Addr}{p:Int × Bool}(x:PairV h u p)(k:∀o,h.get? u=some o→h'.get? u=some o):PairV h' u p:=by
 obtain⟨o,tk,n,h1,r⟩:=x
 exact⟨o,tk,n,k o h1,r⟩
theorem PairV.key{h:Heap}{u:Addr}{p:Int × Bool}(x:PairV h u p):IsTupleKey (Ybp prog w) h [p.1,if p.2 then 1 else 0] u:=by
 obtain⟨o,tk,n,h1,h2,h3⟩:=x
 refine⟨o,_,n,h1,h2,h3,?_⟩
 exact .cons (by simp[Ybp,Ykm]) (.cons (by simp[Ybp,Ykm]) .nil)
theorem Yre{l I S u:Addr}{items:Array Value}{i:Nat}{p:Int × Bool}{R:Result→Shared→Prop}(hu:A.units+2 < cLine)(hit:s.heap.IsListIter I l i)(hl:s.heap.IsList l items)(hx:items[i]?=some (.ref u))(hp:PairV s.heap u p)(hIu:u≠I)
 (k:∀h1 tk,h1.IsListIter I l (i+1)→Heap.SameBut I s.heap h1→wpAny (model prog w) A.in1 (setAddHashed S (.ref u) (pH p)) (fun _ s'=>codeAny (model prog w) A (.builtin "set.update.loop" ⟨[.ref S,.ref I],[]⟩) R s') (fun e s'=>R (.error e) s') { s with heap:=h1,toks:=tk }) :
 codeAny (model prog w) A (.builtin "set.update.loop" ⟨[.ref S,.ref I],[]⟩) R s:=by
 refine codeAny_builtin F.entry_set_update_loop ?_
 rw[Around.under_plainId F.plain_set_update_loop _]
 show wpAny _ A.in1 (pyNext (.ref I) >>= _) _ _ s
 refine wpAny_bind (wpAny_pyNext_list_item hit hl hx fun h1 hi1 hs1=>?_)
 show wpAny _ A.in1 (holding [Value.ref u] (setAdd S (.ref u)) >>= _) _ _ _
 refine wpAny_bind (wpAny_holding ?_)
 unfold setAdd
 have hp1:PairV h1 u p:=hp.keep fun o e=>by rw[hs1.2 u hIu];exact e
 refine wpAny_holding (wpAny_bind (wpAny_pyHash_tuple (knd:=Ybp prog w) (s:={ s with heap:=h1 }) (by show A.units+1 < cLine;lia) hp1.key ?_))
 refine wpAny_mono (k h1 _ hi1 hs1) (fun b s' hb=>?_) fun _ _ x=>x
 exact wpAny_pure ⟨plainId_quiet F.plain_set_update_loop _,hb⟩
theorem Ypf{l I S:Addr}{items:Array Value}{i:Nat}{R:Result→Shared→Prop}(hh:A.handled=none)(hit:s.heap.IsListIter I l i)(hl:s.heap.IsList l items)(hx:items[i]?=none)
 (k:∀h1,Heap.ExtBut I s.heap h1→R (.ok (.ret .none)) { s with heap:=h1 }) :
 codeAny (model prog w) A (.builtin "set.update.loop" ⟨[.ref S,.ref I],[]⟩) R s:=by
 refine codeAny_builtin F.entry_set_update_loop ?_
 rw[Around.under_plainId F.plain_set_update_loop _]
 show wpAny _ A.in1 (pyNext (.ref I) >>= _) _ _ s
 refine wpAny_bind (wpAny_pyNext_list_end (A:=A.in1) hh hit hl hx fun h1 hs1=>?_)
 show wpAny _ A.in1 (ret Value.none) _ _ _
 exact wpAny_pure (k h1 hs1)
def SetN(w:World)(h:Heap)(a:Addr)(n:Nat):Prop:=∃o es ep t,h.get? a=some o∧o.ExactSet∧o.data=.set es ep t∧es.size=n∧t.fits es.size=true
end
end
section
set_option maxRecDepth 100000
noncomputable def vOf(e:Int × Value):Value:=e.2
def SetV(w:World)(h:Heap)(a:Addr)(vs:List Value):Prop:=
 ∃o es ep t,h.get? a=some o∧o.ExactSet∧o.data=.set es ep t∧es.toList.map vOf=vs∧es.size < scanBound∧t.fits es.size=true∧Tab (byT w) t
theorem SetV.at{w:World}{h h':Heap}{a:Addr}{ns:List Value}(x:SetV w h a ns)(e:∀o,h.get? a=some o→h'.get? a=some o):SetV w h' a ns:=
 let ⟨o,es,ep,t,ho,r⟩:=x
 ⟨o,es,ep,t,e o ho,r⟩
theorem SetV.len{w:World}{h:Heap}{a:Addr}{ns:List Value}(x:SetV w h a ns):ns.length < scanBound:=by
 obtain⟨o,es,ep,t,ho,hex,hd,hns,hb,_⟩:=x
 rw[←hns,qe,qi]
 exact hb
def PVal(vals:List Value)(i:Nat)(v:Value):Prop:=vals[i]?=some v
section
variable {prog:Program} {w:World} {A:Around} {E:Value→Shared→Prop} {s:Shared}
theorem Ywd{a:Addr}{ns:List Value}(hS:SetV w s.heap a ns){Q:Value→Shared→Prop}
 (hQ:∀(h':Heap) (d':Drawn) (I:Addr) (fp:List Addr) (vals:List Value) (St:Nat→Heap→Prop),(∀b o,s.heap.get? b=some o→h'.get? b=some o)→s.heap.objs.size≤I→I∈fp→
  (∀b∈fp,b < h'.objs.size∧(b=a∨s.heap.objs.size≤b))→vals.Perm ns→(∀A':Around,A'.handled=none→Walks prog w A' I fp [I] ns.length (PVal vals) St)→St 0 h'→
  (∀(i:Nat) (s':Shared),St i s'.heap→s'.TypeIs (.ref I) "set_iterator")→Q (.ref I) { s with heap:=h',drawn:=d' }) :
 wpAny (model prog w) A (pyIter (.ref a)) Q E s:=by
 obtain⟨o,es,ep,t,ho,hex,hd,hns,hb,hf,ht⟩:=hS
 have hT:s.TypeIs (.ref a) "set":=⟨o,ho,hex.1⟩
 have hlen:ns.length=es.size:=by rw[←hns,qe,qi]
 have hlt:a < s.heap.objs.size:=qk ho
 have hsa:SAt s.heap a es ep t:=⟨o,ho,hex,hd,hf⟩
 have hps:t.place.size=es.size:=by
  simp only[SetTable.fits,Qi,beq_iff_eq]at hf
  exact hf.1
 refine wpAny_pyIter_slot hT F.slot_set_iter (wpAny_call_entry F.slot_set_iter hT Ylp ?_ (F.args_set_iter_1 _))
 unfold Builtin.«frozenset.__iter__»
 show wpAny _ _ (Builtin.Frozenset.sizeOf a >>= _) _ _ s
 unfold Builtin.Frozenset.sizeOf
 refine wpAny_bind (wpAny_bind (wpAny_setEntries_of ho hd hf (wpAny_pure ?_)))
 refine wpAny_bind ?_
 unfold setDrawn
 refine wpAny_bind (wpAny_setState_of ho hd hf ?_)
 dsimp only
 refine wpAny_bind (Yg5 (wpAny_pure ?_))
 have plain:∀(vals:List Value) (st:Nat→Nat) (xv:Nat→Value),vals.Perm ns→st 0=0→(∀i,i < es.size→PVal vals i (xv i))→
  (∀(s':Shared) (A':Around) (i:Nat) (E':Value→Shared→Prop),SAt s'.heap a es ep t→i < es.size→∀Q':Option (Value × Nat)→Shared→Prop,Q' (some (xv i,st (i+1))) s'→wpAny (model prog w) A' (setNext a (st i) i ep) Q' E' s')→
  (∀(s':Shared) (A':Around) (E':Value→Shared→Prop),SAt s'.heap a es ep t→∀Q':Option (Value × Nat)→Shared→Prop,Q' none s'→wpAny (model prog w) A' (setNext a (st es.size) es.size ep) Q' E' s')→
  wpAny (model prog w) A.in1 (do
   let x ←newFields "set_iterator" [rawInt 0,rawInt 0,.ref a,rawInt es.size,rawInt (←setEpoch a)]
   ret x) (fun fin s'=>∃v,fin=.done (.ret v)∧∃T' r,s'.TypeIs v T'∧typeLookup (.type T') "__next__"=pure (some r)∧Q v s') E s:=by
  intro vals st xv hp h0 hx hi hn
  refine wpAny_bind (wpAny_setEpoch_of ho hd hf ?_)
  refine wpAny_bind (wpAny_newObj_type ?_)
  refine wpAny_pure ⟨_,rfl,"set_iterator",_,⟨_,qo _ rfl,rfl⟩,slot_si_next.lookup,?_⟩
  have key:=hQ (s.heap.push { cls:=.type "set_iterator",data:=.fields #[rawInt 0,rawInt 0,.ref a,rawInt es.size,rawInt ep] }) s.drawn s.heap.objs.size [s.heap.objs.size,a] vals
   (fun i h=>SIt h s.heap.objs.size (.int (st i) 0) i a es.size ep∧SAt h a es ep t) (fun b o e=>qd _ e) (qt _) (by simp) (fun b hb=>by
    rw[Heap.size_push]
    rcases qr hb with rfl | hb
    ·exact⟨qz _,.inr (qt _)⟩
    ·rw[List.mem_singleton]at hb
     subst hb
     exact⟨qv hlt,.inl rfl⟩) hp (fun A' hA'=>{
    sub:=fun b hb=>by simp at hb;simp[hb]
    frame:=fun i h h' st' hk=>⟨st'.1.at fun o e=>hk _ (by simp) o e,st'.2.at fun o e=>hk a (by simp) o e⟩
    item:=fun i s' Q' E' hlt' st' hQ'=>by
     refine y17 st'.1 st'.2 (x:=xv i) (nx:=st (i+1)) (fun A2 Q2 E2 hq=>hi s' A2 i E2 st'.2 (by lia) Q2 hq) fun h' hit' hs'=>?_
     exact hQ' _ h' s'.toks (hx i (by lia)) ⟨hit',st'.2.at fun o e=>hs'.extBut a o (fun z=>by subst z;exact absurd hlt (Qf _)) e⟩ fun b o hb e=>hs'.extBut b o (fun z=>hb (by simp[z])) e
    done:=fun s' Q' E' st' hQ'=>by
     rw[hlen]at st'
     exact y18 hA' st'.1 st'.2 (fun A2 Q2 E2 hq=>hn s' A2 E2 st'.2 Q2 hq) fun h' he'=>hQ' h' s'.toks fun b o hb e=>he' b o (fun z=>hb (by simp[z])) e
    self:=fun i s' Q' E' st' hQ'=>Yvh st'.1 hQ' }) ⟨⟨_,qo _ rfl,rfl,by rw[h0];rfl⟩,hsa.at fun o e=>qd _ e⟩ (fun i s' st'=>st'.1.typeIs)
  exact key
 have hdr:∀b:Bool,(!t.plain&&decide (es.size > 1))=b→wpAny (model prog w) A.in1 (if (!byT w&&b)=true then do
  let first ←newTuple ((←drawOrder es.size (List.range es.size)).map fun(i:Nat)=>rawInt i)
  let x ←newFields "set_iterator" [first,rawInt 0,.ref a,rawInt es.size,rawInt (←setEpoch a)]
  ret x
  else do
   let x ←newFields "set_iterator" [rawInt 0,rawInt 0,.ref a,rawInt es.size,rawInt (←setEpoch a)]
   ret x) (fun fin s'=>∃v,fin=.done (.ret v)∧∃T' r,s'.TypeIs v T'∧typeLookup (.type T') "__next__"=pure (some r)∧Q v s') E s:=by
  intro b hbd
  cases hbt:byT w with
  | true=>
    rw[if_neg (by simp)]
    generalize hor:pickOrder (w.params.setOrder a ep) es=ord
    have hpm:ord.toList.Perm es.toList:=by rw[←hor];exact Yvg _ _
    have hos:ord.size=es.size:=by
     have:=hpm.length_eq
     simpa using this
    refine plain (ord.toList.map vOf) (fun _=>0) (fun i=>(ord.getD i (0,.none)).2) (by rw[←hns];exact hpm.map vOf) rfl (fun i hi=>?_) (fun s' A' i E' ha hi Q' hq=>?_) (fun s' A' E' ha Q' hq=>?_)
    ·have hi':i < ord.size:=by lia
     show(ord.toList.map vOf)[i]?=some _
     simp[hi',vOf,Array.getD]
    ·have hi':i < ord.size:=by lia
     refine Yo0 hbt ha ?_
     rw[hor,Array.getElem?_eq_getElem hi']
     simp only[Array.getD,hi',dite_true]at hq
     exact hq
    ·refine Yo0 hbt ha ?_
     rw[hor,Array.getElem?_eq_none (by lia)]
     exact hq
  | false=>
    have hled:=ht.1 hbt
    cases b with
    | false=>
      rw[if_neg (by simp)]
      have hrise:Rise t.place:=by
       cases hpl:t.plain with
       | true=>exact ht.2 hpl
       | false=>
         rw[hpl]at hbd
         have h1:t.place.toList.length≤1:=by
          simp at hbd
          rw[qi]
          lia
         unfold Rise
         match t.place.toList,h1 with
         | [],_=>exact .nil
         | [x],_=>simp
      refine plain ns (Yf8 t.place) (fun i=>(es.getD i (0,.none)).2) .rfl rfl (fun i hi=>?_) (fun s' A' i E' ha hi Q' hq=>?_) (fun s' A' E' ha Q' hq=>?_)
      ·show ns[i]?=some _
       rw[←hns]
       simp[hi,vOf,Array.getD]
      ·refine Yo1 hbt hbd hled ha (Ysv hrise (by lia)) ?_
       have hi2:i < t.place.size:=by lia
       rw[Array.getElem?_eq_getElem hi,Array.getElem?_eq_getElem hi2]
       simp only[Array.getD,hi,hi2,dite_true,Yf8]at hq
       exact hq
      ·refine Yo1 hbt hbd hled ha (Ysv hrise (by lia)) ?_
       rw[Array.getElem?_eq_none (qt _)]
       exact hq
    | true=>
      rw[if_pos (by simp)]
      refine wpAny_bind (Yml es.size (List.range es.size) s _ (by simp) fun ys d' hp=>?_)
      simp only[newTuple]
      have hyl:ys.length=es.size:=by rw[hp.length_eq];simp
      refine wpAny_bind (wpAny_newObj_type ?_ (by show(ys.map fun(i:Nat)=>rawInt i).toArray.size≤sizeLine;rw[qj,qe,hyl];exact fits_of_scanBound hb))
      have ho1:((s.heap.push { cls:=.type "tuple",data:=.seq (ys.map fun(i:Nat)=>rawInt i).toArray })).get? a=some o:=qd _ ho
      refine wpAny_bind (wpAny_setEpoch_of (s:={ s with heap:=s.heap.push { cls:=.type "tuple",data:=.seq (ys.map fun(i:Nat)=>rawInt i).toArray },drawn:=d' }) ho1 hd hf ?_)
      refine wpAny_bind (wpAny_newObj_type ?_)
      refine wpAny_pure ⟨_,rfl,"set_iterator",_,⟨_,qo _ rfl,rfl⟩,slot_si_next.lookup,?_⟩
      have hmem:∀j∈ys,j < es.size:=fun j hj=>by simpa using hp.mem_iff.mp hj
      have hvp:(ys.map fun j=>vOf (es.getD j (0,.none))).Perm ns:=by
       rw[←hns]
       refine(hp.map _).trans ?_
       have:(List.range es.size).map (fun j=>vOf (es.getD j (0,.none)))=es.toList.map vOf:=by
        refine List.ext_getElem (by simp) fun i h1 h2=>?_
        have hi:i < es.size:=by simpa using h1
        simp[Array.getD,hi]
       rw[this]
      generalize hH:s.heap.push { cls:=.type "tuple",data:=.seq (ys.map fun(i:Nat)=>rawInt i).toArray }=H at ho1 ⊢
      have hHs:H.objs.size=s.heap.objs.size+1:=by rw[←hH,Heap.size_push]
      have hT0:H.IsTuple s.heap.objs.size (ys.map fun(i:Nat)=>rawInt i).toArray:=⟨_,by rw[←hH];exact qo _ rfl,rfl,_,rfl⟩
      have keepH:∀b o,s.heap.get? b=some o→H.get? b=some o:=fun b o e=>by rw[←hH];exact qd _ e
      have haI:a≠H.objs.size:=fun z=>by rw[z,hHs]at hlt;exact absurd hlt (Nat.not_lt.mpr (Nat.le_succ _))
      have hTI:s.heap.objs.size≠H.objs.size:=by rw[hHs];exact ql (qz _)
      exact hQ (H.push { cls:=.type "set_iterator",data:=.fields #[.ref s.heap.objs.size,rawInt 0,.ref a,rawInt es.size,rawInt ep] }) d' H.objs.size [H.objs.size,a,s.heap.objs.size] (ys.map fun j=>vOf (es.getD j (0,.none)))
       (fun i h=>SIt h H.objs.size (.ref s.heap.objs.size) i a es.size ep∧SAt h a es ep t∧h.IsTuple s.heap.objs.size (ys.map fun(i:Nat)=>rawInt i).toArray) (fun b o e=>qd _ (keepH b o e)) (by lia) (by simp) (fun b hb=>by
        rw[Heap.size_push]
        simp only[List.mem_cons,List.not_mem_nil,or_false]at hb
        rcases hb with rfl | rfl | rfl
        ·exact⟨qz _,.inr (by rw[hHs];exact Nat.le_succ _)⟩
        ·exact⟨qv (by rw[hHs];exact qv hlt),.inl rfl⟩
        ·exact⟨qv (by rw[hHs];exact qz _),.inr (qt _)⟩) hvp (fun A' hA'=>{
        sub:=fun b hb=>by simp at hb;simp[hb]
        frame:=fun i h h' st' hk=>⟨st'.1.at fun o e=>hk _ (by simp) o e,st'.2.1.at fun o e=>hk a (by simp) o e,st'.2.2.at fun o e=>hk _ (by simp) o e⟩
        item:=fun i s' Q' E' hlt' st' hQ'=>by
         have hi:i < ys.length:=by lia
         have hj:=hmem ys[i] (qx hi)
         refine Yys st'.1 st'.2.1 st'.2.2 (j:=ys[i]) (tk:=0) (e:=es[ys[i]]) (by simp[hi,rawInt]) (Array.getElem?_eq_getElem hj) fun h' hit' hs'=>?_
         refine hQ' _ h' s'.toks ?_ ⟨hit',st'.2.1.at fun o e=>hs'.extBut a o haI e,st'.2.2.at fun o e=>hs'.extBut _ o hTI e⟩ fun b o hb e=>hs'.extBut b o (fun z=>hb (by simp[z])) e
         show(ys.map fun j=>vOf (es.getD j (0,.none)))[i]?=some es[ys[i]].2
         simp[hi,Array.getD,hj,vOf]
        done:=fun s' Q' E' st' hQ'=>by
         rw[hlen]at st'
         exact Yyt hA' st'.1 st'.2.1 st'.2.2 (by simp[hyl]) fun h' he'=>hQ' h' s'.toks fun b o hb e=>he' b o (fun z=>hb (by simp[z])) e
        self:=fun i s' Q' E' st' hQ'=>Yvh st'.1 hQ' }) ⟨⟨_,qo _ rfl,rfl,rfl⟩,⟨o,qd _ ho1,hex,hd,hf⟩,hT0.push _⟩ (fun i s' st'=>st'.1.typeIs)
 exact hdr _ rfl
theorem Yi2{a:Addr}{ns:List Value}(hh:A.handled=none)(hS:SetV w s.heap a ns){Q:List Value→Shared→Prop}
 (hQ:∀(h':Heap) (d':Drawn) (tk:Nat) (acc:List Value),s.heap.objs.size≤h'.objs.size→(∀b o,s.heap.get? b=some o→h'.get? b=some o)→acc.Perm ns→Q acc { s with heap:=h',drawn:=d',toks:=tk }) :
 wpAny (model prog w) A (collect (.ref a)) Q E s:=by
 obtain⟨o,es,ep,t,ho,hex,hd,_⟩:=id hS
 have hlt:a < s.heap.objs.size:=qk ho
 have hlen:=hS.len
 unfold collect
 refine wpAny_bind (wpAny_runValue (codeAny_builtin F.entry_proto_collect ?_))
 rw[Around.under_plainId F.plain_proto_collect _]
 show wpAny _ A.in1 (newList [] >>= fun l=>again (.builtin "list.__iadd__" ⟨[l,.ref a],[]⟩)) _ _ s
 refine wpAny_bind (wpAny_newObj_type ?_)
 refine wpAny_pure ⟨plainId_quiet F.plain_list_iadd _,codeAny_builtin F.entry_list_iadd ?_⟩
 rw[Around.under_plainId F.plain_list_iadd _]
 generalize hH:s.heap.push { cls:=.type "list",data:=.seq ([]:List Value).toArray }=H
 have hHs:H.objs.size=s.heap.objs.size+1:=by rw[←hH,Heap.size_push]
 have keepH:∀b o,s.heap.get? b=some o→H.get? b=some o:=fun b o e=>by rw[←hH];exact qd _ e
 have hL:H.get? s.heap.objs.size=some { cls:=.type "list",data:=.seq ([]:List Value).toArray }:=by rw[←hH];exact qo _ rfl
 have hoH:=keepH a o ho
 have hT:Shared.TypeIs { s with heap:=H } (.ref a) "set":=⟨o,hoH,hex.1⟩
 have hSI:s.heap.objs.size≠a:=fun z=>by rw[←z]at hlt;exact absurd hlt (Qf _)
 have h1:Builtin.List.listSameRef (.ref s.heap.objs.size) (.ref a)=false:=by simp[Builtin.List.listSameRef,hSI]
 show wpAny _ A.in1 (Builtin.List.listExtendWith (.ref s.heap.objs.size) (.ref a) (.ref s.heap.objs.size)) _ _ _
 unfold Builtin.List.listExtendWith
 refine wpAny_bind (wpAny_typeOf hT ?_)
 have h2:(Value.type "set"==Value.type "list")=false:=by decide
 have h3:(Value.type "set"==Value.type "tuple")=false:=by decide
 simp only[h1,h2,h3,Bool.or_false,Bool.false_eq_true,if_false]
 refine wpAny_bind (Ywd (s:={ s with heap:=H }) (hS.at fun o e=>keepH a o e) fun h' d' I fp vals St keep hI hIf hfp hp hW hst hty=>?_)
 have ho':=keep a o hoH
 have hT':Shared.TypeIs { s with heap:=h',drawn:=d' } (.ref a) "set":=⟨o,ho',hex.1⟩
 refine wpAny_bind (wpAny_holding ?_)
 unfold Builtin.List.listLengthHint
 refine wpAny_bind (wpAny_specialOf hT' F.slot_set_len.lookup ?_)
 (generalize hid:("set.__len__":String)=id0;(fail_if_success (clear hid id0));wp_delta;rw[show splitId id0=some ("set","__len__") from by subst hid;decide +kernel];subst hid)
 refine wpAny_bind (wpAny_isInstance (b:=true) hT' Yrd ?_)
 show wpAny _ A.in1 (typeOf (Value.ref a) >>= _) _ _ _
 refine wpAny_bind (wpAny_typeOf hT' ?_)
 refine wpAny_pure ?_
 rw[if_pos (by decide)]
 refine wpAny_bind (wpAny_rule ?_)
 have hSf:s.heap.objs.size∉fp:=fun hm=>by
  rcases(hfp _ hm).2 with z | z
  ·exact hSI z
  ·rw[show({ s with heap:=H }:Shared).heap.objs.size=H.objs.size from rfl,hHs]at z
   exact absurd z (Nat.not_le.mpr (qz _))
 have hS₁:h'.get? s.heap.objs.size=some { cls:=.type "list",data:=.seq ([]:List Value).toArray }:=keep _ _ hL
 refine wpAny_bind ?_
 show wpAny _ A.in1 (updateSeq s.heap.objs.size (·.push .none) >>= fun _=>updateSeq s.heap.objs.size (·.pop)) _ _ _
 refine wpAny_bind (wpAny_updateSeq hS₁ rfl ?_)
 have hS₂:=Heap.get?_update_self (Obj.mapSeq (·.push Value.none)) hS₁ rfl
 refine wpAny_updateSeq hS₂ rfl ?_
 have hS₃:=Heap.get?_update_self (Obj.mapSeq (·.pop)) hS₂ rfl
 have oth:∀b o,b≠s.heap.objs.size→h'.get? b=some o→
  ((h'.update s.heap.objs.size (Obj.mapSeq (·.push Value.none))).update s.heap.objs.size (Obj.mapSeq (·.pop))).get? b=some o:=
  fun b o hb e=>(Heap.get?_update_other _ _ (Ne.symm hb)).trans ((Heap.get?_update_other _ _ (Ne.symm hb)).trans e)
 have W:=(hW A.in1 hh).toS
 refine wpAny_pure ⟨plainId_quiet F.plain_extend_loop _,codeAny_extend_loopS W (fits_of_scanBound hlen) _ hSf _ ns.length 0 _ _ _ rfl (Qe _)
  (W.frame 0 ({ s with heap:=h',drawn:=d' }:Shared) _ s.toks hst (qt _) fun b hb o e=>oth b o (fun h=>hSf (h ▸ hb)) e) hS₃ (ItemsOf.nil _) fun s' acc' c' hm hS' hacc=>?_⟩
 show wpAny _ A (load s.heap.objs.size >>= _) _ _ s'
 refine wpAny_bind (wpAny_load hS' ?_)
 have eg:s'.gens=s.gens:=hm.gens
 have ed:s'.drawn=d':=hm.drawn
 have eo:s'.os=s.os:=hm.os
 have es':s'={ s with heap:=s'.heap,drawn:=d',toks:=s'.toks }:=by
  obtain⟨a1,a2,a3,a4,a5⟩:=s'
  simp only at eg ed eo
  subst eg;subst ed;subst eo
  rfl
 rw[es']
 have hav:acc'.toList=vals:=by
  refine List.ext_getElem (by rw[qi,hacc.1,hp.length_eq]) fun j h1 h2=>?_
  have:=hacc.2 j acc'.toList[j] (by rw[←Array.getElem?_toList,qp h1])
  have h3:vals[j]?=some acc'.toList[j]:=this
  rw[qp h2]at h3
  exact(Option.some.inj h3).symm
 refine wpAny_pure (hQ s'.heap d' s'.toks acc'.toList (Nat.le_of_lt (qk hS')) (fun b ob e=>?_) (by rw[hav];exact hp))
 have hb:b < s.heap.objs.size:=qk e
 refine hm.heap b ob (fun hm'=>?_) (oth b ob (ql hb) (keep b ob (keepH b ob e)))
 rcases qr hm' with z | z
 ·rw[z]at hb;exact absurd hb (Qf _)
 ·rw[List.mem_singleton.mp z]at hb
  have:H.objs.size≤I:=hI
  rw[hHs]at this
  exact absurd (Qd hb (Nat.le_trans (Nat.le_succ _) this)) (Qf _)
structure SetQ(w:World)(h:Heap)(a:Addr)(us:List (Int × Addr)):Prop where
 ex:∃o es ep t,h.get? a=some o∧o.ExactSet∧o.data=.set es ep t∧es.toList=us.map (fun u=>(u.1,Value.ref u.2))∧t.fits es.size=true∧t.mask=7∧t.dummies=#[]∧t.place.toList=us.map (fun u=>SetTable.bits u.1 % 8)∧Tab (byT w) t
theorem SetQ.keep{h h':Heap}{a:Addr}{us:List (Int × Addr)}(x:SetQ w h a us)(k:∀o,h.get? a=some o→h'.get? a=some o):SetQ w h' a us:=by
 obtain⟨o,es,ep,t,h1,r⟩:=x.ex
 exact⟨o,es,ep,t,k o h1,r⟩
theorem SetQ.vals{h:Heap}{a:Addr}{us:List (Int × Addr)}(x:SetQ w h a us)(hl:us.length≤1):SetV w h a (us.map fun u=>Value.ref u.2):=by
 obtain⟨o,es,ep,t,h1,h2,h3,h4,h5,h6,h7,h8,h9⟩:=x.ex
 refine⟨o,es,ep,t,h1,h2,h3,?_,?_,h5,h9⟩
 ·rw[h4,List.map_map]
  rfl
 ·rw[←qi,h4,qe]
  have:scanBound=4096:=rfl
  lia
theorem Yer{S u:Addr}{us:List (Int × Addr)}{p:Int × Bool}{Q:Bool→Shared→Prop}(hS:SetQ w s.heap S us)(hl:us.length≤1)(hp:PairV s.heap u p)(hne:∀q∈us,q.1≠pH p)
 (hQ:∀h' vs,Heap.SameBut S s.heap h'→SetV w h' S vs→vs.Perm ((us.map fun u=>Value.ref u.2)++[.ref u])→(us=[]→SetQ w h' S [(pH p,u)])→Q true { s with heap:=h' }):wpAny (model prog w) A (setAddHashed S (.ref u) (pH p)) Q E s:=by
 obtain⟨o,es,ep,t,h1,h2,h3,h4,h5,h6,h7,h8,h9⟩:=hS.ex
 obtain⟨ou,tk,n,u1,u2,u3⟩:=hp
 have hsz:es.size=us.length:=by rw[←qi,h4,qe]
 have hpl:t.place.size=es.size:=by
  simp only[SetTable.fits,Qi,beq_iff_eq]at h5
  exact h5.1
 obtain⟨j,hpr,hj8,hfree,hjz⟩:∃j,t.probe (hAt es) (pH p) (t.probeStart (pH p))=some (.empty j none)∧j < 8∧(∀i,t.slot j≠.live i)∧(us=[]→j=SetTable.bits (pH p) % 8):=by
  generalize pH p=hp at hne ⊢
  rcases us with _ | ⟨q,_ | ⟨q2,r⟩⟩
  ·have hz:t.place=#[]:=Array.size_eq_zero_iff.mp (by rw[hpl,hsz];rfl)
   refine⟨_,Ywa h6 hz h7 _ _,by lia,fun i z=>?_,fun _=>rfl⟩
   rw[Ys0 hz h7]at z
   cases z
  ·have hz:t.place=#[SetTable.bits q.1 % 8]:=by
    apply Array.toList_inj.mp
    rw[h8]
    rfl
   have hes:es=#[(q.1,.ref q.2)]:=by
    apply Array.toList_inj.mp
    rw[h4]
    rfl
   have hq:=hne q qg
   obtain⟨j,k1,k2,k3⟩:=Ywb h6 hz h7 (by lia) (hA:=hAt es) (h:=hp) (by
    rw[hes]
    simpa [hAt]using hq)
   refine⟨j,k1,k3,fun i z=>?_,fun z=>by cases z⟩
   rw[Yhf hz h7,if_neg k2]at z
   cases z
  ·simp at hl
 refine y6f h1 h3 h5 h6 h7 (by lia) hpr u1 u2 u3 ?_
 have hg:=Yj7 h1 h3 (SetTable.insertAt es (SetTable.below t.place j) (pH p,.ref u)) { t with place:=SetTable.insertAt t.place (SetTable.below t.place j) j }
 have e1:(SetTable.insertAt es (SetTable.below t.place j) (pH p,Value.ref u)).size=us.length+1:=by
  rw[←qi,Yae]
  simp
  lia
 have e2:(SetTable.insertAt t.place (SetTable.below t.place j) j).size=us.length+1:=by
  rw[←qi,Yae]
  simp
  lia
 have hfit:({ t with place:=SetTable.insertAt t.place (SetTable.below t.place j) j }:SetTable).fits (us.length+1)=true:=by
  unfold SetTable.fits SetTable.fill
  simp only[e2,h6,h7,Qi,beq_iff_eq,decide_eq_true_eq]
  exact⟨trivial,by simp;lia⟩
 have htab:Tab (byT w) { t with place:=SetTable.insertAt t.place (SetTable.below t.place j) j }:=⟨h9.1,fun z=>Yge (h9.2 z) j (Yj6 hfree)⟩
 have hsb:scanBound=4096:=rfl
 refine hQ _ _ (Heap.SameBut.update ..) ⟨_,_,_,_,hg,⟨h2.1,h2.2.1,h2.2.2⟩,rfl,rfl,by rw[e1];lia,by rw[e1];exact hfit,htab⟩ ?_ fun hz=>?_
 ·have hpm:(es.toList.map vOf).Perm (us.map fun u=>Value.ref u.2):=by
   rw[h4,List.map_map]
   exact .refl _
  have hins:((SetTable.insertAt es (SetTable.below t.place j) (pH p,Value.ref u)).toList).Perm (es.toList++[(pH p,Value.ref u)]):=by
   rw[Yae]
   refine List.perm_middle.trans ?_
   rw[Qk]
   exact List.perm_append_comm (l₁:=[_])
  have:=hins.map vOf
  rw[List.map_append]at this
  exact this.trans (hpm.append_right _)
 ·subst hz
  have hz:t.place=#[]:=Array.size_eq_zero_iff.mp (by rw[hpl,hsz];rfl)
  have hes:es=#[]:=Array.size_eq_zero_iff.mp (by rw[hsz];rfl)
  refine⟨_,_,_,_,hg,⟨h2.1,h2.2.1,h2.2.2⟩,rfl,?_,by rw[e1];exact hfit,h6,h7,?_,htab⟩
  ·rw[Yae,hes]
   simp
  ·show(SetTable.insertAt t.place (SetTable.below t.place j) j).toList=_
   rw[Yae,hz,hjz rfl]
   simp
theorem Ys1{u:Addr}{p:Int × Bool}{Q:Bool→Shared→Prop}(hp:PairV s.heap u p)(h:Q false s):wpAny (model prog w) A (ofAClassStatement 8 (.ref u)) Q E s:=by
 obtain⟨o,tk,n,h1,h2,h3⟩:=hp
 have hT:s.TypeIs (.ref u) "tuple":=⟨o,h1,h2⟩
 unfold ofAClassStatement
 refine wpAny_bind (wpAny_typeOf hT ?_)
 dsimp only
 rw[if_pos (by decide)]
 refine wpAny_bind (wpAny_pure ?_)
 simp only[Bool.not_true,Bool.false_eq_true,if_false]
 refine wpAny_bind (wpAny_seqItems h1 h3 ?_)
 simp[ofAClassStatement]
 exact wpAny_pure h
theorem Ywe{u v:Addr}{p q:Int × Bool}{Q:Bool→Shared→Prop}(hu:PairV s.heap u p)(hv:PairV s.heap v q)(h:Q false s):wpAny (model prog w) A (searchCouldBeSeen (.ref u) [.ref v]) Q E s:=by
 unfold searchCouldBeSeen
 simp[carriedByValue]
 by_cases e:u=v
 ·rw[if_pos e]
  exact wpAny_bind (wpAny_pure (wpAny_bind (wpAny_pure (wpAny_pure h))))
 ·rw[if_neg e]
  refine wpAny_bind (wpAny_bind (wpAny_eqIsQuiet_tuple (knd:=Ybp prog w) hu.key ?_))
  rw[if_neg (by decide)]
  refine wpAny_bind (wpAny_eqIsQuiet_tuple (knd:=Ybp prog w) hv.key ?_)
  rw[if_neg (by decide)]
  refine wpAny_bind (Ys1 hu ?_)
  rw[if_neg (by decide)]
  refine wpAny_bind (Ys1 hv ?_)
  rw[if_neg (by decide)]
  exact wpAny_pure (wpAny_bind (wpAny_pure (wpAny_pure h)))
theorem Yt7{t:SetTable}{h:Int}(hm:t.mask=7)(hp:t.place=#[SetTable.bits h % 8])(hd:t.dummies=#[]){hA:Nat→Int}(he:hA 0=h):∃nx,t.probe hA h (t.probeStart h)=some (.candidate (SetTable.bits h % 8) 0 nx):=by
 unfold SetTable.probe
 rw[hm,Ygi hm]
 show ∃nx,SetTable.probe.go t hA h (219+1) _=_
 rw[SetTable.probe.go,Yhf hp hd,if_pos rfl]
 dsimp only
 rw[he,if_pos (by simp)]
 exact⟨_,rfl⟩
theorem Yrf{S u v:Addr}{p:Int × Bool}{h:Int}{o:Obj}{es:Array (Int × Value)}{ep:Nat}{t:SetTable}{nx:SetTable.Probe}{j:Nat}{Q:SetFound→Shared→Prop}(fuel:Nat)(hu:A.units < cLine)(hS:s.heap.get? S=some o)(hd:o.data=.set es ep t)(hf:t.fits es.size=true)(hm:t.mask=7)(hes:es=#[(h,.ref v)])
 (hpr:t.probe (fun i=>(es[i]?.map (·.1)).getD 0) h (t.probeStart h)=some (.candidate j 0 nx)) (hv:PairV s.heap v p) (hp:PairV s.heap u p) (hQ:Q (.there none) s):wpAny (model prog w) A (setSearchFrom S (.ref u) h true (fuel+1) none) Q E s:=by
 show wpAny _ _ (setState S >>= _) _ _ _
 refine wpAny_bind (wpAny_setState_of hS hd hf ?_)
 dsimp only
 have hg:t.gaveWay=false:=by unfold SetTable.gaveWay;rw[hm];rfl
 rw[hg,if_neg qh]
 refine wpAny_bind (wpAny_pure ?_)
 show wpAny _ _ (match t.probe (fun i=>(es[i]?.map (·.1)).getD 0) h (t.probeStart h)with | some met=>_ | _=>_) _ _ _
 rw[hpr]
 dsimp only
 have hfl:((es.filter (·.1==h)).toList.map (·.2))=[Value.ref v]:=by
  rw[hes]
  simp
 have hes0:es[0]?=some (h,.ref v):=by rw[hes];rfl
 rw[hfl,hes0]
 cases t.led with
 | true=>
   rw[if_neg (by decide)]
   dsimp only
   refine wpAny_bind (wpAny_holding (wpAny_eqBool_tuple (knd:=Ybp prog w) hu hv.key hp.key ?_))
   rw[decide_eq_true rfl]
   refine wpAny_bind (wpAny_setState_of hS hd hf ?_)
   dsimp only
   rw[if_pos (by rfl)]
   exact wpAny_pure hQ
 | false=>
   rw[if_pos (by decide)]
   refine wpAny_bind (Ywe hp hv ?_)
   rw[if_neg (by decide)]
   dsimp only
   refine wpAny_bind (wpAny_holding (wpAny_eqBool_tuple (knd:=Ybp prog w) hu hv.key hp.key ?_))
   rw[decide_eq_true rfl]
   refine wpAny_bind (wpAny_setState_of hS hd hf ?_)
   dsimp only
   rw[if_pos (by rfl)]
   exact wpAny_pure hQ
theorem Ypg{S u:Addr}{h:Int}{o:Obj}{es:Array (Int × Value)}{ep:Nat}{t:SetTable}{Q:Bool→Shared→Prop}(hS:s.heap.get? S=some o)(hd:o.data=.set es ep t)(hf:t.fits es.size=true)
 (hsr:∀Q':SetFound→Shared→Prop,Q' (.there none) s→wpAny (model prog w) A (setSearch S (.ref u) h true) Q' E s) (hQ:Q false s):wpAny (model prog w) A (setAddHashed S (.ref u) h) Q E s:=by
 unfold setAddHashed setAddHashedIn
 refine wpAny_holding (wpAny_bind (wpAny_setState_of hS hd hf ?_))
 dsimp only
 have hby:byScan (.ref u) es=false:=rfl
 rw[hby,if_neg qh]
 refine wpAny_bind (hsr _ ?_)
 exact wpAny_pure hQ
theorem Ys2{S u v:Addr}{p:Int × Bool}{hh:Int}{Q:Bool→Shared→Prop}(hu:A.units < cLine)(hS:SetQ w s.heap S [(hh,v)])(hv:PairV s.heap v p)(hp:PairV s.heap u p)(hQ:Q false s):wpAny (model prog w) A (setAddHashed S (.ref u) hh) Q E s:=by
 obtain⟨o,es,ep,t,h1,h2,h3,h4,h5,h6,h7,h8,h9⟩:=hS.ex
 have hes:es=#[(hh,.ref v)]:=by
  apply Array.toList_inj.mp
  rw[h4]
  rfl
 have hz:t.place=#[SetTable.bits hh % 8]:=by
  apply Array.toList_inj.mp
  rw[h8]
  rfl
 obtain⟨nx,hpr⟩:=Yt7 (h:=hh) h6 hz h7 (hA:=fun i=>(es[i]?.map (·.1)).getD 0) (by rw[hes];rfl)
 refine Ypg h1 h3 h5 (fun Q' q=>?_) hQ
 have h100:(100000:Nat)=99999+1:=rfl
 unfold setSearch
 rw[h100]
 generalize (99999:Nat)=fuel
 exact Yrf fuel hu h1 h3 h5 h6 hes hpr hv hp q
noncomputable def oncE:List Addr→List (Int × Bool)→List Addr
 | [u1,u2],[p1,p2]=>if p1=p2 then [u1]else [u1,u2]
 | us,_=>us
theorem Ywf{l I S:Addr}{us:List Addr}{ps:List (Int × Bool)}{R:Result→Shared→Prop}(hh:A.handled=none)(hu:A.units+2 < cLine)(hit:s.heap.IsListIter I l 0)(hl:s.heap.IsList l (us.map Value.ref).toArray)(h2:us.length≤2)(hps:ps.length=us.length)
 (hp:∀(i:Nat) u p,us[i]?=some u→ps[i]?=some p→PairV s.heap u p) (hd:∀p q,ps=[p,q]→p=q∨pH p≠pH q) (hS:SetQ w s.heap S []) (hIl:l≠I) (hIS:S≠I) (hlS:l≠S) (hIu:∀u∈us,u≠I) (hSu:∀u∈us,u≠S)
 (hR:∀h' tk vs,SetV w h' S vs→vs.Perm ((oncE us ps).map Value.ref)→(∀b o,b≠S→b≠I→s.heap.get? b=some o→h'.get? b=some o)→R (.ok (.ret .none)) { s with heap:=h',toks:=tk }) :
 codeAny (model prog w) A (.builtin "set.update.loop" ⟨[.ref S,.ref I],[]⟩) R s:=by
 have lk:∀{h h':Heap} {its:Array Value},h.IsList l its→(∀o,h.get? l=some o→h'.get? l=some o)→h'.IsList l its:=fun x k=>let ⟨o,e,r⟩:=x;⟨o,k o e,r⟩
 have ik:∀{h h':Heap} {i:Nat},h.IsListIter I l i→(∀o,h.get? I=some o→h'.get? I=some o)→h'.IsListIter I l i:=fun x k=>let ⟨o,e,r⟩:=x;⟨o,k o e,r⟩
 rcases us with _ | ⟨u1,_ | ⟨u2,_ | ⟨u3,ur⟩⟩⟩
 ·refine Ypf hh hit hl rfl fun h1 hs1=>?_
  exact hR h1 s.toks _ ((hS.keep fun o e=>hs1 S o hIS e).vals (by simp)) (.refl _) fun b o _ hb e=>hs1 b o hb e
 ·rcases ps with _ | ⟨p1,_ | ⟨p2,pr⟩⟩
  ·simp at hps
  ·have hu1:=hp 0 u1 p1 rfl rfl
   refine Yre hu hit hl rfl hu1 (hIu u1 (by simp)) fun h1 tk1 hi1 hs1=>?_
   refine Yer (s:={ s with heap:=h1,toks:=tk1 }) (hS.keep fun o e=>by rw[hs1.2 S hIS];exact e) (by simp) (hu1.keep fun o e=>by rw[hs1.2 u1 (hIu u1 (by simp))];exact e) (by simp) fun h2' vs2 hs2 hn2 hp2 ho2=>?_
   refine Ypf hh (ik hi1 fun o e=>by rw[hs2.2 I (Ne.symm hIS)];exact e) (lk hl fun o e=>by rw[hs2.2 l hlS,hs1.2 l hIl];exact e) rfl fun h3 hs3=>?_
   refine hR h3 tk1 _ (((ho2 rfl).keep fun o e=>hs3 S o hIS e).vals (by simp)) (.refl _) fun b o hb1 hb2 e=>hs3 b o hb2 (by rw[hs2.2 b hb1,hs1.2 b hb2];exact e)
  ·simp at hps
 ·rcases ps with _ | ⟨p1,_ | ⟨p2,_ | ⟨p3,pr⟩⟩⟩
  ·simp at hps
  ·simp at hps
  ·have hu1:=hp 0 u1 p1 rfl rfl
   have hu2:=hp 1 u2 p2 rfl rfl
   have n1:=hIu u1 (by simp)
   have n2:=hIu u2 (by simp)
   have m2:=hSu u2 (by simp)
   refine Yre hu hit hl rfl hu1 n1 fun h1 tk1 hi1 hs1=>?_
   refine Yer (s:={ s with heap:=h1,toks:=tk1 }) (hS.keep fun o e=>by rw[hs1.2 S hIS];exact e) (by simp) (hu1.keep fun o e=>by rw[hs1.2 u1 n1];exact e) (by simp) fun h2' vs2 hs2 hn2 hp2 ho2=>?_
   have k2:∀b o,b≠S→b≠I→s.heap.get? b=some o→h2'.get? b=some o:=fun b o hb1 hb2 e=>by rw[hs2.2 b hb1,hs1.2 b hb2];exact e
   refine Yre (s:={ s with heap:=h2',toks:=tk1 }) hu (ik hi1 fun o e=>by rw[hs2.2 I (Ne.symm hIS)];exact e) (lk hl fun o e=>k2 l o hlS hIl e) rfl (hu2.keep fun o e=>k2 u2 o m2 n2 e) n2 fun h3 tk3 hi3 hs3=>?_
   have k3:∀b o,b≠S→b≠I→s.heap.get? b=some o→h3.get? b=some o:=fun b o hb1 hb2 e=>by rw[hs3.2 b hb2];exact k2 b o hb1 hb2 e
   by_cases hpq:p1=p2
   ·subst hpq
    refine Ys2 (s:={ s with heap:=h3,toks:=tk3 }) (v:=u1) (p:=p1) (by show _+1 < cLine;lia) ((ho2 rfl).keep fun o e=>by rw[hs3.2 S hIS];exact e) (hu1.keep fun o e=>k3 u1 o (hSu u1 (by simp)) n1 e) (hu2.keep fun o e=>k3 u2 o m2 n2 e) ?_
    refine Ypf (s:={ s with heap:=h3,toks:=tk3 }) hh hi3 (lk hl fun o e=>k3 l o hlS hIl e) rfl fun h5 hs5=>?_
    refine hR h5 tk3 _ (((ho2 rfl).keep fun o e=>hs5 S o hIS (by rw[hs3.2 S hIS];exact e)).vals (by simp)) ?_ fun b o hb1 hb2 e=>hs5 b o hb2 (k3 b o hb1 hb2 e)
    rw[oncE,if_pos rfl]
    exact .refl _
   ·have hdp:pH p1≠pH p2:=by
     rcases hd p1 p2 rfl with z | z
     ·exact absurd z hpq
     ·exact z
    refine Yer (s:={ s with heap:=h3,toks:=tk3 }) ((ho2 rfl).keep fun o e=>by rw[hs3.2 S hIS];exact e) (by simp) (hu2.keep fun o e=>k3 u2 o m2 n2 e) (fun q hq=>?_) fun h4 vs4 hs4 hn4 hp4 _=>?_
    ·simp only[List.mem_singleton]at hq
     rw[hq]
     exact hdp
    ·refine Ypf (s:={ s with heap:=h4,toks:=tk3 }) hh (ik hi3 fun o e=>by rw[hs4.2 I (Ne.symm hIS)];exact e) (lk hl fun o e=>by rw[hs4.2 l hlS];exact k3 l o hlS hIl e) rfl fun h5 hs5=>?_
     refine hR h5 tk3 vs4 (hn4.at fun o e=>hs5 S o hIS e) ?_ fun b o hb1 hb2 e=>hs5 b o hb2 (by rw[hs4.2 b hb1];exact k3 b o hb1 hb2 e)
     rw[oncE,if_neg hpq]
     exact hp4
  ·simp at hps
 ·simp at h2
theorem Ykn{l:Addr}{us:List Addr}{ps:List (Int × Bool)}{Q:Value→Shared→Prop}(hh:A.handled=none)(hu:A.units+8 < cLine)(hl:s.heap.IsList l (us.map Value.ref).toArray)(h2:us.length≤2)(hps:ps.length=us.length)
 (hp:∀(i:Nat) u p,us[i]?=some u→ps[i]?=some p→PairV s.heap u p) (hd:∀p q,ps=[p,q]→p=q∨pH p≠pH q)
 (h:∀(h':Heap) (tk:Nat) vs,SetV w h' s.heap.objs.size vs→vs.Perm ((oncE us ps).map Value.ref)→(∀b o,s.heap.get? b=some o→h'.get? b=some o)→Q (.ref s.heap.objs.size) { s with heap:=h',toks:=tk }) :
 wpAny (model prog w) A (call (.type "set") [.ref l]) Q E s:=by
 refine Ybz (Q₁:=fun obj s₁=>obj=.ref s.heap.objs.size∧s₁={ s with heap:=s.heap.push (emS w) }) F.called_set (F.typeCall_set_1 _) F.entry_set_init (Yg4 _ ⟨rfl,rfl⟩) ?_
 rintro obj s₁ ⟨rfl,rfl⟩
 have hS:(s.heap.push (emS w)).get? s.heap.objs.size=some (emS w):=qo _ rfl
 have hT:Shared.TypeIs { s with heap:=s.heap.push (emS w) } (.ref s.heap.objs.size) "set":=⟨_,hS,rfl⟩
 refine⟨hT,fun A' E' Q' hq=>check_set_init_1 hT hq,?_⟩
 have hul:∀u∈us,u < s.heap.objs.size:=fun u hm=>by
  obtain⟨i,hi,e⟩:=List.getElem_of_mem hm
  have hi':i < ps.length:=by lia
  obtain⟨o,_,_,ho,_⟩:=hp i u ps[i] (by rw[qp hi,e]) (qp hi')
  exact qk ho
 generalize hits:(us.map Value.ref).toArray=items at hl
 obtain⟨ol,hol,hcl,nl,hdl⟩:=hl
 obtain⟨ocls,odict,odata,oslots⟩:=ol
 simp only at hcl hdl
 subst hcl;subst hdl
 have hol':(s.heap.push (emS w)).get? l=some { cls:=.type "list",dict:=odict,data:=.seq items nl,slots:=oslots }:=qd _ hol
 have hsls:=F.sub_list_set
 have hslf:=F.sub_list_frozenset
 have hne:(Value.type "list"==Value.type "dict")=false:=by decide
 have hl1:(s.heap.push (emS w)).IsList l items:=⟨_,hol',rfl,nl,rfl⟩
 unfold Builtin.«set.__init__» noKeywords Builtin.Frozenset.updateFrom
 generalize hPI:pyIter=PI
 wp_walk
 subst hPI
 refine wpAny_pyIter_list hl1 ?_
 refine wpAny_bind (wpAny_runValue ?_)
 have hlS:l < s.heap.objs.size:=qk hol
 have hsz:(s.heap.push (emS w)).objs.size=s.heap.objs.size+1:=Heap.size_push ..
 have hol2:((s.heap.push (emS w)).push { cls:=.type "list_iterator",data:=.fields #[.ref l,.int 0 0] }).IsList l items:=hl1.push _
 rw[←hits]at hol2
 refine Ywf (us:=us) (ps:=ps) (by simp[hh]) (by show _+2 < cLine;simp;lia) ⟨_,qo _ rfl,rfl,rfl⟩ hol2 h2 hps (fun i u p hi hp'=>(hp i u p hi hp').keep fun o e=>qd _ (qd _ e)) hd ?_ ?_ ?_ ?_ ?_ ?_ ?_
 ·exact⟨emS w,#[],0,_,qd _ hS,⟨rfl,rfl,rfl⟩,rfl,rfl,rfl,rfl,rfl,rfl,.fresh⟩
 ·rw[hsz];exact ql (qv hlS)
 ·rw[hsz];exact ql (qz _)
 ·exact ql hlS
 ·intro u hm;rw[hsz];exact ql (qv (hul u hm))
 ·intro u hm;exact ql (hul u hm)
 ·intro h' tk vs hN hpm old
  show wpAny _ _ _ _ _ _
  refine wpAny_pure ?_
  show wpAny _ _ (ret Value.none) _ _ _
  refine wpAny_pure ⟨rfl,h h' tk vs hN hpm fun b o e=>?_⟩
  have hb:=qk e
  exact old b o (ql hb) (by rw[hsz];exact ql (qv hb)) (qd _ (qd _ e))
theorem Ywg{L:Addr}{vs:List Value}{Q:Fin→Shared→Prop}(hoS:s.heap.get? L=some (seqObj "list" vs.toArray 0))(h2:vs.length < 2)
 (hQ:∀h' e,(∀b o,b≠L→s.heap.get? b=some o→h'.get? b=some o)→h'.get? L=some (seqObj "list" vs.toArray e)→Q (.done (.ret .none)) { s with heap:=h' }) :
 wpAny (model prog w) A (Builtin.«list.sort» ⟨[.ref L],[]⟩) Q E s:=by
 rw[list_sort_plain]
 have ha:L < s.heap.objs.size:=qk hoS
 refine wpAny_bind (listItems_at hoS rfl ?_)
 refine wpAny_bind (listUpdate_at hoS rfl ?_ (by rw[qj,sizeLine_eq];lia) (Qe _))
 obtain⟨e1,ho1⟩:∃e1,(s.heap.update L (Obj.mapSeq fun _=>#[])).get? L=some (seqObj "list" #[] e1):=⟨_,get?_update_seq hoS (fun _=>#[])⟩
 refine wpAny_bind (seqEpoch_at ho1 rfl ?_)
 refine wpAny_bind (wpAny_newTuple ?_ (by show vs.length≤_;rw[sizeLine_eq];lia))
 refine wpAny_bind (wpAny_newList ?_ (Qe _))
 refine wpAny_holding ?_
 have ho6:(((s.heap.update L (Obj.mapSeq fun _=>#[])).push (seqObj "tuple" vs.toArray 0)).push (seqObj "list" #[] 0)).get? L=some (seqObj "list" #[] e1):=by
  rw[Heap.get?_push_ne _ _ _ (by rw[size_push',Heap.size_update];exact ql (qv ha)),Heap.get?_push_ne _ _ _ (by rw[Heap.size_update];exact ql ha)]
  exact ho1
 have keep6:∀b o,b≠L→s.heap.get? b=some o→(((s.heap.update L (Obj.mapSeq fun _=>#[])).push (seqObj "tuple" vs.toArray 0)).push (seqObj "list" #[] 0)).get? b=some o:=fun b o hb q=>by
  refine qd _ (qd _ ?_)
  rw[Heap.get?_update_ne _ _ _ _ hb]
  exact q
 show wpAny (model prog w) _ _ _ _ { s with heap:=((s.heap.update L (Obj.mapSeq fun _=>#[])).push (seqObj "tuple" vs.toArray 0)).push (seqObj "list" #[] 0) }
 generalize ((s.heap.update L (Obj.mapSeq fun _=>#[])).push (seqObj "tuple" vs.toArray 0)).push (seqObj "list" #[] 0)=h6 at ho6 keep6 ⊢
 dsimp only
 have hlt:vs.toArray.size < 2:=by rw[qj];exact h2
 rw[if_pos hlt,if_pos hlt]
 refine wpAny_bind (wpAny_pure ?_)
 rw[StateT.run_pure]
 refine wpAny_bind (wpAny_pure ?_)
 dsimp only
 refine wpAny_bind (seqEpoch_at ho6 rfl ?_)
 refine wpAny_bind (listUpdate_at ho6 rfl ?_ (hsz2:=by rw[Array.size_map];show(PyProof.Rows.pairsOf vs).size≤_;rw[pairsOf_size,sizeLine_eq];lia))
 simp only[bne_self_eq_false,Bool.false_eq_true,if_false]
 have hout:(arrOf (SortSt.mk' general' (vs.toArray.zip vs.toArray) #[] 7 none)).map (·.2)=vs.toArray:=by
  show(vs.toArray.zip vs.toArray).map (·.2)=vs.toArray
  apply Array.toList_inj.mp
  simp[List.map_snd_zip]
 refine wpAny_pure ?_
 rw[hout]
 exact hQ _ _ (fun b o hb q=>by rw[Heap.get?_update_ne _ _ _ _ hb];exact keep6 b o hb q) (get?_update_seq ho6 (fun _=>vs.toArray))
theorem y0s{L b c:Addr}{i j:Int}{p q:Bool}{t u:Tok}{Q:Fin→Shared→Prop}(hoS:s.heap.get? L=some (seqObj "list" #[.ref b,.ref c] 0))(hb:IsTup s.heap b #[.int i t,.bool p])(hc:IsTup s.heap c #[.int j u,.bool q])(hbL:b≠L)(hcL:c≠L)
 (hQ:∀h' e,(∀b o,b≠L→s.heap.get? b=some o→h'.get? b=some o)→h'.get? L=some (seqObj "list" (if plt j q i p=true then #[.ref c,.ref b]else #[.ref b,.ref c]) e)→Q (.done (.ret .none)) { s with heap:=h' }) :
 wpAny (model prog w) A (Builtin.«list.sort» ⟨[.ref L],[]⟩) Q E s:=by
 obtain⟨vs,hvs⟩:∃vs,[Value.ref b,Value.ref c]=vs:=⟨_,rfl⟩
 have hlen:vs.length=2:=by rw[←hvs];rfl
 have hoS:s.heap.get? L=some (seqObj "list" vs.toArray 0):=by rw[←hvs];exact hoS
 rw[list_sort_plain]
 have ha:L < s.heap.objs.size:=qk hoS
 refine wpAny_bind (listItems_at hoS rfl ?_)
 refine wpAny_bind (listUpdate_at hoS rfl ?_ (by rw[qj,sizeLine_eq];lia) (Qe _))
 obtain⟨e1,ho1⟩:∃e1,(s.heap.update L (Obj.mapSeq fun _=>#[])).get? L=some (seqObj "list" #[] e1):=⟨_,get?_update_seq hoS (fun _=>#[])⟩
 refine wpAny_bind (seqEpoch_at ho1 rfl ?_)
 refine wpAny_bind (wpAny_newTuple ?_ (by show vs.length≤_;rw[sizeLine_eq];lia))
 refine wpAny_bind (wpAny_newList ?_ (Qe _))
 refine wpAny_holding ?_
 have ho6:(((s.heap.update L (Obj.mapSeq fun _=>#[])).push (seqObj "tuple" vs.toArray 0)).push (seqObj "list" #[] 0)).get? L=some (seqObj "list" #[] e1):=by
  rw[Heap.get?_push_ne _ _ _ (by rw[size_push',Heap.size_update];exact ql (qv ha)),Heap.get?_push_ne _ _ _ (by rw[Heap.size_update];exact ql ha)]
  exact ho1
 have keep6:∀b o,b≠L→s.heap.get? b=some o→(((s.heap.update L (Obj.mapSeq fun _=>#[])).push (seqObj "tuple" vs.toArray 0)).push (seqObj "list" #[] 0)).get? b=some o:=fun b o hb q=>by
  refine qd _ (qd _ ?_)
  rw[Heap.get?_update_ne _ _ _ _ hb]
  exact q
 show wpAny (model prog w) _ _ _ _ { s with heap:=((s.heap.update L (Obj.mapSeq fun _=>#[])).push (seqObj "tuple" vs.toArray 0)).push (seqObj "list" #[] 0) }
 generalize ((s.heap.update L (Obj.mapSeq fun _=>#[])).push (seqObj "tuple" vs.toArray 0)).push (seqObj "list" #[] 0)=h6 at ho6 keep6 ⊢
 generalize hS6:({ s with heap:=h6 }:Shared)=S6
 have ho7:S6.heap.get? L=some (seqObj "list" #[] e1):=by rw[←hS6];exact ho6
 have tb:IsTup S6.heap b #[.int i t,.bool p]:=by
  obtain⟨o,a1,a2⟩:=hb
  exact⟨o,by rw[←hS6];exact keep6 b o hbL a1,a2⟩
 have tc:IsTup S6.heap c #[.int j u,.bool q]:=by
  obtain⟨o,a1,a2⟩:=hc
  exact⟨o,by rw[←hS6];exact keep6 c o hcL a1,a2⟩
 dsimp only
 have hn2:¬vs.toArray.size < 2:=by rw[qj];lia
 rw[if_neg hn2,if_neg hn2]
 have kt:W.KatTups S6.heap vs [.int i t,.int j u]:=by
  obtain⟨ob,b1,b2,n1,b3⟩:=tb
  obtain⟨oc,c1,c2,n2,c3⟩:=tc
  rw[←hvs]
  exact .cons b1 b2 b3 rfl (.cons c1 c2 c3 rfl .nil)
 refine wpAny_bind (W.kat_kind (T:=.type "int") kt (qv (qz 0)) (fun v hv=>?_) (by decide) ?_)
 ·rcases qr hv with rfl | hv
  ·exact .of_pure rfl
  ·rcases qr hv with rfl | hv
   ·exact .of_pure rfl
   ·cases hv
 have hcmp:wpAny (model prog w) A (keyLt' (tuples' true) (vs.getD 1 Value.none) (vs.getD 0 Value.none)) (fun k s'=>k=plt j q i p∧s'=S6) (fun _ _=>False) S6:=by
  rw[←hvs]
  exact Yvx tb tc ⟨rfl,rfl⟩
 refine wpAny_bind (wpAny_mono (W.kat_run (ks:=vs) (vs:=vs) (κ:=tuples' true) (G:=fun pm s'=>s'=S6∧pm=if plt j q i p=true then #[1,0]else #[0,1])
  (Q:=fun st' s'=>s'=S6∧failedOf st'=none∧(arrOf st').map (·.2)=if plt j q i p=true then #[.ref c,.ref b]else #[.ref b,.ref c]) rfl (by lia) (by lia) (fun pm st' s' a1 a2 a3 a4=>?_) ?_) ?_ fun _ _ e=>e)
 ·obtain⟨rfl,rfl⟩:=a4
  refine⟨rfl,a3,?_⟩
  rw[W.kat_snds rfl a2,←hvs]
  cases plt j q i p<;>rfl
 ·rw[hlen]
  refine Ymm ?_
  refine wpAny_mono hcmp (fun k s' hk=>?_) fun _ _ x=>x
  obtain⟨rfl,rfl⟩:=hk
  cases plt j q i p
  ·exact⟨rfl,rfl⟩
  ·exact⟨rfl,rfl⟩
 rintro⟨⟨⟩,st'⟩ s' ⟨rfl,hf,hout⟩
 dsimp only
 refine wpAny_bind (seqEpoch_at ho7 rfl ?_)
 refine wpAny_bind (listUpdate_at ho7 rfl ?_ (Qe _) (by rw[hout,sizeLine_eq];cases plt j q i p<;>exact(by decide:2≤16777216+1)))
 rw[hf]
 simp only[bne_self_eq_false,Bool.false_eq_true,if_false]
 refine wpAny_pure ?_
 rw[hout]
 have hfin:=get?_update_seq ho7 (fun _=>if plt j q i p=true then #[Value.ref c,Value.ref b]else #[Value.ref b,Value.ref c])
 subst hS6
 exact hQ _ _ (fun b o hb q=>by rw[Heap.get?_update_ne _ _ _ _ hb];exact keep6 b o hb q) hfin
noncomputable def srtA:List Addr→List (Int × Bool)→List Addr
 | [u1,u2],[p1,p2]=>if plt p2.1 p2.2 p1.1 p1.2=true then [u2,u1]else [u1,u2]
 | us,_=>us
theorem Ywh{p1 p2:Int × Bool}(h:p1≠p2):plt p1.1 p1.2 p2.1 p2.2=!plt p2.1 p2.2 p1.1 p1.2:=by
 obtain⟨i,b⟩:=p1
 obtain⟨j,c⟩:=p2
 unfold plt
 dsimp only
 by_cases e:i=j
 ·subst e
  have hbc:b≠c:=fun z=>h (by rw[z])
  rw[if_pos rfl,if_pos rfl]
  cases b<;>cases c<;>first | rfl | exact absurd rfl hbc
 ·rw[if_neg e,if_neg (fun z=>e z.symm)]
  by_cases h1:i < j
  ·have h2:¬j < i:=by lia
   simp[h1,h2]
  ·have h2:j < i:=by lia
   simp[h1,h2]
theorem PairV.tup{h:Heap}{u:Addr}{p:Int × Bool}(x:PairV h u p):∃tk,IsTup h u #[.int p.1 tk,.bool p.2]:=by
 obtain⟨o,tk,n,h1,h2,h3⟩:=x
 exact⟨tk,o,h1,h2,n,h3⟩
theorem Ync{L:Addr}{acc:List Value}{us:List Addr}{ps:List (Int × Bool)}{Q:Fin→Shared→Prop}(hoS:s.heap.get? L=some (seqObj "list" acc.toArray 0))(hpm:acc.Perm (us.map Value.ref))(h2:us.length≤2)(hps:ps.length=us.length)
 (hp:∀(i:Nat) u p,us[i]?=some u→ps[i]?=some p→PairV s.heap u p) (hne:∀p q,ps=[p,q]→p≠q) (hL:∀u∈us,u≠L)
 (hQ:∀h' e,(∀b o,b≠L→s.heap.get? b=some o→h'.get? b=some o)→h'.get? L=some (seqObj "list" ((srtA us ps).map Value.ref).toArray e)→Q (.done (.ret .none)) { s with heap:=h' }) :
 wpAny (model prog w) A (Builtin.«list.sort» ⟨[.ref L],[]⟩) Q E s:=by
 rcases us with _ | ⟨u1,_ | ⟨u2,_ | ⟨u3,ur⟩⟩⟩
 ·have e:acc=[]:=List.perm_nil.mp hpm
  subst e
  refine Ywg hoS (by simp) fun h' e k1 k2=>hQ h' e k1 ?_
  rw[k2]
  rfl
 ·have e:acc=[.ref u1]:=List.perm_singleton.mp hpm
  subst e
  refine Ywg hoS (by simp) fun h' e k1 k2=>hQ h' e k1 ?_
  rw[k2]
  rfl
 ·rcases ps with _ | ⟨p1,_ | ⟨p2,_ | ⟨p3,pr⟩⟩⟩
  ·simp at hps
  ·simp at hps
  ·obtain⟨t1,hb1⟩:=(hp 0 u1 p1 rfl rfl).tup
   obtain⟨t2,hb2⟩:=(hp 1 u2 p2 rfl rfl).tup
   have n1:=hL u1 (by simp)
   have n2:=hL u2 (by simp)
   have hpq:=hne p1 p2 rfl
   have hacc:acc=[.ref u1,.ref u2]∨acc=[.ref u2,.ref u1]:=by
    have hl:acc.length=2:=hpm.length_eq
    obtain⟨x,y,rfl⟩:∃x y,acc=[x,y]:=by
     rcases acc with _ | ⟨x,_ | ⟨y,_ | ⟨z,r⟩⟩⟩
     ·simp at hl
     ·simp at hl
     ·exact⟨x,y,rfl⟩
     ·simp at hl
    have hx:x∈[Value.ref u1,Value.ref u2]:=hpm.mem_iff.mp (by simp)
    simp only[List.mem_cons,List.not_mem_nil,or_false]at hx
    rcases hx with rfl | rfl
    ·left
     have:=hpm.cons_inv
     rw[List.perm_singleton.mp this]
    ·right
     have h3:[Value.ref u2,y].Perm [Value.ref u2,Value.ref u1]:=hpm.trans (.swap _ _ _)
     have:=h3.cons_inv
     rw[List.perm_singleton.mp this]
   rcases hacc with rfl | rfl
   ·refine y0s hoS hb1 hb2 n1 n2 fun h' e k1 k2=>hQ h' e k1 ?_
    rw[k2,srtA]
    cases plt p2.1 p2.2 p1.1 p1.2<;>rfl
   ·refine y0s hoS hb2 hb1 n2 n1 fun h' e k1 k2=>hQ h' e k1 ?_
    rw[k2,srtA,Ywh hpq]
    cases plt p2.1 p2.2 p1.1 p1.2<;>rfl
  ·simp at hps
 ·simp at h2
theorem Yrg{a:Addr}{vs:List Value}{us:List Addr}{ps:List (Int × Bool)}(hh:A.handled=none)(hS:SetV w s.heap a vs)(hpm:vs.Perm (us.map Value.ref))(h2:us.length≤2)(hps:ps.length=us.length)
 (hp:∀(i:Nat) u p,us[i]?=some u→ps[i]?=some p→PairV s.heap u p) (hne:∀p q,ps=[p,q]→p≠q) {Q:Value→Shared→Prop}
 (hQ:∀(h':Heap) (d':Drawn) (tk e:Nat) (p:Addr),(∀b o,s.heap.get? b=some o→h'.get? b=some o)→s.heap.objs.size≤p→h'.get? p=some (seqObj "list" ((srtA us ps).map Value.ref).toArray e)→Q (.ref p) { s with heap:=h',drawn:=d',toks:=tk }) :
 wpAny (model prog w) A (call (.builtin "sorted") [.ref a]) Q E s:=by
 refine Calls.call_function_entry kind_sorted plain_sorted entry_sorted (args_sorted1 _) ?_
 unfold Builtin.«sorted»
 refine wpAny_bind (m:=checkCount "sorted" 1 1 _) (wpAny_pure ?_)
 refine wpAny_bind (Yi2 (A:=A.in1) hh hS fun h' d' tk acc hle keep hp'=>?_)
 have hpa:=hp'.trans hpm
 have hl:acc.length≤2:=by rw[hpa.length_eq,qe];exact h2
 refine wpAny_bind (wpAny_newList ?_ (by rw[sizeLine_eq];lia))
 have hoL:(h'.push (seqObj "list" acc.toArray 0)).get? h'.objs.size=some (seqObj "list" acc.toArray 0):=qo _ rfl
 show wpAny _ _ _ _ _ { s with heap:=h'.push (seqObj "list" acc.toArray 0),drawn:=d',toks:=tk }
 have hul:∀u∈us,u < s.heap.objs.size:=fun u hm=>by
  obtain⟨i,hi,e⟩:=List.getElem_of_mem hm
  have hi':i < ps.length:=by lia
  obtain⟨o,_,_,ho,_⟩:=hp i u ps[i] (by rw[qp hi,e]) (qp hi')
  exact qk ho
 refine wpAny_bind (wpAny_holding (wpAny_call_entry slot_list_sort ⟨_,hoL,rfl⟩ entry_list_sort (Ync (us:=us) (ps:=ps) (s:={ s with heap:=h'.push (seqObj "list" acc.toArray 0),drawn:=d',toks:=tk }) hoL hpa h2 hps (fun i u p hi hi'=>(hp i u p hi hi').keep fun o e=>qd _ (keep u o e)) hne (fun u hm=>ql (Qd (hul u hm) hle)) fun h2' e k1 k2=>⟨_,rfl,?_⟩) (args_list_sort _)))
 refine wpAny_pure ⟨_,rfl,hQ h2' d' tk e h'.objs.size (fun b o eb=>?_) hle k2⟩
 have hb:=qk (keep b o eb)
 exact k1 b o (ql hb) (qd _ (keep b o eb))
end
end
section
set_option maxRecDepth 100000
section
variable {prog:Program} {w:World} {A:Around} {E:Value→Shared→Prop} {s:Shared}
theorem Yzc:∀{us:List Addr} {ps:List (Int × Bool)},(∀p q,ps=[p,q]→pH p≠pH q)→(oncE us ps).length=us.length:=by
 intro us ps hd
 unfold oncE
 split
 ·rw[if_neg fun e=>hd _ _ rfl (by rw[e])]
 ·rfl
theorem Ylq{l:Addr}{us:List Addr}{ps:List (Int × Bool)}{Q:Value→Shared→Prop}(hh:A.handled=none)(hu:A.units+8 < cLine)(hl:s.heap.IsList l (us.map Value.ref).toArray)(h2:us.length≤2)(hps:ps.length=us.length)
 (hp:∀(i:Nat) u p,us[i]?=some u→ps[i]?=some p→PairV s.heap u p) (hd:∀p q,ps=[p,q]→pH p≠pH q)
 (h:∀(h':Heap) (tk:Nat),SetN w h' s.heap.objs.size us.length→(∀b o,s.heap.get? b=some o→h'.get? b=some o)→Q (.ref s.heap.objs.size) { s with heap:=h',toks:=tk }) :
 wpAny (model prog w) A (call (.type "set") [.ref l]) Q E s:=by
 refine Ykn hh hu hl h2 hps hp (fun p q e=>.inr (hd p q e)) fun h' tk vs hS hpm hk=>h h' tk ?_ hk
 obtain⟨o,es,ep,t,h1,hx,h3,hvs,hb,hf,_⟩:=hS
 refine⟨o,es,ep,t,h1,hx,h3,?_,hf⟩
 have e1:es.size=vs.length:=by rw[←hvs,qe,qi]
 rw[e1,hpm.length_eq,qe,Yzc hd]
end
noncomputable def setC(w:World)(p:Addr)(n:Nat):HO:=.ext fun h=>SetN w h p n
theorem Ywi{P:Program}{w:World}{H:Hp}{h:Heap}{p:Addr}{n:Nat}(x:SetN w h p n):ObjOk P w H h p (setC w p n):=by
 refine⟨x,?_,fun h1 h2 e k=>?_⟩
 ·obtain⟨o,_,_,_,ho,_⟩:=x
  exact⟨o,ho⟩
 ·obtain⟨o,es,ep,t,ho,r⟩:=e
  exact⟨o,es,ep,t,k o ho,r⟩
theorem SetI.count{P:Program}{w:World}{h:Heap}{a:Addr}{ns:List Int}(x:SetI P w h a ns):SetN w h a ns.length:=by
 obtain⟨o,es,ep,t,h1,h2,h3,h4,h5,h6,h7,h8,h9⟩:=x
 exact⟨o,es,ep,t,h1,h2,h3,by rw[←h5,qe,qi],h8⟩
noncomputable def VPrs(H:Hp):List V→List (Int × Bool)→Prop
 | [],[]=>True
 | x::xs,q::qs=>(∃b,x=.ref b∧H b=some (.tup [.int q.1,.bl q.2]))∧VPrs H xs qs
 | _,_=>False
noncomputable def Ywj:List (Int × Bool)→Bool
 | [p,q]=>decide (pH p≠pH q)
 | l=>decide (l.length≤2)
noncomputable def y79(K:W.Frag)(w:World):List V→Hp→VK→Prop:=fun xs H Q=>∃a ys n,xs=[.ref a]∧SqL K H a ys∧((∃ns:List Int,ys=ns.map V.int∧ns.length < 4000∧n=(ddup [] ns).length)∨(∃qs,VPrs H ys qs∧Ywj qs=true∧n=qs.length))∧∀p,H p=none→Q (.ref p) (upd H p (setC w p n))
section
variable {X:Cx}
theorem Ywk{pins:List (Addr × Obj)}{s:Shared}{σ:L2.St}{H:Hp}(I:Inv X pins σ H s):∀{ys:List V} {its:List Value} {qs:List (Int × Bool)},VPrs H ys qs→Vals ys its→∃us:List Addr,its=us.map Value.ref∧us.length=qs.length∧∀(i:Nat) u p,us[i]?=some u→qs[i]?=some p→PairV s.heap u p
 | [],its,[],_,r=>by
   cases r
   exact⟨[],rfl,rfl,fun i u p h=>by simp at h⟩
 | y::ys,its,q::qs,h,r=>by
   obtain⟨⟨b,rfl,hb⟩,h⟩:=h
   cases r with
   | cons r1 r2=>
     cases r1
     obtain⟨us,h1,h2,h3⟩:=Ywk I h r2
     obtain⟨its2,rv,⟨o,e,hc,n,hd⟩,_⟩:=I.tuple (xs:=[.int q.1,.bl q.2]) (.of hb)
     cases rv with
     | cons ra rb=>
       cases rb with
       | cons rc rd=>
         cases rd
         obtain⟨t,rfl⟩:=ra
         cases rc
         refine⟨b::us,by rw[h1];rfl,by simp[h2],fun i u p hi hp=>?_⟩
         cases i with
         | zero=>
           simp at hi hp
           subst hi hp
           exact⟨o,t,n,e,hc,hd⟩
         | succ i=>exact h3 i u p (by simpa using hi) (by simpa using hp)
 | [],_,_::_,h,_=>h.elim
 | _::_,_,[],h,_=>h.elim
theorem Ywl(hc:X.calm=true)(hu:X.A.units+64 < cLine):Ycv X (.type "set") (y79 X.K X.w):=by
 intro pins s σ H xs us Q I r h
 obtain⟨a,ys,n,rfl,hq,hn,q⟩:=h
 obtain⟨u,rfl,rx⟩:=Yfb r
 cases rx
 have hh:X.A.handled=none:=I.ok.hd hc
 have hsb:scanBound=4096:=rfl
 obtain⟨its,rv,pl,hz⟩:=I.list hq
 rcases hn with⟨ns,rfl,hl,rfl⟩ | ⟨qs,hv,hd,rfl⟩
 ·have hlen:=rv.length
  rw[qe]at hlen
  refine Ym2 hh pl.isList (by simpa using Yv8 rv) (by rw[qj,hsb];lia) fun h' tk ms hS hp hk=>?_
  exact⟨.ref s.heap.objs.size,_,I.laid (t':=tk) (fun b o e=>hk b o (qk e) e) (qt _) (Ywi (by rw[←hp.length_eq];exact hS.count)),rfl,q _ (I.hok.fresh (qt _))⟩
 ·obtain⟨bs,e1,e2,e3⟩:=Ywk I hv rv
  have hls:s.heap.IsList a (bs.map Value.ref).toArray:=by rw[←e1];exact pl.isList
  have hl2:qs.length≤2:=by
   rcases qs with _ | ⟨p1,_ | ⟨p2,_ | ⟨p3,r⟩⟩⟩
   ·simp
   ·simp
   ·simp
   ·simp[Ywj]at hd
  have hdf:∀p q,qs=[p,q]→pH p≠pH q:=fun p q e=>by
   subst e
   simpa [Ywj]using hd
  refine Ylq hh (by lia) hls (by lia) e2.symm e3 hdf fun h' tk hS hk=>?_
  exact⟨.ref s.heap.objs.size,_,I.laid (t':=tk) hk (qt _) (Ywi (by rw[←e2];exact hS)),rfl,q _ (I.hok.fresh (qt _))⟩
noncomputable def y8a(w:World):List V→Hp→VK→Prop:=fun xs H Q=>∃a n,xs=[.ref a]∧H a=some (setC w a n)∧n < 4000∧Q (.int n) H
theorem Ywm:Ycv X (.builtin "len") (y8a X.w):=by
 intro pins s σ H xs us Q I r h
 obtain⟨a,n,rfl,ha,hn,q⟩:=h
 obtain⟨u,rfl,rx⟩:=Yfb r
 cases rx
 obtain⟨o,es,ep,t,h1,h2,h3,h4,h5⟩:SetN X.w s.heap a n:=(show ObjOk X.prog X.w H s.heap a (setC X.w a n) from I.hok a _ ha).1
 refine call_len_set h1 h2 h3 h5 (by rw[h4];lia) ?_
 exact⟨.int n,H,I.tok _,⟨_,by rw[h4]⟩,q⟩
end
noncomputable def prsD:List D→Option (List (Int × Bool))
 | []=>some []
 | d::l=>(prI d).bind fun x=>(prsD l).map (x::·)
theorem y0t{K:W.Frag}{G:Hp}{d:D}{p:Int × Bool}{x:V}(h:prI d=some p)(rx:Rp K G d x):∃b,x=.ref b∧G b=some (.tup [.int p.1,.bl p.2]):=by
 rw[Ym9 h,Rp]at rx
 obtain⟨b,ys,rfl,hb,ry⟩:=rx
 rw[RpL]at ry
 obtain⟨y1,yr,rfl,r1,ry⟩:=ry
 rw[RpL]at ry
 obtain⟨y2,yr,rfl,r2,ry⟩:=ry
 rw[RpL]at ry
 subst ry
 rw[Rp]at r1
 rw[Rp]at r2
 subst r1
 subst r2
 exact⟨b,rfl,hb⟩
theorem Yph{d:D}{l:List D}{ps:List (Int × Bool)}(e:prsD (d::l)=some ps):∃p ps',ps=p::ps'∧prI d=some p∧prsD l=some ps':=by
 obtain⟨x,h1,h2⟩:=qa e
 obtain⟨y,h3,h4⟩:=qb h2
 exact⟨x,y,h4.symm,h1,h3⟩
noncomputable def Ywn(l:List D):Option D:=match Yf5 l with
 | some ns=>if ns.length < 4000 then some (.int (ddup [] ns).length)else none
 | none=>(prsD l).bind fun ps=>if Ywj ps=true then some (.int ps.length)else none
noncomputable def Yko:List D→Option D
 | [.lst l]=>Ywn l
 | _=>none
theorem Ywo{K:W.Frag}{G H:Hp}(s:Same G H):∀{l:List D} {ps:List (Int × Bool)} {xs:List V},prsD l=some ps→RpL K G l xs→VPrs H xs ps
 | [],ps,xs,e,r=>by
   rw[prsD]at e
   cases e
   rw[RpL]at r
   subst r
   exact trivial
 | d::l,ps,xs,e,r=>by
   obtain⟨p,ps',rfl,h0,h1⟩:=Yph e
   rw[RpL]at r
   obtain⟨x,xr,rfl,rx,rr⟩:=r
   obtain⟨b,rfl,hb⟩:=y0t h0 rx
   exact⟨⟨b,rfl,s _ _ hb⟩,Ywo s h1 rr⟩
theorem Ys3:∀(l acc:List Int),(ddup acc l).length≤acc.length+l.length
 | [],acc=>by simp[ddup]
 | k::l,acc=>by
   rw[ddup]
   have:=Ys3 l (if k∈acc then acc else acc++[k])
   split at this
   ·rename_i h;rw[if_pos h];simp;lia
   ·rename_i h;rw[if_neg h];simp at this ⊢;lia
section
variable {X:Cx} {e:Expr} {ga:Ro→Option (List D)} {p p2 pos pos2:Pos}
theorem Ywp(hc:X.calm=true)(hu:X.A.units+64 < cLine)(hm:X.mg "len"=none)(hm2:X.mg "set"=none)(hg:Gl X "len")(hg2:Gl X "set")(ha:MCA X [e] ga)(hs:starEach [e] X.env=[(false,eval e X.env)]:=by rfl)
 (he:starEach [.Call (.Name "set" p2) [e] [] pos2] X.env=[(false,eval (.Call (.Name "set" p2) [e] [] pos2) X.env)]:=by rfl)
 (hpl:(backTo pos2 (starEach [] X.env)).any (·.1)=false:=by rfl) (hpl2:(backTo pos (starEach [] X.env)).any (·.1)=false:=by rfl) :
 ME X (.Call (.Name "len" p) [.Call (.Name "set" p2) [e] [] pos2] [] pos) (cC ga Yko):=
 PE.imp (Yfx Ywm hg hm (by decide +kernel) (Ydn (Yfc (Ywl hc hu) hg2 hm2 boot_set ha (by decide) (by decide) hs hpl) Ygz he) (by decide) (by decide) he hpl2) fun σ H Q hx_=>by
  obtain⟨ρ,d,H0,G0,G,e,s,h⟩:=hx_
  unfold cC at e
  obtain⟨ds,h1,e⟩:=qa e
  refine tCAof.at h1 s fun vs H1 G1 g1 r1 s1=>?_
  unfold Yko at e
  split at e
  case h_2=>cases e
  rename_i l
  obtain⟨v,rfl,rv⟩:=Yc5 r1
  rw[Ct]at rv
  obtain⟨a,xs,rfl,hq,rl⟩:=rv
  unfold Ywn at e
  split at e
  ·rename_i ns hns
   split at e
   case isFalse=>cases e
   rename_i hl
   cases e
   cases Yf1 hns
   cases Yjp rl
   refine⟨a,_,(ddup [] ns).length,rfl,.inl hq,.inl ⟨ns,rfl,hl,rfl⟩,fun m hm'=>?_⟩
   have g2:=Gr.hid s1.seen hm' (setC X.w m (ddup [] ns).length)
   refine⟨m,_,rfl,y0,by have:=Ys3 ns [];simp at this;lia,?_⟩
   exact h _ _ G1 (g1.trans g2) (by rw[Rp])
  ·obtain⟨ps,h2,e⟩:=qa e
   split at e
   case isFalse=>cases e
   rename_i hd
   cases e
   have hv:=Ywo s1.seen h2 rl
   refine⟨a,xs,ps.length,rfl,.inl hq,.inr ⟨ps,hv,hd,rfl⟩,fun m hm'=>?_⟩
   have g2:=Gr.hid s1.seen hm' (setC X.w m ps.length)
   refine⟨m,_,rfl,y0,?_,?_⟩
   ·rcases ps with _ | ⟨p1,_ | ⟨p2,_ | ⟨p3,r⟩⟩⟩
    ·simp
    ·simp
    ·simp
    ·simp[Ywj]at hd
   ·exact h _ _ G1 (g1.trans g2) (by rw[Rp])
end
end
section
noncomputable def setW(w:World)(p:Addr)(vs:List Value):HO:=.ext fun h=>SetV w h p vs
theorem Ywq{P:Program}{w:World}{H:Hp}{h:Heap}{p:Addr}{vs:List Value}(x:SetV w h p vs):ObjOk P w H h p (setW w p vs):=by
 refine⟨x,?_,fun h1 h2 e k=>e.at k⟩
 obtain⟨o,_,_,_,ho,_⟩:=x
 exact⟨o,ho⟩
def PrsA(H:Hp)(bs:List Addr)(qs:List (Int × Bool)):Prop:=qs.length=bs.length∧∀(i:Nat) b q,bs[i]?=some b→qs[i]?=some q→H b=some (.tup [.int q.1,.bl q.2])
noncomputable def oncP:List (Int × Bool)→List (Int × Bool)
 | [p1,p2]=>if p1=p2 then [p1]else [p1,p2]
 | ps=>ps
theorem PrsA.once{H:Hp}{bs:List Addr}{qs:List (Int × Bool)}(x:PrsA H bs qs)(h2:qs.length≤2):PrsA H (oncE bs qs) (oncP qs)∧(oncE bs qs).length≤2∧∀p q,oncP qs=[p,q]→p≠q:=by
 obtain⟨hl,hx⟩:=x
 rcases qs with _ | ⟨p1,_ | ⟨p2,_ | ⟨p3,pr⟩⟩⟩
 ·rcases bs with _ | ⟨b1,br⟩
  ·exact⟨⟨rfl,fun i b q h=>by simp[oncE]at h⟩,by simp[oncE],fun p q z=>by simp[oncP]at z⟩
  ·simp at hl
 ·rcases bs with _ | ⟨b1,_ | ⟨b2,br⟩⟩
  ·simp at hl
  ·exact⟨⟨rfl,hx⟩,by simp[oncE],fun p q z=>by simp[oncP]at z⟩
  ·simp at hl
 ·rcases bs with _ | ⟨b1,_ | ⟨b2,_ | ⟨b3,br⟩⟩⟩
  ·simp at hl
  ·simp at hl
  ·by_cases e:p1=p2
   ·subst e
    simp only[oncE,oncP,if_true]
    refine⟨⟨rfl,fun i b q hb hq=>?_⟩,by simp,fun p q z=>by simp at z⟩
    cases i with
    | zero=>exact hx 0 b q hb hq
    | succ i=>simp at hb
   ·simp only[oncE,oncP,if_neg e]
    refine⟨⟨rfl,hx⟩,by simp,fun p q z=>?_⟩
    simp at z
    rw[←z.1,←z.2]
    exact e
  ·simp at hl
 ·simp at h2
noncomputable def y6g(w:World):List V→Hp→VK→Prop:=fun xs H Q=>∃a vs bs qs,xs=[.ref a]∧H a=some (setW w a vs)∧vs.Perm (bs.map Value.ref)∧PrsA H bs qs∧bs.length≤2∧(∀p q,qs=[p,q]→p≠q)∧
 ∀p,H p=none→Q (.ref p) (upd H p (.lst ((srtA bs qs).map V.ref)))
section
variable {X:Cx}
theorem Ywr{pins:List (Addr × Obj)}{s:Shared}{σ:L2.St}{H:Hp}(I:Inv X pins σ H s){bs:List Addr}{qs:List (Int × Bool)}(x:PrsA H bs qs)(i:Nat)(u:Addr)(p:Int × Bool)(hu:bs[i]?=some u)(hp:qs[i]?=some p):PairV s.heap u p:=by
 obtain⟨its2,rv,⟨o,e,hc,n,hd⟩,_⟩:=I.tuple (xs:=[.int p.1,.bl p.2]) (.of (x.2 i u p hu hp))
 cases rv with
 | cons ra rb=>
   cases rb with
   | cons rc rd=>
     cases rd
     obtain⟨t,rfl⟩:=ra
     cases rc
     exact⟨o,t,n,e,hc,hd⟩
theorem Ykp:∀{bs:List Addr} {its:List Value},Vals (bs.map V.ref) its→its=bs.map Value.ref
 | [],_,r=>by cases r;rfl
 | b::bs,_,r=>by
   cases r with
   | cons r1 r2=>
     cases r1
     rw[Ykp r2]
     rfl
theorem Ykq:∀bs:List Addr,Vals (bs.map V.ref) (bs.map Value.ref)
 | []=>.nil
 | b::bs=>.cons rfl (Ykq bs)
theorem Yt8(hc:X.calm=true):Ycv X (.builtin "sorted") (y6g X.w):=by
 intro pins s σ H xs us Q I r h
 obtain⟨a,vs,bs,qs,rfl,ha,hpm,hpr,h2,hne,q⟩:=h
 obtain⟨u,rfl,rx⟩:=Yfb r
 cases rx
 have hh:X.A.handled=none:=I.ok.hd hc
 have hS:SetV X.w s.heap a vs:=(show ObjOk X.prog X.w H s.heap a (setW X.w a vs) from I.hok a _ ha).1
 refine Yrg hh hS hpm h2 hpr.1 (Ywr I hpr) hne fun h' d' tk e p keep hp he=>?_
 refine⟨.ref p,_,Inv.laid (t':=tk) (I.dr d') keep hp (show ObjOk X.prog X.w _ _ _ (.lst ((srtA bs qs).map V.ref)) from⟨?_,_,e,Ykq _,he⟩),rfl,q _ (I.hok.fresh hp)⟩
 have:(srtA bs qs).length≤2:=by
  unfold srtA
  split
  ·split<;>simp
  ·exact h2
 rw[qe,sizeLine_eq]
 lia
end
noncomputable def Yrh(l:List D):Option (List D):=(prsD l).bind fun ps=>match l,ps with
 | [],[]=>some []
 | [d],[_]=>some [d]
 | [d1,d2],[p1,p2]=>if p1=p2 then some [d1]else if pH p1≠pH p2 then some (if plt p2.1 p2.2 p1.1 p1.2=true then [d2,d1]else [d1,d2])else none
 | _,_=>none
theorem Yws{K:W.Frag}{G H:Hp}(s:Same G H):∀{l:List D} {ps:List (Int × Bool)} {xs:List V},prsD l=some ps→RpL K G l xs→∃bs,xs=bs.map V.ref∧PrsA H bs ps
 | [],ps,xs,e,r=>by
   rw[prsD]at e
   cases e
   rw[RpL]at r
   subst r
   exact⟨[],rfl,rfl,fun i b q h=>by simp at h⟩
 | d::l,ps,xs,e,r=>by
   obtain⟨p,ps',rfl,h0,h1⟩:=Yph e
   rw[RpL]at r
   obtain⟨x,xr,rfl,rx,rr⟩:=r
   obtain⟨bs,rfl,hl,hx⟩:=Yws s h1 rr
   obtain⟨b,rfl,hb⟩:=y0t h0 rx
   refine⟨b::bs,rfl,by simp[hl],fun j c q hc hq=>?_⟩
   cases j with
   | zero=>
     simp at hc hq
     subst hc hq
     exact s _ _ hb
   | succ j=>exact hx j c q (by simpa using hc) (by simpa using hq)
theorem Yzd{K:W.Frag}{G:Hp}{l l':List D}{bs:List Addr}{ps:List (Int × Bool)}(h:Yrh l=some l')(hps:prsD l=some ps)(r:RpL K G l (bs.map V.ref)) :
 ps.length≤2∧(∀p q,ps=[p,q]→p=q∨pH p≠pH q)∧RpL K G l' ((srtA (oncE bs ps) (oncP ps)).map V.ref):=by
 unfold Yrh at h
 rw[hps,qc]at h
 split at h
 ·cases h
  rcases bs with _ | ⟨b1,br⟩
  ·exact⟨by simp,fun p q z=>by simp at z,r⟩
  ·have:=r.length
   simp at this
 ·rename_i d p1
  cases h
  rcases bs with _ | ⟨b1,_ | ⟨b2,br⟩⟩
  ·have:=r.length
   simp at this
  ·exact⟨by simp,fun p q z=>by simp at z,r⟩
  ·have:=r.length
   simp at this
 ·rename_i d1 d2 p1 p2
  rcases bs with _ | ⟨b1,_ | ⟨b2,_ | ⟨b3,br⟩⟩⟩
  ·have:=r.length
   simp at this
  ·have:=r.length
   simp at this
  ·have r0:=r
   rw[Qc,Qc,List.map_nil,RpL]at r0
   obtain⟨x1,xr,e1,ra,r0⟩:=r0
   rw[RpL]at r0
   obtain⟨x2,xr2,e2,rb,r0⟩:=r0
   cases e1
   cases e2
   by_cases e:p1=p2
   ·rw[if_pos e]at h
    cases h
    refine⟨by simp,fun p q z=>?_,?_⟩
    ·simp at z
     exact .inl (by rw[←z.1,←z.2];exact e)
    ·simp only[oncE,oncP,if_pos e,srtA]
     exact .one ra
   ·rw[if_neg e]at h
    split at h
    case isFalse=>cases h
    rename_i hd
    cases h
    refine⟨by simp,fun p q z=>?_,?_⟩
    ·simp at z
     exact .inr (by rw[←z.1,←z.2];exact hd)
    ·simp only[oncE,oncP,if_neg e,srtA]
     split
     ·exact .cons rb (.one ra)
     ·exact .cons ra (.one rb)
  ·have:=r.length
   simp at this
 ·cases h
section
variable {X:Cx} {e:Expr} {f:Ro→Option D} {p p2 pos pos2:Pos}
noncomputable def lstL:D→Option (List D)
 | .lst l=>some l
 | _=>none
@[simp] theorem lstL_lst(l:List D):lstL (.lst l)=some l:=nr0 rfl
end
end
section
set_option maxRecDepth 100000
theorem Ywt(h:Int):SetTable.bits h < 32 ^ 13:=by
 unfold SetTable.bits
 have:h % (2 ^ 64:Int) < 2 ^ 64:=Int.emod_lt_of_pos _ (by decide)
 have h2:0≤h % (2 ^ 64:Int):=Int.emod_nonneg _ (by decide)
 have:(h % (2 ^ 64:Int)).toNat < 2 ^ 64:=by lia
 exact Qd this (by decide)
theorem Ywu{mask:Nat}{owner:Array (Option Nat)}(hm:mask+1∈sizes){j:Nat}(hj:j < mask+1)(ho:owner.getD j (some 0)=none):∀(m fuel i p:Nat),p < 32 ^ m→i < mask+1→m+mask+1≤fuel→∃j,SetTable.layClean.free mask owner fuel i p=some j∧owner.getD j (some 0)=none
 | 0,fuel,i,p,hp,hi,hf=>by
   have hz:p=0:=by simp at hp;lia
   subst hz
   obtain⟨k,hk,e2⟩:=y0p hm hi hj
   exact Ypd k _ _ (by lia) (by rw[e2];exact ho)
 | m+1,0,i,p,hp,hi,hf=>absurd hf (by lia)
 | m+1,fuel+1,i,p,hp,hi,hf=>by
   rcases Ypc (mask:=mask) (owner:=owner) fuel i p with h1 | ⟨_,h2⟩
   ·exact h1
   ·rw[h2]
    refine Ywu hm hj ho m fuel _ _ ?_ (Nat.mod_lt _ (by lia)) (by lia)
    rw[Nat.div_lt_iff_lt_mul (by decide),←Nat.pow_succ]
    exact hp
theorem Yze{mask:Nat}{owner:Array (Option Nat)}(hm:mask+1∈sizes){i p:Nat}(hi:i < mask+1)(hp:p < 32 ^ 13)(hf:∃j,j < mask+1∧owner.getD j (some 0)=none):∃j,SetTable.layClean.free mask owner (SetTable.turns mask) i p=some j∧owner.getD j (some 0)=none:=by
 obtain⟨j,hj,ho⟩:=hf
 exact Ywu hm hj ho 13 _ i p hp hi (by show _≤mask+15;lia)
noncomputable def advM(mask:Nat)(p:SetTable.Probe):SetTable.Probe:=SetTable.advance { mask:=mask,place:=#[],dummies:=#[],finger:=0,led:=false,moves:=0,plain:=false } p
noncomputable def itP(mask:Nat):Nat→SetTable.Probe→SetTable.Probe
 | 0,p=>p
 | k+1,p=>itP mask k (advM mask p)
theorem Ynd(mask:Nat):∀(a b:Nat) (p:SetTable.Probe),itP mask (a+b) p=itP mask b (itP mask a p)
 | 0,b,p=>by rw[Nat.zero_add];rfl
 | a+1,b,p=>by rw[Nat.succ_add];exact Ynd mask a b _
noncomputable def stP(mask i perturb:Nat):SetTable.Probe:={ j:=i,more:=SetTable.runEnd mask i - i,i,perturb,dummy:=none }
def Way(mask:Nat)(occ:Nat→Prop)(p:SetTable.Probe)(j:Nat):Prop:=∃k,(itP mask k p).j=j∧∀m,m < k→occ (itP mask m p).j
theorem Way.mono{mask:Nat}{occ occ':Nat→Prop}{p:SetTable.Probe}{j:Nat}(h:Way mask occ p j)(ho:∀x,occ x→occ' x):Way mask occ' p j:=by
 obtain⟨k,h1,h2⟩:=h
 exact⟨k,h1,fun m hm=>ho _ (h2 m hm)⟩
theorem Ykr(mask:Nat):∀(k:Nat) (p:SetTable.Probe),k≤p.more→itP mask k p={ p with j:=p.j+k,more:=p.more - k }
 | 0,p,_=>rfl
 | k+1,p,h=>by
   have e:advM mask p={ p with j:=p.j+1,more:=p.more - 1 }:=by
    unfold advM SetTable.advance
    rw[if_pos (by lia)]
   show itP mask k (advM mask p)=_
   rw[e,Ykr mask k _ (by show k≤p.more - 1;lia)]
   simp only[SetTable.Probe.mk.injEq,true_and,and_true]
   exact⟨by lia,by lia⟩
theorem Ys4(mask i perturb:Nat):itP mask (SetTable.runEnd mask i - i+1) (stP mask i perturb)=stP mask ((i * 5+1+perturb / 32) % (mask+1)) (perturb / 32):=by
 rw[Ynd,Ykr mask (SetTable.runEnd mask i - i) (stP mask i perturb) (qt _)]
 show advM mask _=_
 unfold advM SetTable.advance
 rw[if_neg (by show ¬(SetTable.runEnd mask i - i - (SetTable.runEnd mask i - i) > 0);lia)]
 rfl
theorem Ywv{mask i:Nat}(h:i < mask+1):i+(SetTable.runEnd mask i - i)≤mask:=by
 unfold SetTable.runEnd
 split<;>lia
theorem Ys5{mask:Nat}{owner:Array (Option Nat)}:∀(fuel i perturb:Nat) {j:Nat},i < mask+1→SetTable.layClean.free mask owner fuel i perturb=some j→Way mask (fun x=>x < mask+1∧owner.getD x (some 0)≠none) (stP mask i perturb) j
 | 0,_,_,_,_,h=>by rw[SetTable.layClean.free]at h;cases h
 | fuel+1,i,perturb,j,hi,h=>by
   have hri:=Ywv hi
   have hir:i≤SetTable.runEnd mask i:=by unfold SetTable.runEnd;split<;>lia
   rw[SetTable.layClean.free]at h
   cases e:(List.range (SetTable.runEnd mask i+1 - i)).find? (fun k=>(owner.getD (i+k) (some 0)).isNone)with
   | some k=>
     rw[e]at h
     cases h
     obtain⟨hk1,as,bs,hk2,hk3⟩:=List.find?_eq_some_iff_append.mp e
     have hkl:k < SetTable.runEnd mask i+1 - i:=by
      have:k∈List.range (SetTable.runEnd mask i+1 - i):=by rw[hk2];simp
      exact Qa this
     refine⟨k,by rw[Ykr mask k _ (by show k≤SetTable.runEnd mask i - i;lia)];rfl,fun m hm=>?_⟩
     rw[Ykr mask m _ (by show m≤SetTable.runEnd mask i - i;lia)]
     refine⟨show i+m < mask+1 by lia,?_⟩
     show owner.getD (i+m) (some 0)≠none
     have hma:m∈as:=by
      have hl:as.length=k:=by
       have h1:(as++k::bs)[as.length]?=some k:=by simp
       rw[←hk2]at h1
       obtain⟨h2,h3⟩:=qm h1
       rw[List.getElem_range]at h3
       exact h3
      have h1:(as++k::bs)[m]?=some m:=by
       rw[←hk2,List.getElem?_range (by lia)]
      rw[List.getElem?_append_left (by lia)]at h1
      exact List.mem_of_getElem? h1
     have:=hk3 m hma
     intro z
     simp[z]at this
   | none=>
     rw[e]at h
     have ih:=Ys5 fuel _ _ (j:=j) (Nat.mod_lt _ (by lia)) h
     obtain⟨k,h1,h2⟩:=ih
     have hall:∀m,m < SetTable.runEnd mask i - i+1→owner.getD (i+m) (some 0)≠none:=fun m hm z=>by
      have:=List.find?_eq_none.mp e m (List.mem_range.mpr (by lia))
      simp[z]at this
     refine⟨SetTable.runEnd mask i - i+1+k,by rw[Ynd,Ys4];exact h1,fun m hm=>?_⟩
     by_cases hm2:m < SetTable.runEnd mask i - i+1
     ·rw[Ykr mask m _ (by show m≤SetTable.runEnd mask i - i;lia)]
      exact⟨show i+m < mask+1 by lia,hall m hm2⟩
     ·obtain⟨m',rfl⟩:∃m',m=SetTable.runEnd mask i - i+1+m':=⟨m - (SetTable.runEnd mask i - i+1),by lia⟩
      rw[Ynd,Ys4]
      exact h2 m' (by lia)
noncomputable abbrev hSt(mask:Nat)(h:Int):SetTable.Probe:=stP mask (SetTable.bits h % (mask+1)) (SetTable.bits h)
theorem Yww{mask:Nat}(hm:mask+1∈sizes):∀(hs:List Int) (owner:Array (Option Nat)) (k:Nat),owner.size=mask+1→((List.range (mask+1)).filterMap fun j=>owner.getD j none).Perm (List.range k)→k+hs.length≤mask→
 ∀H:Nat→Int,(∀i v,hs[i]?=some v→H (k+i)=v)→(∀j x,owner.getD j none=some x→Way mask (fun y=>owner.getD y none≠none) (hSt mask (H x)) j)→∃owner',(∀j x,owner'.getD j none=some x→Way mask (fun y=>owner'.getD y none≠none) (hSt mask (H x)) j)∧(hs.foldl (init:=some (owner,k)) fun acc h=>do
  let (owner,k) ←acc
  let j ←SetTable.layClean.free mask owner (SetTable.turns mask) (SetTable.bits h % (mask+1)) (SetTable.bits h)
  pure (owner.setIfInBounds j (some k),k+1))=some (owner',k+hs.length)∧owner'.size=mask+1∧((List.range (mask+1)).filterMap fun j=>owner'.getD j none).Perm (List.range (k+hs.length))
 | [],owner,k,h1,h2,_=>fun _ _ hw=>⟨owner,hw,rfl,h1,h2⟩
 | h::hs,owner,k,h1,h2,h3=>by
   intro H hH hw
   have hfree:∃j,j < mask+1∧owner.getD j (some 0)=none:=Classical.byContradiction fun hno=>by
    have hl:=h2.length_eq
    rw[List.length_range]at hl
    have all:∀j∈List.range (mask+1),(owner.getD j none).isSome=true:=fun j hj=>by
     have hj':=Qa hj
     have:owner.getD j (some 0)≠none:=fun z=>hno ⟨j,hj',z⟩
     have hj2:j < owner.size:=by lia
     simp only[Array.getD,hj2,dif_pos]at this ⊢
     exact Option.isSome_iff_ne_none.mpr this
    have:((List.range (mask+1)).filterMap fun j=>owner.getD j none).length=(List.range (mask+1)).length:=by
     generalize List.range (mask+1)=l at all
     induction l with
     | nil=>rfl
     | cons x l ih=>
       obtain⟨v,hv⟩:=Option.isSome_iff_exists.mp (all x qg)
       rw[List.filterMap_cons_some (f:=fun j=>owner.getD j none) hv,qq,qq,ih fun j hj=>all j (qf _ hj)]
    rw[List.length_range]at this
    simp at h3
    lia
   obtain⟨j,hj,ho⟩:=Yze hm (owner:=owner) (i:=SetTable.bits h % (mask+1)) (p:=SetTable.bits h) (Nat.mod_lt _ (by lia)) (Ywt h) hfree
   have hjs:j < owner.size:=Classical.byContradiction fun z=>by
    simp only[Array.getD,z,dif_neg,not_false_eq_true]at ho
    cases ho
   have honone:owner.getD j none=none:=by
    simp only[Array.getD,hjs,dif_pos]at ho ⊢
    exact ho
   have hp:=y0q (f:=fun x=>owner.getD x none) (g:=fun x=>(owner.setIfInBounds j (some k)).getD x none) (j:=j) (k:=k) honone (by simp[Array.getD,hjs]) (l:=List.range (mask+1)) List.nodup_range (List.mem_range.mpr (by lia)) fun x hx hne=>by
    have hx':=Qa hx
    have hx2:x < owner.size:=by lia
    simp[Array.getD,hx2,Array.getElem_setIfInBounds,Ne.symm hne]
   have hp2:((List.range (mask+1)).filterMap fun x=>(owner.setIfInBounds j (some k)).getD x none).Perm (List.range (k+1)):=by
    rw[show List.range (k+1)=List.range k++[k] from List.range_succ]
    exact(hp.trans (h2.cons k)).trans (List.perm_append_comm (l₁:=[k]))
   have hocc:∀y,owner.getD y none≠none→(owner.setIfInBounds j (some k)).getD y none≠none:=fun y hy=>by
    by_cases hys:y < owner.size
    ·by_cases e:j=y
     ·subst e;simp[Array.getD,hjs]
     ·simp[Array.getD,hys,Array.getElem_setIfInBounds,e]at hy ⊢
      exact hy
    ·simp[Array.getD,hys]at hy
   have hwj:Way mask (fun y=>(owner.setIfInBounds j (some k)).getD y none≠none) (hSt mask h) j:=(Ys5 _ _ _ (Nat.mod_lt _ (by lia)) hj).mono fun y hy=>by
    have hys:y < owner.size:=by lia
    have hy2:=hy.2
    refine hocc y ?_
    simp only[Array.getD,hys,dif_pos]at hy2 ⊢
    exact hy2
   obtain⟨owner',e0,e1,e2,e3⟩:=Yww hm hs (owner.setIfInBounds j (some k)) (k+1) (by simpa using h1) hp2 (by simp at h3;lia) H (fun i v hv=>by rw[show k+1+i=k+(i+1) by lia];exact hH (i+1) v (by simpa using hv)) (fun y x hx=>by
    by_cases e:j=y
    ·subst e
     have hxk:x=k:=by simpa [Array.getD,hjs]using hx.symm
     rw[hxk,show H k=h from hH 0 h rfl]
     exact hwj
    ·have:owner.getD y none=some x:=by
      by_cases hys:y < owner.size
      ·simpa [Array.getD,hys,Array.getElem_setIfInBounds,e]using hx
      ·simp[Array.getD,hys]at hx
     exact(hw y x this).mono hocc)
   refine⟨owner',e0,?_,e2,?_⟩
   ·rw[List.foldl_cons]
    have:(do
     let (owner,k) ←some (owner,k)
     let j ←SetTable.layClean.free mask owner (SetTable.turns mask) (SetTable.bits h % (mask+1)) (SetTable.bits h)
     pure (owner.setIfInBounds j (some k),k+1))=some (owner.setIfInBounds j (some k),k+1):=by
     simp[hj]
    rw[this,e1,qq]
    congr 2
    lia
   ·rw[qq,show k+(hs.length+1)=k+1+hs.length by lia]
    exact e3
theorem Yzf{mask finger moves:Nat}{led plain:Bool}(hm:mask+1∈sizes)(hs:Array Int)(hn:hs.size≤mask):∃t o,SetTable.laid mask finger moves led plain hs=some (t,o)∧o.toList.Perm (List.range hs.size)∧t.place.size=hs.size∧t.dummies=#[]∧t.mask=mask∧t.plain=plain∧(∀j∈t.place.toList,j≤mask)∧∀q∈o.toList.zip t.place.toList,Way mask (·∈t.place.toList) (hSt mask (hs.toList.getD q.1 0)) q.2:=by
 have hinit:((List.range (mask+1)).filterMap fun j=>(Array.replicate (mask+1) (none:Option Nat)).getD j none)=[]:=by
  rw[List.filterMap_eq_nil_iff]
  intro j hj
  have:=Qa hj
  simp[Array.getD,this]
 obtain⟨owner,e0,e1,e2,e3⟩:=Yww hm hs.toList (Array.replicate (mask+1) none) 0 (by simp) (by rw[hinit];exact .refl _) (by simpa using hn) (fun x=>hs.toList.getD x 0) (fun i v hv=>by rw[Nat.zero_add,List.getD_eq_getElem?_getD,hv];rfl) (fun j x hx=>by
  exfalso
  by_cases hj:j < mask+1
  ·simp[Array.getD,hj]at hx
  ·simp[Array.getD,hj]at hx)
 have hlc:SetTable.layClean mask hs=some owner:=by
  unfold SetTable.layClean
  rw[←Array.foldl_toList]
  rw[e1]
  rfl
 have h2:((List.range (mask+1)).filterMap fun j=>(owner.getD j none).map (j,·)).map (·.2)=(List.range (mask+1)).filterMap fun j=>owner.getD j none:=by
  rw[List.map_filterMap]
  refine Yhd fun j _=>?_
  cases owner.getD j none<;>rfl
 refine⟨_,_,by unfold SetTable.laid;rw[hlc];rfl,?_,?_,rfl,rfl,rfl,fun j hj=>?_,fun q hq=>?_⟩
 ·simp only[List.toList_toArray]
  rw[h2]
  simpa using e3
 ·have:=e3.length_eq
  rw[←h2,qe]at this
  simpa using this
 ·simp only[List.toList_toArray]at hj
  obtain⟨q,hq,rfl⟩:=qw hj
  obtain⟨i,hi,e⟩:=List.mem_filterMap.mp hq
  obtain⟨k,_,rfl⟩:=qb e
  exact Nat.le_of_lt_succ (Qa hi)
 ·simp only[List.toList_toArray,List.zip_map',List.mem_map]at hq
  obtain⟨x,hx,rfl⟩:=hq
  obtain⟨i,hi,e⟩:=List.mem_filterMap.mp hx
  obtain⟨k,hk,rfl⟩:=qb e
  refine(e0 i k hk).mono fun y hy=>?_
  have hys:y < owner.size:=Classical.byContradiction fun z=>by simp[Array.getD,z]at hy
  obtain⟨v,hv⟩:=Option.ne_none_iff_exists'.mp hy
  simp only[List.toList_toArray]
  exact List.mem_map.mpr ⟨(y,v),List.mem_filterMap.mpr ⟨y,List.mem_range.mpr (by lia),by rw[hv];rfl⟩,rfl⟩
section
variable {t:SetTable} {hA:Nat→Int} {h:Int}
theorem Ye1(hr:Rise t.place)(hd:t.dummies=#[])(j:Nat):(j∉t.place.toList∧t.slot j=.empty)∨(∃i,t.slot j=.live i∧t.place.toList[i]?=some j):=by
 unfold SetTable.slot
 dsimp only
 cases e:t.place[SetTable.below t.place j]? with
 | none=>
   left
   refine⟨fun hm=>?_,?_⟩
   ·obtain⟨h1,h2,h3⟩:=Yf0 hr j
    rw[←Qk (SetTable.below t.place j) t.place.toList]at hm
    rcases qu hm with z | z
    ·exact absurd (h2 j z) (Qf _)
    ·rw[←Array.getElem?_toList]at e
     have:t.place.toList.drop (SetTable.below t.place j)=[]:=List.drop_eq_nil_of_le (List.getElem?_eq_none_iff.mp e)
     rw[this]at z
     exact nomatch z
   ·rw[if_neg (by simp),hd]
    rfl
 | some x=>
   by_cases hx:x=j
   ·right
    refine⟨SetTable.below t.place j,by rw[if_pos (by simp[hx])],by rw[Array.getElem?_toList,e,hx]⟩
   ·left
    refine⟨fun hm=>?_,?_⟩
    ·obtain⟨h1,h2,h3⟩:=Yf0 hr j
     rw[←Array.getElem?_toList]at e
     rw[←Qk (SetTable.below t.place j) t.place.toList]at hm
     rcases qu hm with z | z
     ·exact absurd (h2 j z) (Qf _)
     ·have hlt:=(qm e).1
      have hdr:=List.drop_eq_getElem_cons hlt
      have hxe:t.place.toList[SetTable.below t.place j]=x:=(qm e).2
      rw[hxe]at hdr
      have hxj:j≤x:=h3 x (by rw[hdr];exact qg)
      have hpw:(x::t.place.toList.drop (SetTable.below t.place j+1)).Pairwise (· < ·):=by
       rw[←hdr]
       exact hr.sublist (List.drop_sublist _ _)
      rw[hdr]at z
      rcases qr z with z | z
      ·exact hx z.symm
      ·have:=(List.pairwise_cons.mp hpw).1 j z
       lia
    ·rw[if_neg (by simp[hx]),hd]
     rfl
def Yzg(t:SetTable)(hA:Nat→Int)(h:Int)(r:Option SetTable.Met):Prop:=
 (∃j,r=some (.empty j none)∧t.slot j=.empty∧j≤t.mask)∨(∃j i nx,r=some (.candidate j i nx)∧t.slot j=.live i∧(hA i==h)=true)
theorem Yzh{p:SetTable.Probe}(hp:p.more > 0):t.advance p={ p with j:=p.j+1,more:=p.more - 1 }:=by
 unfold SetTable.advance
 rw[if_pos hp]
theorem Yzi{p:SetTable.Probe}(hp:p.more=0):t.advance p={ p with j:=(p.i * 5+1+p.perturb / 32) % (t.mask+1),more:=SetTable.runEnd t.mask ((p.i * 5+1+p.perturb / 32) % (t.mask+1)) - (p.i * 5+1+p.perturb / 32) % (t.mask+1),i:=(p.i * 5+1+p.perturb / 32) % (t.mask+1),perturb:=p.perturb / 32 }:=by
 unfold SetTable.advance
 rw[if_neg (by lia)]
 rfl
theorem y0u(mask i:Nat):SetTable.runEnd mask i - i≤9:=by
 unfold SetTable.runEnd
 split<;>lia
theorem Ys6(hr:Rise t.place)(hd:t.dummies=#[]):∀(more fuel:Nat) (p:SetTable.Probe),p.more=more→p.dummy=none→p.j+p.more≤t.mask→more+1≤fuel→
 Yzg t hA h (SetTable.probe.go t hA h fuel p)∨(t.slot p.j≠.empty∧∃p':SetTable.Probe,SetTable.probe.go t hA h fuel p=SetTable.probe.go t hA h (fuel - (more+1)) p'∧p'.i=(p.i * 5+1+p.perturb / 32) % (t.mask+1)∧p'.j=p'.i∧p'.perturb=p.perturb / 32∧p'.more≤9∧p'.dummy=none∧p'.j+p'.more≤t.mask)
 | _,0,_,_,_,_,hf=>absurd hf (by lia)
 | 0,fuel+1,p,hm,hdm,hb,_=>by
   rw[SetTable.probe.go]
   rcases Ye1 hr hd p.j with⟨_,e⟩ | ⟨i,e,_⟩
   ·left;left
    exact⟨p.j,by rw[e,hdm],e,by lia⟩
   ·rw[e]
    dsimp only
    cases hc:(hA i==h)with
    | true=>left;right;exact⟨p.j,i,_,by rw[if_pos rfl],e,hc⟩
    | false=>
      right
      refine⟨by simp,t.advance p,?_,?_⟩
      ·rw[if_neg qh,show fuel+1 - (0+1)=fuel by lia]
      ·rw[Yzi hm]
       exact⟨rfl,rfl,rfl,y0u _ _,hdm,Ywv (Nat.mod_lt _ (by lia))⟩
 | more+1,fuel+1,p,hm,hdm,hb,hf=>by
   rw[SetTable.probe.go]
   rcases Ye1 hr hd p.j with⟨_,e⟩ | ⟨i,e,_⟩
   ·left;left
    exact⟨p.j,by rw[e,hdm],e,by lia⟩
   ·rw[e]
    dsimp only
    cases hc:(hA i==h)with
    | true=>left;right;exact⟨p.j,i,_,by rw[if_pos rfl],e,hc⟩
    | false=>
      rw[if_neg qh,Yzh (by lia)]
      rcases Ys6 hr hd more fuel { p with j:=p.j+1,more:=p.more - 1 } (by show p.more - 1=more;lia) hdm (by show p.j+1+(p.more - 1)≤t.mask;lia) (by lia)with z | ⟨_,p',z1,z2⟩
      ·exact .inl z
      ·right
       refine⟨by simp,p',?_,z2⟩
       rw[z1,show fuel+1 - (more+1+1)=fuel - (more+1) by lia]
theorem Ywx(hr:Rise t.place)(hd:t.dummies=#[]):∀(k fuel:Nat) (p:SetTable.Probe),p.j=p.i→p.perturb=0→p.more≤9→p.dummy=none→p.j+p.more≤t.mask→t.slot (lcgN (t.mask+1) k p.i)=.empty→10 * (k+1)≤fuel→Yzg t hA h (SetTable.probe.go t hA h fuel p)
 | 0,fuel,p,hj,h0,hm,hdm,hb,he,hf=>by
   rcases Ys6 (hA:=hA) (h:=h) hr hd p.more fuel p rfl hdm hb (by lia)with z | ⟨z,_⟩
   ·exact z
   ·rw[hj]at z
    exact absurd he z
 | k+1,fuel,p,hj,h0,hm,hdm,hb,he,hf=>by
   rcases Ys6 (hA:=hA) (h:=h) hr hd p.more fuel p rfl hdm hb (by lia)with z | ⟨_,p',z1,z2,z3,z4,z5,z6,z7⟩
   ·exact z
   ·rw[z1]
    refine Ywx hr hd k _ p' z3 (by rw[z4,h0]) z5 z6 z7 ?_ (by lia)
    rw[z2,h0]
    exact he
theorem y0v(hs:t.mask+1∈sizes)(hr:Rise t.place)(hd:t.dummies=#[]){j0:Nat}(hj0:j0 < t.mask+1)(he:t.slot j0=.empty):∀(m fuel:Nat) (p:SetTable.Probe),p.j=p.i→p.i < t.mask+1→p.perturb < 32 ^ m→p.more≤9→p.dummy=none→p.j+p.more≤t.mask→10 * (m+t.mask+1)≤fuel→Yzg t hA h (SetTable.probe.go t hA h fuel p)
 | 0,fuel,p,hj,hi,h0,hm,hdm,hb,hf=>by
   have hz:p.perturb=0:=by simp at h0;lia
   obtain⟨k,hk,e2⟩:=y0p hs hi hj0
   exact Ywx hr hd k fuel p hj hz hm hdm hb (by rw[e2];exact he) (by lia)
 | m+1,fuel,p,hj,hi,h0,hm,hdm,hb,hf=>by
   rcases Ys6 (hA:=hA) (h:=h) hr hd p.more fuel p rfl hdm hb (by lia)with z | ⟨_,p',z1,z2,z3,z4,z5,z6,z7⟩
   ·exact z
   ·rw[z1]
    refine y0v hs hr hd hj0 he m _ p' z3 (by rw[z2];exact Nat.mod_lt _ (by lia)) ?_ z5 z6 z7 (by lia)
    rw[z4,Nat.div_lt_iff_lt_mul (by decide),←Nat.pow_succ]
    exact h0
theorem Ys7(hr:Rise t.place)(hd:t.dummies=#[]):∀(fuel:Nat) (p:SetTable.Probe) {j:Nat} {d:Option Nat},SetTable.probe.go t hA h fuel p=some (.empty j d)→Way t.mask (·∈t.place.toList) p j
 | 0,_,_,_,e=>by rw[SetTable.probe.go]at e;cases e
 | fuel+1,p,j,d,e=>by
   rw[SetTable.probe.go]at e
   rcases Ye1 hr hd p.j with⟨_,z⟩ | ⟨i,z,z2⟩
   ·rw[z]at e
    cases e
    exact⟨0,rfl,fun m hm=>absurd hm (Nat.not_lt_zero _)⟩
   ·rw[z]at e
    dsimp only at e
    split at e
    ·cases e
    ·obtain⟨k,h1,h2⟩:=Ys7 hr hd fuel _ e
     refine⟨k+1,h1,fun m hm=>?_⟩
     cases m with
     | zero=>exact List.mem_of_getElem? z2
     | succ m=>exact h2 m (by lia)
theorem Ys8(hr:Rise t.place)(hd:t.dummies=#[]){i j:Nat}(hs:t.slot j=.live i)(hi:(hA i==h)=true):∀(k fuel:Nat) (p:SetTable.Probe),(itP t.mask k p).j=j→(∀m,m < k→(itP t.mask m p).j∈t.place.toList)→∀j' d,SetTable.probe.go t hA h fuel p≠some (.empty j' d)
 | _,0,_,_,_,_,_=>by rw[SetTable.probe.go];exact fun z=>nomatch z
 | 0,fuel+1,p,h1,_,j',d=>by
   have h1':p.j=j:=h1
   rw[SetTable.probe.go,h1',hs]
   dsimp only
   rw[hi,if_pos rfl]
   exact fun z=>nomatch z
 | k+1,fuel+1,p,h1,h2,j',d=>by
   rw[SetTable.probe.go]
   rcases Ye1 hr hd p.j with⟨z,_⟩ | ⟨i',z,_⟩
   ·exact absurd (h2 0 (Nat.succ_pos _)) z
   ·rw[z]
    dsimp only
    split
    ·exact fun z=>nomatch z
    ·exact Ys8 hr hd hs hi k fuel _ h1 (fun m hm=>h2 (m+1) (by lia)) j' d
structure Clean(t:SetTable)(n:Nat):Prop where
 hs:t.mask+1∈sizes
 dm:t.dummies=#[]
 rise:Rise t.place
 le:∀j∈t.place.toList,j≤t.mask
 sz:t.place.size=n
 room:n≤t.mask
theorem Clean.probe{n:Nat}(c:Clean t n):Yzg t hA h (t.probe hA h (t.probeStart h)):=by
 have hfree:∃j,j < t.mask+1∧j∉t.place.toList:=Classical.byContradiction fun hno=>by
  have hsub:List.range (t.mask+1)⊆t.place.toList:=fun j hj=>Classical.byContradiction fun z=>hno ⟨j,Qa hj,z⟩
  have:=List.Nodup.length_le_of_subset List.nodup_range hsub
  rw[List.length_range,qi,c.sz]at this
  have:=c.room
  lia
 obtain⟨j0,h1,h2⟩:=hfree
 have he:t.slot j0=.empty:=by
  rcases Ye1 c.rise c.dm j0 with z | ⟨i,_,z⟩
  ·exact z.2
  ·exact absurd (List.mem_of_getElem? z) h2
 unfold SetTable.probe
 exact y0v c.hs c.rise c.dm h1 he 13 _ _ rfl (Nat.mod_lt _ (by lia)) (Ywt h) (y0u _ _) rfl (Ywv (Nat.mod_lt _ (by lia))) (by show _≤10 * (t.mask+15);lia)
theorem Clean.put{n:Nat}(c:Clean t n){j:Nat}(hj:t.slot j=.empty)(hjm:j≤t.mask)(hroom:n+1≤t.mask):Clean { t with place:=SetTable.insertAt t.place (SetTable.below t.place j) j } (n+1):=by
 have hns:j∉t.place.toList:=by
  rcases Ye1 c.rise c.dm j with z | ⟨i,z,_⟩
  ·exact z.1
  ·rw[hj]at z;cases z
 refine⟨c.hs,c.dm,Yge c.rise j (Yj6 fun i z=>by rw[hj]at z;cases z),fun x hx=>?_,by rw[Yhe,c.sz],hroom⟩
 have hx':x∈(SetTable.insertAt t.place (SetTable.below t.place j) j).toList:=hx
 rw[Yae]at hx'
 rcases qu hx' with z | z
 ·exact c.le x (List.mem_of_mem_take z)
 ·rcases qr z with rfl | z
  ·exact hjm
  ·exact c.le x (List.mem_of_mem_drop z)
end
end
section
set_option maxRecDepth 100000
noncomputable def bI(b:Bool):Int:=if b then 1 else 0
noncomputable def bH(bs:List Bool):Int:=y2a (bs.map bI)
noncomputable def Ypi:Nat→List (List Bool)
 | 0=>[[]]
 | n+1=>[]::((Ypi n).map (false::·)++(Ypi n).map (true::·))
theorem Yia:∀(n:Nat) (bs:List Bool),bs.length≤n→bs∈Ypi n
 | 0,[],_=>qg
 | 0,_::_,h=>by simp at h
 | n+1,[],_=>qg
 | n+1,b::bs,h=>by
   have ih:=Yia n bs (by simp at h;lia)
   refine qf _ (List.mem_append.mpr ?_)
   cases b
   ·exact .inl (List.mem_map_of_mem ih)
   ·exact .inr (List.mem_map_of_mem ih)
theorem y6h:((Ypi 4).all fun a=>(Ypi 4).all fun b=>a==b||bH a != bH b)=true:=by decide +kernel
theorem y0w{a b:List Bool}(ha:a.length≤4)(hb:b.length≤4)(h:bH a=bH b):a=b:=by
 have h1:=List.all_eq_true.mp y6h a (Yia 4 a ha)
 have h2:=List.all_eq_true.mp h1 b (Yia 4 b hb)
 rw[Bool.or_eq_true]at h2
 rcases h2 with z | z
 ·simpa using z
 ·rw[h]at z
  simp at z
def TupB(h:Heap)(u:Addr)(bs:List Bool):Prop:=bs.length≤4∧∃o n,h.get? u=some o∧o.cls=.type "tuple"∧o.data=.seq (bs.map Value.bool).toArray n
theorem TupB.keep{h h':Heap}{u:Addr}{bs:List Bool}(x:TupB h u bs)(k:∀o,h.get? u=some o→h'.get? u=some o):TupB h' u bs:=by
 obtain⟨hl,o,n,h1,r⟩:=x
 exact⟨hl,o,n,k o h1,r⟩
section
variable {prog:Program} {w:World} {A:Around} {E:Value→Shared→Prop} {s:Shared}
theorem TupB.key{h:Heap}{u:Addr}{bs:List Bool}(x:TupB h u bs):IsTupleKey (Ybp prog w) h (bs.map bI) u:=by
 obtain⟨hlen,o,n,h1,h2,h3⟩:=x
 refine⟨o,_,n,h1,h2,h3,?_⟩
 rw[List.toList_toArray]
 clear h3 hlen
 induction bs with
 | nil=>exact .nil
 | cons b bs ih=>exact .cons (by cases b<;>simp[Ybp,Ykm,bI]) ih
theorem y23{u:Addr}{bs:List Bool}{Q:Bool→Shared→Prop}(x:TupB s.heap u bs)(h:Q true s):wpAny (model prog w) A (hashByValue 8 (.ref u)) Q E s:=by
 obtain⟨hl,o,n,ho,hc,hd⟩:=x
 have hT:s.TypeIs (.ref u) "tuple":=⟨o,ho,hc⟩
 unfold hashByValue
 refine wpAny_bind (wpAny_specialOf hT F.slot_tuple_hash.lookup ?_)
 dsimp only
 refine wpAny_bind (wpAny_seqItems ho hd ?_)
 rcases bs with _ | ⟨a,_ | ⟨b,_ | ⟨c,_ | ⟨d,_ | ⟨e,r⟩⟩⟩⟩⟩
 ·simp[hashByValue];exact wpAny_pure h
 ·simp[hashByValue];exact wpAny_pure h
 ·simp[hashByValue];exact wpAny_pure h
 ·simp[hashByValue];exact wpAny_pure h
 ·simp[hashByValue];exact wpAny_pure h
 ·simp at hl
theorem Ywy{u:Addr}{bs:List Bool}{Q:Bool→Shared→Prop}(x:TupB s.heap u bs)(h:Q false s):wpAny (model prog w) A (ofAClassStatement 8 (.ref u)) Q E s:=by
 obtain⟨hl,o,n,h1,h2,h3⟩:=x
 have hT:s.TypeIs (.ref u) "tuple":=⟨o,h1,h2⟩
 unfold ofAClassStatement
 refine wpAny_bind (wpAny_typeOf hT ?_)
 dsimp only
 rw[if_pos (by decide)]
 refine wpAny_bind (wpAny_pure ?_)
 simp only[Bool.not_true,Bool.false_eq_true,if_false]
 refine wpAny_bind (wpAny_seqItems h1 h3 ?_)
 rcases bs with _ | ⟨a,_ | ⟨b,_ | ⟨c,_ | ⟨d,_ | ⟨e,r⟩⟩⟩⟩⟩
 ·simp[ofAClassStatement];exact wpAny_pure h
 ·simp[ofAClassStatement];exact wpAny_pure h
 ·simp[ofAClassStatement];exact wpAny_pure h
 ·simp[ofAClassStatement];exact wpAny_pure h
 ·simp[ofAClassStatement];exact wpAny_pure h
 ·simp at hl
theorem Yzj{u v:Addr}{p q:List Bool}{Q:Bool→Shared→Prop}(hu:TupB s.heap u p)(hv:TupB s.heap v q)(h:Q false s):wpAny (model prog w) A (searchCouldBeSeen (.ref u) [.ref v]) Q E s:=by
 unfold searchCouldBeSeen
 simp[carriedByValue]
 by_cases e:u=v
 ·rw[if_pos e]
  exact wpAny_bind (wpAny_pure (wpAny_bind (wpAny_pure (wpAny_pure h))))
 ·rw[if_neg e]
  refine wpAny_bind (wpAny_bind (wpAny_eqIsQuiet_tuple (knd:=Ybp prog w) hu.key ?_))
  rw[if_neg (by decide)]
  refine wpAny_bind (wpAny_eqIsQuiet_tuple (knd:=Ybp prog w) hv.key ?_)
  rw[if_neg (by decide)]
  refine wpAny_bind (Ywy hu ?_)
  rw[if_neg (by decide)]
  refine wpAny_bind (Ywy hv ?_)
  rw[if_neg (by decide)]
  exact wpAny_pure (wpAny_bind (wpAny_pure (wpAny_pure h)))
end
theorem Ymo{l:List (Int × Value)}{h:Int}{v:Value}(hn:(l.map (·.1)).Nodup)(hm:(h,v)∈l):l.filter (fun e=>e.1==h)=[(h,v)]:=by
 induction l with
 | nil=>exact nomatch hm
 | cons e l ih=>
   rw[Qc,List.nodup_cons]at hn
   rcases qr hm with rfl | hm
   ·have:l.filter (fun e=>e.1==h)=[]:=by
     rw[List.filter_eq_nil_iff]
     intro x hx hz
     have:x.1=h:=by simpa using hz
     exact hn.1 (List.mem_map.mpr ⟨x,hx,this⟩)
    rw[List.filter_cons_of_pos (by simp),this]
   ·have hne:¬(e.1==h)=true:=fun hz=>by
     have:e.1=h:=by simpa using hz
     exact hn.1 (List.mem_map.mpr ⟨(h,v),hm,this.symm⟩)
    rw[List.filter_cons_of_neg (p:=fun e:Int × Value=>e.1==h) hne]
    exact ih hn.2 hm
structure SetB(w:World)(h:Heap)(S:Addr)(us:List (Addr × List Bool)):Prop where
 ex:∃o es ep t,h.get? S=some o∧o.ExactSet∧o.data=.set es ep t∧es.toList.Perm (us.map fun u=>(bH u.2,Value.ref u.1))∧t.fits es.size=true∧Clean t es.size∧Tab (byT w) t∧es.size * 5 < t.mask * 3∧∀q∈es.toList.zip t.place.toList,Way t.mask (·∈t.place.toList) (hSt t.mask q.1.1) q.2
 keys:(us.map (·.2)).Nodup
 tups:∀u∈us,TupB h u.1 u.2
 few:us.length≤24
theorem SetB.keep{w:World}{h h':Heap}{S:Addr}{us:List (Addr × List Bool)}(x:SetB w h S us)(k:∀o,h.get? S=some o→h'.get? S=some o)(ku:∀u∈us,∀o,h.get? u.1=some o→h'.get? u.1=some o):SetB w h' S us:=by
 obtain⟨o,es,ep,t,h1,r⟩:=x.ex
 exact⟨⟨o,es,ep,t,k o h1,r⟩,x.keys,fun u hu=>(x.tups u hu).keep (ku u hu),x.few⟩
theorem SetB.vals{w:World}{h:Heap}{S:Addr}{us:List (Addr × List Bool)}(x:SetB w h S us):∃vs,SetV w h S vs∧vs.Perm (us.map fun u=>Value.ref u.1):=by
 obtain⟨o,es,ep,t,h1,h2,h3,h4,h5,h6,h7,h8,h9⟩:=x.ex
 have hl:=h4.length_eq
 rw[qi,qe]at hl
 have:=x.few
 have hsb:scanBound=4096:=rfl
 refine⟨es.toList.map vOf,⟨o,es,ep,t,h1,h2,h3,rfl,by lia,h5,h7⟩,?_⟩
 have:=h4.map vOf
 rw[List.map_map]at this
 exact this
theorem Ywz{us:List (Addr × List Bool)}(hn:(us.map (·.2)).Nodup)(hl:∀u∈us,u.2.length≤4):(us.map fun u=>bH u.2).Nodup:=by
 induction us with
 | nil=>exact .nil
 | cons u us ih=>
   rw[Qc,List.nodup_cons]at hn ⊢
   refine⟨fun z=>?_,ih hn.2 fun v hv=>hl v (qf _ hv)⟩
   obtain⟨v,hv,e⟩:=qw z
   exact hn.1 (List.mem_map.mpr ⟨v,hv,y0w (hl v (qf _ hv)) (hl u qg) e⟩)
theorem Yzk:(List.range 26).all (fun n=>decide (SetTable.sizeAbove (n * 4)∈sizes)&&decide (n < SetTable.sizeAbove (n * 4))&&decide (SetTable.sizeAbove (n * 4)≤128)&&decide (n * 5 < (SetTable.sizeAbove (n * 4) - 1) * 3))=true:=by decide +kernel
section
variable {prog:Program} {w:World} {A:Around} {E:Value→Shared→Prop} {s:Shared}
theorem Yt9{a:Addr}{o:Obj}{es:Array (Int × Value)}{ep:Nat}{t:SetTable}(ho:s.heap.get? a=some o)(hex:o.ExactSet)(hd:o.data=.set es ep t)(hf:t.fits es.size=true)(hn:es.size≤25)(hT:Tab (byT w) t){Q:Unit→Shared→Prop}
 (h:∀h' o' es' ep' t',Heap.SameBut a s.heap h'→h'.get? a=some o'→o'.ExactSet→o'.data=.set es' ep' t'→es'.toList.Perm es.toList→t'.fits es'.size=true→Clean t' es'.size→Tab (byT w) t'→es'.size * 5 < t'.mask * 3→(∀q∈es'.toList.zip t'.place.toList,Way t'.mask (·∈t'.place.toList) (hSt t'.mask q.1.1) q.2)→Q () { s with heap:=h' }) :
 wpAny (model prog w) A (setRelay a (SetTable.grown es.size)) Q E s:=by
 have hok:=List.all_eq_true.mp Yzk es.size (List.mem_range.mpr (by lia))
 simp only[Qi,decide_eq_true_eq]at hok
 obtain⟨⟨⟨k1,k2⟩,k3⟩,k4⟩:=hok
 have hg:SetTable.grown es.size=es.size * 4:=by unfold SetTable.grown;rw[if_neg (by lia)]
 rw[hg]
 unfold setRelay
 refine wpAny_bind (wpAny_setState_of ho hd hf ?_)
 dsimp only
 rw[if_neg (by rw[sizeLine_eq];lia)]
 have hm:SetTable.sizeAbove (es.size * 4) - 1+1=SetTable.sizeAbove (es.size * 4):=by lia
 obtain⟨t',o',e1,e2,e3,e4,e5,e6,e7,e8⟩:=Yzf (mask:=SetTable.sizeAbove (es.size * 4) - 1) (finger:=t.finger) (moves:=t.movedTo (SetTable.sizeAbove (es.size * 4) - 1)) (led:=t.led) (plain:=t.plain) (by rw[hm];exact k1) (es.map (·.1)) (by rw[Array.size_map];lia)
 have hre:t.relaid (es.map (·.1)) (es.size * 4)=some (t',o'):=e1
 rw[hre]
 rw[Array.size_map]at e2 e3
 have hp:=Yza e2
 have hsz:(o'.filterMap (es[·]?)).size=es.size:=by
  have:=hp.length_eq
  rwa [qi,qi]at this
 have hl:=Yox e1
 refine wpAny_bind ?_
 have hck:((o'.filterMap (es[·]?)).size != es.size)=false:=by rw[hsz];simp
 show wpAny _ _ (if ((o'.filterMap (es[·]?)).size != es.size)=true then _ else _) _ _ _
 rw[hck,if_neg qh]
 refine wpAny_pure ?_
 dsimp only
 refine wpAny_storeSet_of ho hd ?_ (by rw[hsz,sizeLine_eq];lia)
 have hgp:=Yj7 ho hd (o'.filterMap (es[·]?)) t'
 have hfit:t'.fits (o'.filterMap (es[·]?)).size=true:=by
  unfold SetTable.fits SetTable.fill
  rw[hsz,e3,e4,e5]
  simp
  lia
 refine h _ _ _ _ t' (Heap.SameBut.update ..) hgp ⟨hex.1,hex.2.1,hex.2.2⟩ rfl hp hfit ⟨by rw[e5,hm];exact k1,e4,hl.1,fun j hj=>by rw[e5];exact e7 j hj,by rw[e3,hsz],by rw[hsz,e5];lia⟩ ⟨fun z=>by rw[hl.2.1];exact hT.1 z,fun _=>hl.1⟩ (by rw[hsz,e5];exact k4) (fun q hq=>?_)
 have hes:(o'.filterMap (es[·]?)).toList=o'.toList.map fun i=>es.toList.getD i (0,.none):=by
  have h1:(o'.filterMap (es[·]?)).toList=o'.toList.filterMap (es.toList[·]?):=by simp
  rw[h1,Yhd (g:=fun i=>some (es.toList.getD i (0,.none))) fun i hi=>?_]
  ·show List.filterMap (some ∘ fun i=>es.toList.getD i (0,.none)) _=_
   rw[List.filterMap_eq_map]
  ·have hi':i < es.size:=Qa (e2.mem_iff.mp hi)
   simp[hi']
 rw[hes,List.zip_map_left]at hq
 obtain⟨q0,hq0,rfl⟩:=qw hq
 have:=e8 q0 hq0
 rw[←e5]at this
 have hget:(es.map (·.1)).toList.getD q0.1 0=(es.toList.getD q0.1 (0,.none)).1:=by
  rw[Array.toList_map,List.getD_eq_getElem?_getD,List.getD_eq_getElem?_getD,Qh]
  cases es.toList[q0.1]?<;>rfl
 rw[hget]at this
 exact this
theorem Yri{S:Addr}{x:Value}{h:Int}{o:Obj}{es:Array (Int × Value)}{ep:Nat}{t:SetTable}{j:Nat}{Q:SetFound→Shared→Prop}(hS:s.heap.get? S=some o)(hd:o.data=.set es ep t)(hf:t.fits es.size=true)(hg:t.gaveWay=false)
 (hpr:t.probe (fun i=>(es[i]?.map (·.1)).getD 0) h (t.probeStart h)=some (.empty j none)) (hQ:Q (.free j false) s):wpAny (model prog w) A (setSearch S x h true) Q E s:=by
 show wpAny _ _ (setState S >>= _) _ _ _
 refine wpAny_bind (wpAny_setState_of hS hd hf ?_)
 dsimp only
 rw[hg,if_neg qh]
 refine wpAny_bind (wpAny_pure ?_)
 show wpAny _ _ (match t.probe (fun i=>(es[i]?.map (·.1)).getD 0) h (t.probeStart h)with | some met=>_ | _=>_) _ _ _
 rw[hpr]
 exact wpAny_pure hQ
theorem Clean.odd{t:SetTable}{n:Nat}(c:Clean t n):t.gaveWay=false:=by
 unfold SetTable.gaveWay
 have:=c.hs
 simp only[sizes,List.mem_cons,List.not_mem_nil,or_false]at this
 have:t.mask % 2=1:=by lia
 rw[this]
 rfl
theorem y24{S u:Addr}{us:List (Addr × List Bool)}{bs:List Bool}{Q:Bool→Shared→Prop}(hS:SetB w s.heap S us)(h24:us.length < 24)(hp:TupB s.heap u bs)(hne:bs∉us.map (·.2))(hSu:∀v∈us,v.1≠S)(huS:u≠S)
 (hQ:∀h',Heap.SameBut S s.heap h'→SetB w h' S (us++[(u,bs)])→Q true { s with heap:=h' }):wpAny (model prog w) A (setAddHashed S (.ref u) (bH bs)) Q E s:=by
 obtain⟨o,es,ep,t,h1,h2,h3,h4,h5,h6,h7,h8,h9⟩:=hS.ex
 have hl:=h4.length_eq
 rw[qi,qe]at hl
 have hlen:=hp.1
 have hnh:∀e∈es.toList,e.1≠bH bs:=fun e he z=>by
  obtain⟨v,hv,rfl⟩:=qw (h4.mem_iff.mp he)
  exact hne (List.mem_map.mpr ⟨v,hv,y0w (hS.tups v hv).1 hlen z⟩)
 obtain⟨j,hpr,hse,hjm⟩:∃j,t.probe (fun i=>(es[i]?.map (·.1)).getD 0) (bH bs) (t.probeStart (bH bs))=some (.empty j none)∧t.slot j=.empty∧j≤t.mask:=by
  rcases h6.probe (hA:=fun i=>(es[i]?.map (·.1)).getD 0) (h:=bH bs)with z | ⟨j,i,nx,z1,z2,z3⟩
  ·exact z
  ·exfalso
   rcases Ye1 h6.rise h6.dm j with⟨_,y⟩ | ⟨i',y,y2⟩
   ·rw[z2]at y;cases y
   ·rw[z2]at y
    cases y
    have hi:i < es.size:=by
     have:=(qm y2).1
     rw[qi,h6.sz]at this
     exact this
    have z4:(es[i]?.map (·.1)).getD 0=bH bs:=by simpa using z3
    rw[Array.getElem?_eq_getElem hi]at z4
    exact hnh es[i] (by simp) z4
 have hm7:7≤t.mask:=by
  have:=h6.hs
  simp only[sizes,List.mem_cons,List.not_mem_nil,or_false]at this
  lia
 have hroom:es.size+1≤t.mask:=by lia
 have hkeys2:((us++[(u,bs)]).map (·.2)).Nodup:=by
  rw[List.map_append]
  exact List.nodup_append.mpr ⟨hS.keys,by simp,fun x hx y hy z=>by
   simp at hy
   subst hy
   exact hne (z ▸ hx)⟩
 have htups:∀h':Heap,Heap.SameBut S s.heap h'→∀v∈us++[(u,bs)],TupB h' v.1 v.2:=fun h' sb v hv=>by
  rcases qu hv with z | z
  ·exact(hS.tups v z).keep fun o e=>by rw[sb.2 v.1 (hSu v z)];exact e
  ·rw[List.mem_singleton.mp z]
   exact hp.keep fun o e=>by rw[sb.2 u huS];exact e
 have hfew:(us++[(u,bs)]).length≤24:=by simp;lia
 have hcl:=h6.put hse hjm hroom
 have hins:((SetTable.insertAt es (SetTable.below t.place j) (bH bs,Value.ref u)).toList).Perm (es.toList++[(bH bs,Value.ref u)]):=by
  rw[Yae]
  refine List.perm_middle.trans ?_
  rw[Qk]
  exact List.perm_append_comm (l₁:=[_])
 have hpm:((SetTable.insertAt es (SetTable.below t.place j) (bH bs,Value.ref u)).toList).Perm ((us++[(u,bs)]).map fun u=>(bH u.2,Value.ref u.1)):=by
  rw[List.map_append]
  exact hins.trans (h4.append_right _)
 have hsz:(SetTable.insertAt es (SetTable.below t.place j) (bH bs,Value.ref u)).size=es.size+1:=Yhe _ _ _
 have htab:Tab (byT w) { t with place:=SetTable.insertAt t.place (SetTable.below t.place j) j }:=⟨h7.1,fun _=>hcl.rise⟩
 have hfit:({ t with place:=SetTable.insertAt t.place (SetTable.below t.place j) j }:SetTable).fits (SetTable.insertAt es (SetTable.below t.place j) (bH bs,Value.ref u)).size=true:=by
  unfold SetTable.fits SetTable.fill
  have:=hcl.sz
  have hd0:=h6.dm
  simp only[hd0,hsz]at this ⊢
  simp[this]
  lia
 have hput:t.put j=({ t with place:=SetTable.insertAt t.place (SetTable.below t.place j) j },SetTable.below t.place j):=by
  unfold SetTable.put
  dsimp only
  rw[h6.dm]
  have:SetTable.has #[] j=false:=rfl
  rw[this,if_neg qh]
 have hgp:=Yj7 h1 h3 (SetTable.insertAt es (SetTable.below t.place j) (bH bs,.ref u)) { t with place:=SetTable.insertAt t.place (SetTable.below t.place j) j }
 have hsb:=Heap.SameBut.update s.heap S (Obj.putSet (SetTable.insertAt es (SetTable.below t.place j) (bH bs,.ref u)) { t with place:=SetTable.insertAt t.place (SetTable.below t.place j) j })
 have hfill:({ t with place:=SetTable.insertAt t.place (SetTable.below t.place j) j }:SetTable).tooFull=decide ((es.size+1) * 5≥t.mask * 3):=by
  unfold SetTable.tooFull SetTable.fill
  have:=hcl.sz
  simp only at this ⊢
  rw[this,h6.dm]
  rfl
 have hways:∀q∈(SetTable.insertAt es (SetTable.below t.place j) (bH bs,Value.ref u)).toList.zip (SetTable.insertAt t.place (SetTable.below t.place j) j).toList,Way t.mask (·∈(SetTable.insertAt t.place (SetTable.below t.place j) j).toList) (hSt t.mask q.1.1) q.2:=fun q hq=>by
  have hsub:∀x,x∈t.place.toList→x∈(SetTable.insertAt t.place (SetTable.below t.place j) j).toList:=fun x hx=>by
   rw[Yae]
   rw[←Qk (SetTable.below t.place j) t.place.toList]at hx
   rcases qu hx with z | z
   ·exact List.mem_append_left _ z
   ·exact Qj _ (qf _ z)
  rw[Yae,Yae,List.zip_append (by rw[List.length_take,List.length_take,qi,qi,h6.sz])]at hq
  have hold:∀q,q∈(es.toList.take (SetTable.below t.place j)).zip (t.place.toList.take (SetTable.below t.place j))∨q∈(es.toList.drop (SetTable.below t.place j)).zip (t.place.toList.drop (SetTable.below t.place j))→q∈es.toList.zip t.place.toList:=fun q hq=>by
   rw[←Qk (SetTable.below t.place j) es.toList,←Qk (SetTable.below t.place j) t.place.toList,List.zip_append (by rw[List.length_take,List.length_take,qi,qi,h6.sz])]
   exact List.mem_append.mpr hq
  rcases qu hq with z | z
  ·exact(h9 q (hold q (.inl z))).mono hsub
  ·rw[List.zip_cons_cons]at z
   rcases qr z with rfl | z
   ·exact(Ys7 h6.rise h6.dm _ _ (by unfold SetTable.probe at hpr;exact hpr)).mono hsub
   ·exact(h9 q (hold q (.inr z))).mono hsub
 rw[←hsz]at hcl
 generalize he1:SetTable.insertAt es (SetTable.below t.place j) (bH bs,Value.ref u)=es1 at *
 generalize hT1:({ t with place:=SetTable.insertAt t.place (SetTable.below t.place j) j }:SetTable)=t1 at *
 have hm1:t1.mask=t.mask:=by rw[←hT1]
 have hpl1:t1.plain=t.plain:=by rw[←hT1]
 have tail:wpAny (model prog w) A (if (!false&&t1.tooFull)=true then (setRelay S (SetTable.grown (es.size+1)) >>= fun _=>pure true)else pure true) Q E { s with heap:=s.heap.update S (Obj.putSet es1 t1) }:=by
  by_cases hfl:(es.size+1) * 5≥t.mask * 3
  ·rw[hfill,decide_eq_true hfl]
   show wpAny _ _ (setRelay S (SetTable.grown (es.size+1)) >>= fun _=>pure true) _ _ _
   rw[←hsz]
   refine wpAny_bind (Yt9 (s:={ s with heap:=s.heap.update S (Obj.putSet es1 t1) }) hgp ⟨h2.1,h2.2.1,h2.2.2⟩ rfl hfit (by rw[hsz];lia) htab fun h' o' es' ep' t' sb g' x' d' p' f' c' T' l' y'=>wpAny_pure (hQ h' (hsb.trans sb) ⟨⟨o',es',ep',t',g',x',d',p'.trans hpm,f',c',T',l',y'⟩,hkeys2,htups h' (hsb.trans sb),hfew⟩))
  ·rw[hfill,decide_eq_false hfl]
   show wpAny _ _ (pure true) _ _ _
   exact wpAny_pure (hQ _ hsb ⟨⟨_,es1,_,t1,hgp,⟨h2.1,h2.2.1,h2.2.2⟩,rfl,hpm,hfit,hcl,htab,by rw[hsz,hm1];lia,by rw[←hT1];exact hways⟩,hkeys2,htups _ hsb,hfew⟩)
 unfold setAddHashed setAddHashedIn
 refine wpAny_holding (wpAny_bind (wpAny_setState_of h1 h3 h5 ?_))
 dsimp only
 have hby:byScan (.ref u) es=false:=rfl
 rw[hby,if_neg qh]
 refine wpAny_bind (Yri h1 h3 h5 h6.odd hpr ?_)
 dsimp only
 refine wpAny_bind (wpAny_setState_of h1 h3 h5 ?_)
 dsimp only
 rw[hput]
 dsimp only
 rw[he1]
 have hsz':es1.size≤sizeLine:=by rw[hsz,sizeLine_eq];lia
 cases hpl:t1.plain with
 | true=>
   rw[if_pos rfl]
   refine wpAny_bind (y23 hp ?_)
   rw[if_pos rfl]
   exact wpAny_bind (wpAny_storeSet_of h1 h3 tail hsz')
 | false=>
   rw[if_neg qh]
   refine wpAny_bind (wpAny_pure ?_)
   rw[if_pos rfl]
   exact wpAny_bind (wpAny_storeSet_of h1 h3 tail hsz')
theorem Yua{S u v:Addr}{p:List Bool}{o:Obj}{es:Array (Int × Value)}{ep:Nat}{t:SetTable}{nx:SetTable.Probe}{i j:Nat}{Q:SetFound→Shared→Prop}(fuel:Nat)(hu:A.units < cLine)(hS:s.heap.get? S=some o)(hd:o.data=.set es ep t)(hf:t.fits es.size=true)(hg:t.gaveWay=false)
 (hes:es[i]?=some (bH p,.ref v)) (hfl:((es.filter (·.1==bH p)).toList.map (·.2))=[Value.ref v])
 (hpr:t.probe (fun i=>(es[i]?.map (·.1)).getD 0) (bH p) (t.probeStart (bH p))=some (.candidate j i nx)) (hv:TupB s.heap v p) (hp:TupB s.heap u p) (hQ:Q (.there none) s):wpAny (model prog w) A (setSearchFrom S (.ref u) (bH p) true (fuel+1) none) Q E s:=by
 show wpAny _ _ (setState S >>= _) _ _ _
 refine wpAny_bind (wpAny_setState_of hS hd hf ?_)
 dsimp only
 rw[hg,if_neg qh]
 refine wpAny_bind (wpAny_pure ?_)
 show wpAny _ _ (match t.probe (fun i=>(es[i]?.map (·.1)).getD 0) (bH p) (t.probeStart (bH p))with | some met=>_ | _=>_) _ _ _
 rw[hpr]
 dsimp only
 rw[hfl,hes]
 cases t.led with
 | true=>
   rw[if_neg (by decide)]
   dsimp only
   refine wpAny_bind (wpAny_holding (wpAny_eqBool_tuple (knd:=Ybp prog w) hu hv.key hp.key ?_))
   rw[decide_eq_true rfl]
   refine wpAny_bind (wpAny_setState_of hS hd hf ?_)
   dsimp only
   rw[if_pos (by rfl)]
   exact wpAny_pure hQ
 | false=>
   rw[if_pos (by decide)]
   refine wpAny_bind (Yzj hp hv ?_)
   rw[if_neg (by decide)]
   dsimp only
   refine wpAny_bind (wpAny_holding (wpAny_eqBool_tuple (knd:=Ybp prog w) hu hv.key hp.key ?_))
   rw[decide_eq_true rfl]
   refine wpAny_bind (wpAny_setState_of hS hd hf ?_)
   dsimp only
   rw[if_pos (by rfl)]
   exact wpAny_pure hQ
theorem y25{S u:Addr}{us:List (Addr × List Bool)}{bs:List Bool}{Q:Bool→Shared→Prop}(hu:A.units < cLine)(hS:SetB w s.heap S us)(hp:TupB s.heap u bs)(hin:bs∈us.map (·.2))(hQ:Q false s):wpAny (model prog w) A (setAddHashed S (.ref u) (bH bs)) Q E s:=by
 obtain⟨o,es,ep,t,h1,h2,h3,h4,h5,h6,h7,h8,h9⟩:=hS.ex
 obtain⟨x,hx,hxb⟩:=qw hin
 have hxb':x.2=bs:=hxb
 have hmem:(bH bs,Value.ref x.1)∈es.toList:=h4.mem_iff.mpr (List.mem_map.mpr ⟨x,hx,by rw[hxb']⟩)
 have hnd:(es.toList.map (·.1)).Nodup:=by
  have:=h4.map (·.1)
  rw[List.map_map]at this
  exact this.nodup_iff.mpr (Ywz hS.keys fun v hv=>(hS.tups v hv).1)
 have hfl:((es.filter (·.1==bH bs)).toList.map (·.2))=[Value.ref x.1]:=by
  rw[Array.toList_filter,Ymo hnd hmem]
  rfl
 rcases h6.probe (hA:=fun i=>(es[i]?.map (·.1)).getD 0) (h:=bH bs)with⟨j,z1,z2,z3⟩ | ⟨j,i,nx,z1,z2,z3⟩
 ·exfalso
  obtain⟨i,hi,hie⟩:=List.getElem_of_mem hmem
  have hi':i < t.place.toList.length:=by rw[qi,h6.sz];rwa [qi]at hi
  have hz:((bH bs,Value.ref x.1),t.place.toList[i])∈es.toList.zip t.place.toList:=by
   refine List.mem_of_getElem? (i:=i) ?_
   rw[List.getElem?_zip_eq_some]
   exact⟨by rw[qp hi,hie],qp hi'⟩
  obtain⟨k,k1,k2⟩:=h9 _ hz
  have hsl:t.slot t.place.toList[i]=.live i:=by
   rcases Ye1 h6.rise h6.dm t.place.toList[i]with⟨y,_⟩ | ⟨i',y,y2⟩
   ·exact absurd (qx hi') y
   ·have:i'=i:=by
     obtain⟨w1,w2⟩:=qm y2
     rcases Nat.lt_trichotomy i' i with hlt | heq | hgt
     ·have:=(List.pairwise_iff_getElem.mp h6.rise) i' i w1 hi' hlt
      lia
     ·exact heq
     ·have:=(List.pairwise_iff_getElem.mp h6.rise) i i' hi' w1 hgt
      lia
    rw[y,this]
  have hhA:((fun i=>(es[i]?.map (·.1)).getD 0) i==bH bs)=true:=by
   have hi2:i < es.size:=by rwa [qi]at hi
   have:es[i]=(bH bs,Value.ref x.1):=by rw[←hie];simp
   simp[hi2,this]
  exact Ys8 h6.rise h6.dm hsl hhA k _ _ k1 k2 _ _ (by unfold SetTable.probe at z1;exact z1)
 ·have hi:i < es.size:=by
   rcases Ye1 h6.rise h6.dm j with⟨_,y⟩ | ⟨i',y,y2⟩
   ·rw[z2]at y;cases y
   ·rw[z2]at y
    cases y
    have:=(qm y2).1
    rw[qi,h6.sz]at this
    exact this
  have z4:(es[i]?.map (·.1)).getD 0=bH bs:=by simpa using z3
  rw[Array.getElem?_eq_getElem hi]at z4
  have z5:es[i].1=bH bs:=z4
  have hie:es[i]=(bH bs,Value.ref x.1):=by
   have:es[i]∈es.toList.filter (fun e=>e.1==bH bs):=List.mem_filter.mpr ⟨by simp,by simpa using z5⟩
   rw[Ymo hnd hmem]at this
   exact List.mem_singleton.mp this
  refine Ypg h1 h3 h5 (fun Q' q=>?_) hQ
  have h100:(100000:Nat)=99999+1:=rfl
  unfold setSearch
  rw[h100]
  generalize (99999:Nat)=fuel
  exact Yua fuel hu h1 h3 h5 h6.odd (by rw[Array.getElem?_eq_getElem hi,hie]) hfl z1 (hxb' ▸ hS.tups x hx) hp q
noncomputable def Yes:List (Addr × List Bool)→List (Addr × List Bool)→List (Addr × List Bool)
 | acc,[]=>acc
 | acc,u::r=>Yes (if u.2∈acc.map (·.2)then acc else acc++[u]) r
theorem Ypj:∀(r acc:List (Addr × List Bool)),acc.length≤(Yes acc r).length
 | [],acc=>qt _
 | u::r,acc=>by
   rw[Yes]
   refine Nat.le_trans ?_ (Ypj r _)
   split<;>simp
theorem Yzl{l I S u:Addr}{items:Array Value}{i:Nat}{p:List Bool}{R:Result→Shared→Prop}(hu:A.units+2 < cLine)(hit:s.heap.IsListIter I l i)(hl:s.heap.IsList l items)(hx:items[i]?=some (.ref u))(hp:TupB s.heap u p)(hIu:u≠I)
 (k:∀h1 tk,h1.IsListIter I l (i+1)→Heap.SameBut I s.heap h1→wpAny (model prog w) A.in1 (setAddHashed S (.ref u) (bH p)) (fun _ s'=>codeAny (model prog w) A (.builtin "set.update.loop" ⟨[.ref S,.ref I],[]⟩) R s') (fun e s'=>R (.error e) s') { s with heap:=h1,toks:=tk }) :
 codeAny (model prog w) A (.builtin "set.update.loop" ⟨[.ref S,.ref I],[]⟩) R s:=by
 refine codeAny_builtin F.entry_set_update_loop ?_
 rw[Around.under_plainId F.plain_set_update_loop _]
 show wpAny _ A.in1 (pyNext (.ref I) >>= _) _ _ s
 refine wpAny_bind (wpAny_pyNext_list_item hit hl hx fun h1 hi1 hs1=>?_)
 show wpAny _ A.in1 (holding [Value.ref u] (setAdd S (.ref u)) >>= _) _ _ _
 refine wpAny_bind (wpAny_holding ?_)
 unfold setAdd
 have hp1:TupB h1 u p:=hp.keep fun o e=>by rw[hs1.2 u hIu];exact e
 refine wpAny_holding (wpAny_bind (wpAny_pyHash_tuple (knd:=Ybp prog w) (s:={ s with heap:=h1 }) (by show A.units+1 < cLine;lia) hp1.key ?_))
 refine wpAny_mono (k h1 _ hi1 hs1) (fun b s' hb=>?_) fun _ _ x=>x
 exact wpAny_pure ⟨plainId_quiet F.plain_set_update_loop _,hb⟩
theorem Yrj{l I S:Addr}{us:List (Addr × List Bool)}{R:Result→Shared→Prop}(hh:A.handled=none)(hu:A.units+2 < cLine)(hIl:l≠I)(hIS:S≠I)(hlS:l≠S)(hIu:∀u∈us,u.1≠I)(hSu:∀u∈us,u.1≠S)(s0:Shared)
 (hR:∀h' tk,SetB w h' S (Yes [] us)→(∀b o,b≠S→b≠I→s0.heap.get? b=some o→h'.get? b=some o)→R (.ok (.ret .none)) { s0 with heap:=h',toks:=tk }) (h24:(Yes [] us).length≤24) :
 ∀(rest pre acc:List (Addr × List Bool)) (h:Heap) (tk:Nat),us=pre++rest→Yes acc rest=Yes [] us→h.IsListIter I l pre.length→h.IsList l (us.map fun u=>Value.ref u.1).toArray→(∀u∈us,TupB h u.1 u.2)→SetB w h S acc→(∀u∈acc,u∈us)→(∀b o,b≠S→b≠I→s0.heap.get? b=some o→h.get? b=some o)→
  codeAny (model prog w) A (.builtin "set.update.loop" ⟨[.ref S,.ref I],[]⟩) R { s0 with heap:=h,toks:=tk }
 | [],pre,acc,h,tk,he,ho,hit,hl,ht,hS,hac,hk=>by
   refine Ypf (s:={ s0 with heap:=h,toks:=tk }) hh hit hl (by rw[List.append_nil]at he;rw[he];simp) fun h1 hs1=>?_
   have ho':acc=Yes [] us:=ho
   rw[ho']at hS hac
   exact hR h1 tk (hS.keep (fun o e=>hs1 S o hIS e) fun u hm o e=>hs1 u.1 o (hIu u (hac u hm)) e) fun b o hb1 hb2 e=>hs1 b o hb2 (hk b o hb1 hb2 e)
 | u::rest,pre,acc,h,tk,he,ho,hit,hl,ht,hS,hac,hk=>by
   have hm:u∈us:=by rw[he];simp
   refine Yzl (s:={ s0 with heap:=h,toks:=tk }) hu hit hl (by rw[he];simp) (ht u hm) (hIu u hm) fun h1 tk1 hi1 hs1=>?_
   have kI:∀b o,b≠I→h.get? b=some o→h1.get? b=some o:=fun b o hb e=>by rw[hs1.2 b hb];exact e
   have hS1:SetB w h1 S acc:=hS.keep (fun o e=>kI S o hIS e) fun v hv o e=>kI v.1 o (hIu v (hac v hv)) e
   have ht1:∀v∈us,TupB h1 v.1 v.2:=fun v hv=>(ht v hv).keep fun o e=>kI v.1 o (hIu v hv) e
   have hl1:h1.IsList l (us.map fun u=>Value.ref u.1).toArray:=let ⟨o,e,r⟩:=hl;⟨o,kI l o hIl e,r⟩
   rw[Yes]at ho
   by_cases hin:u.2∈acc.map (·.2)
   ·rw[if_pos hin]at ho
    refine y25 (s:={ s0 with heap:=h1,toks:=tk1 }) (by show A.units+1 < cLine;lia) hS1 (ht1 u hm) hin ?_
    exact Yrj hh hu hIl hIS hlS hIu hSu s0 hR h24 rest (pre++[u]) acc h1 tk1 (by rw[he];simp) ho (by rw[qy];exact hi1) hl1 ht1 hS1 hac fun b o hb1 hb2 e=>kI b o hb2 (hk b o hb1 hb2 e)
   ·rw[if_neg hin]at ho
    have hacl:acc.length < 24:=by
     have:=Ypj rest (acc++[u])
     rw[ho]at this
     simp at this
     lia
    refine y24 (s:={ s0 with heap:=h1,toks:=tk1 }) hS1 hacl (ht1 u hm) hin (fun v hv=>hSu v (hac v hv)) (hSu u hm) fun h2 hs2 hS2=>?_
    have kS:∀b o,b≠S→h1.get? b=some o→h2.get? b=some o:=fun b o hb e=>by rw[hs2.2 b hb];exact e
    refine Yrj hh hu hIl hIS hlS hIu hSu s0 hR h24 rest (pre++[u]) (acc++[u]) h2 tk1 (by rw[he];simp) ho (by rw[qy];exact(let ⟨o,e,r⟩:=hi1;⟨o,kS I o (Ne.symm hIS) e,r⟩)) (let ⟨o,e,r⟩:=hl1;⟨o,kS l o hlS e,r⟩) (fun v hv=>(ht1 v hv).keep fun o e=>kS v.1 o (hSu v hv) e) hS2 (fun v hv=>?_) fun b o hb1 hb2 e=>kS b o hb1 (kI b o hb2 (hk b o hb1 hb2 e))
    rcases qu hv with z | z
    ·exact hac v z
    ·rw[List.mem_singleton.mp z];exact hm
theorem Yne{l:Addr}{us:List (Addr × List Bool)}{Q:Value→Shared→Prop}(hh:A.handled=none)(hu:A.units+8 < cLine)(hl:s.heap.IsList l (us.map fun u=>Value.ref u.1).toArray)(ht:∀u∈us,TupB s.heap u.1 u.2)(h24:(Yes [] us).length≤24)
 (h:∀(h':Heap) (tk:Nat),SetB w h' s.heap.objs.size (Yes [] us)→(∀b o,s.heap.get? b=some o→h'.get? b=some o)→Q (.ref s.heap.objs.size) { s with heap:=h',toks:=tk }) :
 wpAny (model prog w) A (call (.type "set") [.ref l]) Q E s:=by
 refine Ybz (Q₁:=fun obj s₁=>obj=.ref s.heap.objs.size∧s₁={ s with heap:=s.heap.push (emS w) }) F.called_set (F.typeCall_set_1 _) F.entry_set_init (Yg4 _ ⟨rfl,rfl⟩) ?_
 rintro obj s₁ ⟨rfl,rfl⟩
 have hS:(s.heap.push (emS w)).get? s.heap.objs.size=some (emS w):=qo _ rfl
 have hT:Shared.TypeIs { s with heap:=s.heap.push (emS w) } (.ref s.heap.objs.size) "set":=⟨_,hS,rfl⟩
 refine⟨hT,fun A' E' Q' hq=>check_set_init_1 hT hq,?_⟩
 have hul:∀u∈us,u.1 < s.heap.objs.size:=fun u hm=>by
  obtain⟨_,o,_,ho,_⟩:=ht u hm
  exact qk ho
 generalize hits:(us.map fun u=>Value.ref u.1).toArray=items at hl
 obtain⟨ol,hol,hcl,nl,hdl⟩:=hl
 obtain⟨ocls,odict,odata,oslots⟩:=ol
 simp only at hcl hdl
 subst hcl;subst hdl
 have hol':(s.heap.push (emS w)).get? l=some { cls:=.type "list",dict:=odict,data:=.seq items nl,slots:=oslots }:=qd _ hol
 have hsls:=F.sub_list_set
 have hslf:=F.sub_list_frozenset
 have hne:(Value.type "list"==Value.type "dict")=false:=by decide
 have hl1:(s.heap.push (emS w)).IsList l items:=⟨_,hol',rfl,nl,rfl⟩
 unfold Builtin.«set.__init__» noKeywords Builtin.Frozenset.updateFrom
 generalize hPI:pyIter=PI
 wp_walk
 subst hPI
 refine wpAny_pyIter_list hl1 ?_
 refine wpAny_bind (wpAny_runValue ?_)
 have hlS:l < s.heap.objs.size:=qk hol
 have hsz:(s.heap.push (emS w)).objs.size=s.heap.objs.size+1:=Heap.size_push ..
 have hol2:((s.heap.push (emS w)).push { cls:=.type "list_iterator",data:=.fields #[.ref l,.int 0 0] }).IsList l items:=hl1.push _
 rw[←hits]at hol2
 refine Yrj (us:=us) (by simp[hh]) (by show _+2 < cLine;simp;lia) ?_ ?_ ?_ ?_ ?_ { s with heap:=(s.heap.push (emS w)).push { cls:=.type "list_iterator",data:=.fields #[.ref l,.int 0 0] } } ?_ h24 us [] [] _ s.toks rfl rfl ⟨_,qo _ rfl,rfl,rfl⟩ hol2 (fun u hm=>(ht u hm).keep fun o e=>qd _ (qd _ e)) ?_ (fun u hm=>(nomatch hm)) (fun b o _ _ e=>e)
 ·rw[hsz];exact ql (qv hlS)
 ·rw[hsz];exact ql (qz _)
 ·exact ql hlS
 ·intro u hm;rw[hsz];exact ql (qv (hul u hm))
 ·intro u hm;exact ql (hul u hm)
 ·intro h' tk hN old
  show wpAny _ _ _ _ _ _
  refine wpAny_pure ?_
  show wpAny _ _ (ret Value.none) _ _ _
  refine wpAny_pure ⟨rfl,h h' tk hN fun b o e=>?_⟩
  have hb:=qk e
  exact old b o (ql hb) (by rw[hsz];exact ql (qv hb)) (qd _ (qd _ e))
 ·refine⟨⟨emS w,#[],0,_,qd _ hS,⟨rfl,rfl,rfl⟩,rfl,.nil,rfl,⟨show 8∈sizes by decide,rfl,.nil,fun j hj=>(nomatch hj),rfl,show 0≤7 by decide⟩,.fresh,show 0 * 5 < 7 * 3 by decide,fun q hq=>(nomatch hq)⟩,.nil,fun u hu=>(nomatch hu),by simp⟩
end
end
section
set_option maxRecDepth 100000
section
variable {n:Nat} {key:Nat→Nat} {cmp:Nat→Nat→(Bool→Shared→Prop)→Shared→Prop} {s:Shared}
def PmOk(n:Nat)(p:Array Nat):Prop:=p.toList.Perm (List.range n)
theorem PmOk.size{p:Array Nat}(h:PmOk n p):p.size=n:=by
 have:=h.length_eq
 simpa using this
theorem PmOk.lt{p:Array Nat}(h:PmOk n p){i:Nat}(hi:i < n):p.getD i 0 < n:=by
 have hs:=h.size
 have hi':i < p.size:=by lia
 have:p.getD i 0∈p.toList:=by simp[Array.getD,hi']
 exact Qa (h.mem_iff.mp this)
theorem PmOk.inj{p:Array Nat}(h:PmOk n p){i j:Nat}(hi:i < n)(hj:j < n)(e:p.getD i 0=p.getD j 0):i=j:=by
 have hs:=h.size
 have hn:p.toList.Nodup:=h.nodup_iff.mpr List.nodup_range
 have hi':i < p.toList.length:=by simp;lia
 have hj':j < p.toList.length:=by simp;lia
 refine(List.getElem_inj (h₀:=hi') (h₁:=hj') hn).mp ?_
 simp only[Array.getElem_toList]
 have a1:i < p.size:=by lia
 have a2:j < p.size:=by lia
 simpa [Array.getD,a1,a2]using e
def Up(key:Nat→Nat)(p:Array Nat)(k:Nat):Prop:=∀i j,i < j→j < k→key (p.getD i 0) < key (p.getD j 0)
def Down(key:Nat→Nat)(p:Array Nat)(k:Nat):Prop:=∀i j,i < j→j < k→key (p.getD j 0) < key (p.getD i 0)
theorem Up.next{p:Array Nat}{a:Nat}(h:Up key p a)(h1:1≤a)(hlt:key (p.getD (a - 1) 0) < key (p.getD a 0)):Up key p (a+1):=fun i j hij hj=>by
 by_cases e:j=a
 ·subst e
  by_cases e2:i=j - 1
  ·rw[e2];exact hlt
  ·exact Nat.lt_trans (h i (j - 1) (by lia) (by lia)) hlt
 ·exact h i j hij (by lia)
theorem Down.next{p:Array Nat}{a:Nat}(h:Down key p a)(h1:1≤a)(hlt:key (p.getD a 0) < key (p.getD (a - 1) 0)):Down key p (a+1):=fun i j hij hj=>by
 by_cases e:j=a
 ·subst e
  by_cases e2:i=j - 1
  ·rw[e2];exact hlt
  ·exact Nat.lt_trans hlt (h i (j - 1) (by lia) (by lia))
 ·exact h i j hij (by lia)
variable (hinj:∀i j,i < n→j < n→key i=key j→i=j) (hc:∀i j (C:Bool→Shared→Prop),i < n→j < n→C (decide (key i < key j)) s→cmp i j C s)
include hinj hc
theorem Yw0{p:Array Nat}(hp:PmOk n p){G:Nat→Shared→Prop}(hG:∀m,1≤m→m≤n→Up key p m→(m < n→key (p.getD m 0) < key (p.getD (m - 1) 0))→G m s):∀(f a:Nat),1≤a→f+a=n→Up key p a→(W.kas_asc p f a).kasWp cmp G s
 | 0,a,h1,h2,h3=>hG a h1 (by lia) h3 fun z=>absurd z (by lia)
 | f+1,a,h1,h2,h3=>by
   refine hc _ _ _ (hp.lt (by lia)) (hp.lt (by lia)) ?_
   by_cases e:key (p.getD a 0) < key (p.getD (a - 1) 0)
   ·rw[decide_eq_true e]
    exact hG a h1 (by lia) h3 fun _=>e
   ·rw[decide_eq_false e]
    have hne:key (p.getD a 0)≠key (p.getD (a - 1) 0):=fun z=>by
     have:=hp.inj (by lia) (by lia) (hinj _ _ (hp.lt (by lia)) (hp.lt (by lia)) z)
     lia
    exact Yw0 hp hG f (a+1) (by lia) (by lia) (h3.next h1 (by lia))
theorem Yw1{p:Array Nat}(hp:PmOk n p){G:Array Nat × Nat × Nat→Shared→Prop}(hG:∀m,1≤m→m≤n→Down key p m→G (p,m,0) s):∀(f a:Nat),1≤a→f+a=n→Down key p a→(W.kas_desc f p a 0).kasWp cmp G s
 | 0,a,h1,h2,h3=>hG a h1 (by lia) h3
 | f+1,a,h1,h2,h3=>by
   refine hc _ _ _ (hp.lt (by lia)) (hp.lt (by lia)) ?_
   by_cases e:key (p.getD a 0) < key (p.getD (a - 1) 0)
   ·rw[decide_eq_true e]
    exact Yw1 hp hG f (a+1) (by lia) (by lia) (h3.next h1 e)
   ·rw[decide_eq_false e]
    refine hc _ _ _ (hp.lt (by lia)) (hp.lt (by lia)) ?_
    have hne:key (p.getD a 0)≠key (p.getD (a - 1) 0):=fun z=>by
     have:=hp.inj (by lia) (by lia) (hinj _ _ (hp.lt (by lia)) (hp.lt (by lia)) z)
     lia
    rw[decide_eq_true (show key (p.getD (a - 1) 0) < key (p.getD a 0) by lia)]
    exact hG a h1 (by lia) h3
omit hinj hc in
theorem Ynf{p q:Array Nat}{i j:Nat}(h:p[i]?=q[j]?):p.getD i 0=q.getD j 0:=by
 rw[Array.getD_eq_getD_getElem?,Array.getD_eq_getD_getElem?,h]
omit hinj hc in
theorem y6i{p:Array Nat}(hp:PmOk n p){a:Nat}(ha:a≤n)(hd:Down key p a):PmOk n (W.kas_rev p 0 a)∧Up key (W.kas_rev p 0 a) a:=by
 have hs:=hp.size
 refine⟨(mirror_perm p 0 a _).toList.trans hp,fun i j hij hj=>?_⟩
 have e:∀k,k < a→(W.kas_rev p 0 a).getD k 0=p.getD (a - 1 - k) 0:=fun k hk=>by
  refine Ynf ?_
  show(mirror p 0 a ((a - 0) / 2))[k]?=_
  rw[getElem?_mirror_all (by lia),if_pos (by lia)]
  congr 1
  lia
 rw[e i (by lia),e j hj]
 exact hd _ _ (by lia) (by lia)
theorem Yzm(h2:2≤n){p:Array Nat}(hp:PmOk n p){G:Nat × Array Nat→Shared→Prop}(hG:∀m q,1≤m→m≤n→PmOk n q→Up key q m→G (m,q) s):(W.kas_count n p).kasWp cmp G s:=by
 unfold W.kas_count
 rw[W.KasT.kasWp_bind]
 refine Yw0 hinj hc hp (fun m h1 hm hu hd=>?_) (n - 1) 1 (qt _) (by lia) (fun i j hij hj=>absurd hj (by lia))
 by_cases e:m=n
 ·rw[if_pos (by simp[e])]
  exact hG m p h1 hm hp hu
 ·rw[if_neg (by simp[e])]
  by_cases e2:m > 1
  ·rw[if_pos e2]
   refine hc _ _ _ (hp.lt (by lia)) (hp.lt (by lia)) ?_
   rw[decide_eq_true (hu 0 (m - 1) (by lia) (by lia))]
   exact hG m p h1 hm hp hu
  ·rw[if_neg e2]
   have hm1:m=1:=by lia
   subst hm1
   unfold W.kas_descPart
   rw[W.KasT.kasWp_bind]
   have hd1:=hd (by lia)
   refine Yw1 hinj hc hp (fun a ha1 han hda=>?_) (n - (1+1)) (1+1) (by lia) (by lia) (fun i j hij hj=>?_)
   ·rw[if_neg (by simp)]
    obtain⟨hp2,hu2⟩:=y6i hp han hda
    unfold W.kas_tail3
    rw[W.KasT.kasWp_bind]
    exact Yw0 hinj hc hp2 (fun m h1 hm hu _=>hG m _ h1 hm hp2 hu) (n - a) a ha1 (by lia) hu2
   ·have hi:i=0:=by lia
    have hj1:j=1:=by lia
    subst hi hj1
    exact hd1
theorem Yng{p:Array Nat}(hp:PmOk n p){k:Nat}(hk:k < n)(hu:Up key p k){G:Nat→Shared→Prop}(hG:∀l,l≤k→(∀i,i < l→key (p.getD i 0) < key (p.getD k 0))→(∀i,l≤i→i < k→key (p.getD k 0) < key (p.getD i 0))→G l s) :
 ∀(f l r:Nat),r≤k→l≤r→r - l≤f→(∀i,i < l→key (p.getD i 0) < key (p.getD k 0))→(∀i,r≤i→i < k→key (p.getD k 0) < key (p.getD i 0))→(W.kas_place p k f l r).kasWp cmp G s
 | 0,l,r,h1,h2,h3,h4,h5=>hG l (by lia) h4 fun i hi hik=>h5 i (by lia) hik
 | f+1,l,r,h1,h2,h3,h4,h5=>by
   unfold W.kas_place
   by_cases e:l≥r
   ·rw[if_pos e]
    exact hG l (by lia) h4 fun i hi hik=>h5 i (by lia) hik
   ·rw[if_neg e]
    refine hc _ _ _ (hp.lt hk) (hp.lt (by lia)) ?_
    by_cases e2:key (p.getD k 0) < key (p.getD ((l+r) / 2) 0)
    ·rw[decide_eq_true e2]
     refine Yng hp hk hu hG f l ((l+r) / 2) (by lia) (by lia) (by lia) h4 fun i hi hik=>?_
     by_cases e3:i=(l+r) / 2
     ·rw[e3];exact e2
     ·exact Nat.lt_trans e2 (hu _ i (by lia) hik)
    ·rw[decide_eq_false e2]
     have hne:key (p.getD k 0)≠key (p.getD ((l+r) / 2) 0):=fun z=>by
      have:=hp.inj hk (by lia) (hinj _ _ (hp.lt hk) (hp.lt (by lia)) z)
      lia
     refine Yng hp hk hu hG f ((l+r) / 2+1) r h1 (by lia) (by lia) (fun i hi=>?_) h5
     by_cases e3:i=(l+r) / 2
     ·rw[e3];lia
     ·exact Nat.lt_trans (hu i ((l+r) / 2) (by lia) (by lia)) (by lia)
omit hinj hc in
theorem Yw2{p:Array Nat}(hp:PmOk n p){k l:Nat}(hk:k < n)(hl:l≤k)(hu:Up key p k)(h1:∀i,i < l→key (p.getD i 0) < key (p.getD k 0))(h2:∀i,l≤i→i < k→key (p.getD k 0) < key (p.getD i 0)) :
 PmOk n (bubble p k (k - l))∧Up key (bubble p k (k - l)) (k+1):=by
 have hs:=hp.size
 refine⟨(bubble_perm p k _).toList.trans hp,fun i j hij hj=>?_⟩
 have e:∀x,(bubble p k (k - l)).getD x 0=if x=l then p.getD k 0 else if l < x∧x≤k then p.getD (x - 1) 0 else p.getD x 0:=fun x=>by
  have hb:=getElem?_bubble (xs:=p) (src:=k) (by lia) (k - l) (by lia) x
  rw[show k - (k - l)=l by lia]at hb
  by_cases c1:x=l
  ·rw[if_pos c1]at hb ⊢
   exact Ynf hb
  ·rw[if_neg c1]at hb ⊢
   by_cases c2:l < x∧x≤k
   ·rw[if_pos c2]at hb ⊢
    exact Ynf hb
   ·rw[if_neg c2]at hb ⊢
    exact Ynf hb
 rw[e i,e j]
 by_cases ci:i=l
 ·rw[if_pos ci,if_neg (by lia),if_pos (by lia)]
  exact h2 _ (by lia) (by lia)
 ·rw[if_neg ci]
  by_cases ci2:l < i∧i≤k
  ·rw[if_pos ci2,if_neg (by lia),if_pos (by lia)]
   exact hu _ _ (by lia) (by lia)
  ·rw[if_neg ci2]
   by_cases cj:j=l
   ·rw[if_pos cj]
    exact h1 i (by lia)
   ·rw[if_neg cj]
    by_cases cj2:l < j∧j≤k
    ·rw[if_pos cj2]
     exact hu _ _ (by lia) (by lia)
    ·rw[if_neg cj2]
     exact hu _ _ hij (by lia)
theorem y0x{G:Array Nat→Shared→Prop}(hG:∀q,PmOk n q→Up key q n→G q s):∀(f:Nat) (p:Array Nat) (k:Nat),f+k=n→PmOk n p→Up key p k→(W.kas_bin f p k).kasWp cmp G s
 | 0,p,k,h1,hp,hu=>hG p hp (by rw[←h1,Nat.zero_add];exact hu)
 | f+1,p,k,h1,hp,hu=>by
   unfold W.kas_bin
   rw[W.KasT.kasWp_bind]
   refine Yng hinj hc hp (by lia) hu (fun l hl q1 q2=>?_) k 0 k (qt _) (Qe _) (by lia) (fun i hi=>absurd hi (by lia)) fun i hi hik=>absurd hik (by lia)
   obtain⟨r1,r2⟩:=Yw2 hp (show k < n by lia) hl hu q1 q2
   exact y0x hG f _ (k+1) (by lia) r1 r2
theorem y26(h2:2≤n){G:Array Nat→Shared→Prop}(hG:∀q,PmOk n q→Up key q n→G q s):(W.kas_sort n).kasWp cmp G s:=by
 unfold W.kas_sort
 rw[W.KasT.kasWp_bind]
 refine Yzm hinj hc h2 (show PmOk n (List.toArray (List.range n)) by unfold PmOk;simp) fun m q h1 hm hq hu=>?_
 dsimp only
 by_cases e:m < n
 ·rw[if_pos e,show max m 1=m by lia]
  exact y0x hinj hc hG (n - m) q m (by lia) hq hu
 ·rw[if_neg e]
  have:m=n:=by lia
  subst this
  exact hG q hq hu
end
noncomputable def bLt:List Bool→List Bool→Bool
 | a::x,b::y=>if a=b then bLt x y else (!a&&b)
 | _,_=>false
noncomputable def bV:List Bool→Nat
 | []=>0
 | b::r=>(if b then 2 ^ r.length else 0)+bV r
theorem Yub:∀bs:List Bool,bV bs < 2 ^ bs.length
 | []=>by decide
 | b::r=>by
   have:=Yub r
   rw[bV,qq,Nat.pow_succ]
   cases b<;>simp<;>lia
theorem y0y:∀{x y:List Bool},x.length=y.length→bLt x y=decide (bV x < bV y)
 | [],[],_=>rfl
 | a::x,b::y,h=>by
   have hl:x.length=y.length:=by simpa using h
   have ih:=y0y hl
   have h1:=Yub x
   have h2:=Yub y
   rw[bLt,bV,bV,hl]
   rw[hl]at h1
   cases a<;>cases b
   ·simpa using ih
   ·simp;lia
   ·simp;lia
   ·simpa using ih
theorem Yw3:∀{x y:List Bool},x.length=y.length→bV x=bV y→x=y
 | [],[],_,_=>rfl
 | a::x,b::y,h,e=>by
   have hl:x.length=y.length:=by simpa using h
   have h1:=Yub x
   have h2:=Yub y
   rw[bV,bV,hl]at e
   rw[hl]at h1
   cases a<;>cases b
   ·rw[Yw3 hl (by simpa using e)]
   ·simp at e;lia
   ·simp at e;lia
   ·rw[Yw3 hl (by simpa using e)]
section
variable {prog:Program} {w:World} {A:Around} {E:Value→Shared→Prop} {s:Shared}
theorem Yuc{p q:Bool}{Q:Bool→Shared→Prop}(h:Q (!p&&q) s):wpAny (model prog w) A (oneLt' true (.bool p) (.bool q)) Q E s:=by
 rw[oneLt'_eq]
 simp only[if_true]
 refine wpAny_bind (wpAny_cRoomFor_byValue rfl ?_)
 refine wpAny_bind (wpAny_callSpecialIfBound?_slot (typeIs_bool' s p) F.slot_bool_lt (call_gives F.slot_bool_lt rfl F.entry_int_lt (F.args_int_lt_2 _ _) (gives_int_lt_bools p q) ?_))
 refine wpAny_truthy_bool ?_
 cases p<;>cases q<;>exact h
theorem Ypk:∀(x y:List Bool) (i:Nat) {Q:Bool→Shared→Prop},x.length=y.length→Q (bLt x y) s→W.KatLex prog w A true false Q ((x.map Value.bool).zip (y.map Value.bool)) i s
 | [],[],i,Q,_,h=>W.kat_nil h
 | a::x,b::y,i,Q,hl,h=>by
   rw[bLt]at h
   rw[Qc,Qc,List.zip_cons_cons]
   refine W.kat_cons (SeqAt.EqAt.bool_bool a b prog w _ _ (W.kat_go (fun e=>W.kat_yes (Ypk x y (i+1) (by simpa using hl) ?_)) fun e=>W.kat_no ?_))
   ·have e':a=b:=by simpa using e
    rw[if_pos e']at h
    exact h
   ·have e':¬a=b:=by simpa using e
    rw[if_neg e']at h
    cases i with
    | zero=>exact Yuc h
    | succ i=>
      show wpAny _ _ (oneLt' false _ _) _ _ _
      refine W.kat_one _ _ (lt_bool ?_)
      show Q _ s
      cases a<;>cases b<;>first | exact h | exact absurd rfl e'
theorem y6j{b c:Addr}{x y:List Bool}{Q:Bool→Shared→Prop}(hc:TupB s.heap c x)(hb:TupB s.heap b y)(hl:x.length=y.length)(h:Q (bLt x y) s):wpAny (model prog w) A (keyLt' (tuples' true) (.ref c) (.ref b)) Q E s:=by
 obtain⟨_,oc,n2,h2,_,d2⟩:=hc
 obtain⟨_,ob,n1,h1,_,d1⟩:=hb
 refine W.kat_lt h2 d2 h1 d1 ?_
 have hf:decide ((x.map Value.bool).toArray.size < (y.map Value.bool).toArray.size)=false:=by simp[hl]
 rw[hf,List.toList_toArray,List.toList_toArray]
 exact Ypk x y 0 hl h
theorem Ypl{L:Addr}{us:List (Addr × List Bool)}{m:Nat}{Q:Fin→Shared→Prop}(hoS:s.heap.get? L=some (seqObj "list" (us.map fun u=>Value.ref u.1).toArray 0))(ht:∀u∈us,TupB s.heap u.1 u.2∧u.2.length=m)(hn:(us.map (·.2)).Nodup)(h64:us.length < 64)(hL:∀u∈us,u.1≠L)
 (hQ:∀(h':Heap) (e:Nat) (us':List (Addr × List Bool)),us'.Perm us→us'.Pairwise (fun u v=>bV u.2 < bV v.2)→(∀b o,b≠L→s.heap.get? b=some o→h'.get? b=some o)→h'.get? L=some (seqObj "list" (us'.map fun u=>Value.ref u.1).toArray e)→Q (.done (.ret .none)) { s with heap:=h' }) :
 wpAny (model prog w) A (Builtin.«list.sort» ⟨[.ref L],[]⟩) Q E s:=by
 by_cases h2:us.length < 2
 ·refine Ywg hoS (by simpa using h2) fun h' e k1 k2=>hQ h' e us (.refl _) ?_ k1 k2
  rcases us with _ | ⟨u,_ | ⟨v,r⟩⟩
  ·exact .nil
  ·simp
  ·exfalso
   rw[qq,qq]at h2
   lia
 obtain⟨vs,hvs⟩:∃vs,(us.map fun u=>Value.ref u.1)=vs:=⟨_,rfl⟩
 rw[hvs]at hoS
 have hlen:vs.length=us.length:=by rw[←hvs,qe]
 rw[list_sort_plain]
 have ha:L < s.heap.objs.size:=qk hoS
 refine wpAny_bind (listItems_at hoS rfl ?_)
 refine wpAny_bind (listUpdate_at hoS rfl ?_ (by rw[qj,sizeLine_eq];lia) (Qe _))
 obtain⟨e1,ho1⟩:∃e1,(s.heap.update L (Obj.mapSeq fun _=>#[])).get? L=some (seqObj "list" #[] e1):=⟨_,get?_update_seq hoS (fun _=>#[])⟩
 refine wpAny_bind (seqEpoch_at ho1 rfl ?_)
 refine wpAny_bind (wpAny_newTuple ?_ (by show vs.length≤_;rw[sizeLine_eq];lia))
 refine wpAny_bind (wpAny_newList ?_ (Qe _))
 refine wpAny_holding ?_
 have ho6:(((s.heap.update L (Obj.mapSeq fun _=>#[])).push (seqObj "tuple" vs.toArray 0)).push (seqObj "list" #[] 0)).get? L=some (seqObj "list" #[] e1):=by
  rw[Heap.get?_push_ne _ _ _ (by rw[size_push',Heap.size_update];exact ql (qv ha)),Heap.get?_push_ne _ _ _ (by rw[Heap.size_update];exact ql ha)]
  exact ho1
 have keep6:∀b o,b≠L→s.heap.get? b=some o→(((s.heap.update L (Obj.mapSeq fun _=>#[])).push (seqObj "tuple" vs.toArray 0)).push (seqObj "list" #[] 0)).get? b=some o:=fun b o hb q=>by
  refine qd _ (qd _ ?_)
  rw[Heap.get?_update_ne _ _ _ _ hb]
  exact q
 show wpAny (model prog w) _ _ _ _ { s with heap:=((s.heap.update L (Obj.mapSeq fun _=>#[])).push (seqObj "tuple" vs.toArray 0)).push (seqObj "list" #[] 0) }
 generalize ((s.heap.update L (Obj.mapSeq fun _=>#[])).push (seqObj "tuple" vs.toArray 0)).push (seqObj "list" #[] 0)=h6 at ho6 keep6 ⊢
 generalize hS6:({ s with heap:=h6 }:Shared)=S6
 have ho7:S6.heap.get? L=some (seqObj "list" #[] e1):=by rw[←hS6];exact ho6
 have ht6:∀u∈us,TupB S6.heap u.1 u.2:=fun u hu=>(ht u hu).1.keep fun o e=>by rw[←hS6];exact keep6 u.1 o (hL u hu) e
 dsimp only
 have hn2:¬vs.toArray.size < 2:=by rw[qj];lia
 rw[if_neg hn2,if_neg hn2]
 have hm1:∀u∈us,1≤u.2.length:=fun u hu=>Classical.byContradiction fun z=>by
  have hz:m=0:=by have:=(ht u hu).2;lia
  rcases us with _ | ⟨u1,_ | ⟨u2,r⟩⟩
  ·simp at h2
  ·simp at h2
  ·have a1:=(ht u1 (by simp)).2
   have a2:=(ht u2 (by simp)).2
   rw[hz]at a1 a2
   rw[Qc,Qc,List.eq_nil_of_length_eq_zero a1,List.eq_nil_of_length_eq_zero a2]at hn
   simp at hn
 have kt:W.KatTups S6.heap vs (us.map fun u=>Value.bool (u.2.headD false)):=by
  rw[←hvs]
  clear hvs hlen hn2 hoS hQ h64 hn hL ht h2
  induction us with
  | nil=>exact .nil
  | cons u us ih=>
    obtain⟨_,o,k,q1,q2,q3⟩:=ht6 u qg
    have hne:=hm1 u qg
    rw[Qc,Qc]
    refine .cons q1 q2 q3 ?_ (ih (fun v hv=>ht6 v (qf _ hv)) fun v hv=>hm1 v (qf _ hv))
    cases hu:u.2 with
    | nil=>rw[hu]at hne;simp at hne
    | cons b r=>simp
 refine wpAny_bind (W.kat_kind (T:=.type "bool") kt (by rw[qe];lia) (fun v hv=>?_) (by decide) ?_)
 ·obtain⟨u,_,rfl⟩:=qw hv
  exact .of_pure rfl
 show wpAny _ _ _ _ _ S6
 have hat:∀i,i < us.length→∃u∈us,us[i]?=some u∧vs.getD i Value.none=.ref u.1∧(us.getD i (0,[]))=u:=fun i hi=>by
  refine⟨us[i],qx hi,qp hi,?_,by simp[hi]⟩
  rw[←hvs]
  simp[hi]
 have hinj:∀i j,i < us.length→j < us.length→bV (us.getD i (0,[])).2=bV (us.getD j (0,[])).2→i=j:=fun i j hi hj e=>by
  obtain⟨u,hu,u1,_,u3⟩:=hat i hi
  obtain⟨v,hv,v1,_,v3⟩:=hat j hj
  rw[u3,v3]at e
  have huv:=Yw3 (by rw[(ht u hu).2,(ht v hv).2]) e
  have hi':i < (us.map (·.2)).length:=by simpa using hi
  have hj':j < (us.map (·.2)).length:=by simpa using hj
  refine(List.getElem_inj (h₀:=hi') (h₁:=hj') hn).mp ?_
  rw[List.getElem_map,List.getElem_map]
  have e1:us[i]=u:=by rw[qp hi]at u1;exact Option.some.inj u1
  have e2:us[j]=v:=by rw[qp hj]at v1;exact Option.some.inj v1
  rw[e1,e2]
  exact huv
 refine wpAny_bind (wpAny_mono (W.kat_run (ks:=vs) (vs:=vs) (κ:=tuples' true) (G:=fun pm s'=>s'=S6∧PmOk us.length pm∧Up (fun i=>bV (us.getD i (0,[])).2) pm us.length)
  (Q:=fun st' s'=>s'=S6∧failedOf st'=none∧∃us':List (Addr × List Bool),us'.Perm us∧us'.Pairwise (fun u v=>bV u.2 < bV v.2)∧(arrOf st').map (·.2)=(us'.map fun u=>Value.ref u.1).toArray) rfl (by lia) (by lia) (fun pm st' s' a1 a2 a3 a4=>?_) ?_) ?_ fun _ _ e=>e)
 ·obtain⟨rfl,b1,b2⟩:=a4
  refine⟨rfl,a3,pm.toList.map fun i=>us.getD i (0,[]),?_,?_,?_⟩
  ·refine(b1.map _).trans ?_
   have:(List.range us.length).map (fun i=>us.getD i (0,[]))=us:=by
    refine List.ext_getElem (by simp) fun i h1 h2=>?_
    have hi:i < us.length:=h2
    simp[hi]
   rw[this]
  ·rw[List.pairwise_map]
   rw[List.pairwise_iff_getElem]
   intro i j hi hj hij
   have hs:=b1.size
   rw[qi]at hi hj
   have:=b2 i j hij (by lia)
   simp only[Array.getD,hi,hj,dif_pos]at this
   exact this
  ·rw[W.kat_snds rfl a2,List.map_map]
   congr 1
   refine List.map_congr_left fun i hi=>?_
   have hi':i < us.length:=Qa (b1.mem_iff.mp hi)
   obtain⟨u,_,_,u2,u3⟩:=hat i hi'
   show vs.getD i Value.none=Value.ref (us.getD i (0,[])).1
   rw[u2,u3]
 ·rw[hlen]
  refine y26 hinj (fun i j C hi hj hC=>?_) (by lia) fun q hq hu=>⟨rfl,hq,hu⟩
  obtain⟨u,hu,_,u2,u3⟩:=hat i hi
  obtain⟨v,hv,_,v2,v3⟩:=hat j hj
  show wpAny (model prog w) A (keyLt' (tuples' true) (vs.getD i Value.none) (vs.getD j Value.none)) C (fun _ _=>False) S6
  rw[u2,v2]
  have hl:=(ht u hu).2.trans (ht v hv).2.symm
  refine y6j (ht6 u hu) (ht6 v hv) hl ?_
  rw[y0y hl]
  rw[u3,v3]at hC
  exact hC
 rintro⟨⟨⟩,st'⟩ s' ⟨rfl,hf,us',hp',hw',hout⟩
 dsimp only
 refine wpAny_bind (seqEpoch_at ho7 rfl ?_)
 refine wpAny_bind (listUpdate_at ho7 rfl ?_ (Qe _) (by rw[hout,sizeLine_eq,qj,qe,hp'.length_eq];lia))
 rw[hf]
 simp only[bne_self_eq_false,Bool.false_eq_true,if_false]
 refine wpAny_pure ?_
 rw[hout]
 have hfin:=get?_update_seq ho7 (fun _=>(us'.map fun u=>Value.ref u.1).toArray)
 subst hS6
 exact hQ _ _ us' hp' hw' (fun b o hb q=>by rw[Heap.get?_update_ne _ _ _ _ hb];exact keep6 b o hb q) hfin
theorem Ypm{α β:Type}(f:α→β){l m:List β}(h:l.Perm m):∀us:List α,m=us.map f→∃us1:List α,us1.Perm us∧l=us1.map f:=by
 induction h with
 | nil=>
   intro us e
   rw[List.map_eq_nil_iff.mp e.symm]
   exact⟨[],.refl _,rfl⟩
 | cons x _ ih=>
   intro us e
   cases us with
   | nil=>cases e
   | cons u r=>
     rw[Qc]at e
     injection e with e1 e2
     obtain⟨us1,h1,h2⟩:=ih r e2
     exact⟨u::us1,h1.cons u,by rw[h2,e1];rfl⟩
 | swap x y l=>
   intro us e
   cases us with
   | nil=>cases e
   | cons u r=>
     cases r with
     | nil=>cases e
     | cons v r=>
       rw[Qc,Qc]at e
       injection e with e1 e2
       injection e2 with e2 e3
       exact⟨v::u::r,.swap u v r,by rw[e1,e2,e3];rfl⟩
 | trans _ _ ih1 ih2=>
   intro us e
   obtain⟨b,hb,rfl⟩:=ih2 us e
   obtain⟨c,hc,e2⟩:=ih1 b rfl
   exact⟨c,hc.trans hb,e2⟩
theorem Yrk{a:Addr}{vs:List Value}{us:List (Addr × List Bool)}{m:Nat}(hh:A.handled=none)(hS:SetV w s.heap a vs)(hpm:vs.Perm (us.map fun u=>Value.ref u.1))(ht:∀u∈us,TupB s.heap u.1 u.2∧u.2.length=m)(hn:(us.map (·.2)).Nodup)(h64:us.length < 64){Q:Value→Shared→Prop}
 (hQ:∀(h':Heap) (d':Drawn) (tk e:Nat) (p:Addr) (us':List (Addr × List Bool)),us'.Perm us→us'.Pairwise (fun u v=>bV u.2 < bV v.2)→(∀b o,s.heap.get? b=some o→h'.get? b=some o)→s.heap.objs.size≤p→h'.get? p=some (seqObj "list" (us'.map fun u=>Value.ref u.1).toArray e)→Q (.ref p) { s with heap:=h',drawn:=d',toks:=tk }) :
 wpAny (model prog w) A (call (.builtin "sorted") [.ref a]) Q E s:=by
 refine Calls.call_function_entry kind_sorted plain_sorted entry_sorted (args_sorted1 _) ?_
 unfold Builtin.«sorted»
 refine wpAny_bind (m:=checkCount "sorted" 1 1 _) (wpAny_pure ?_)
 refine wpAny_bind (Yi2 (A:=A.in1) hh hS fun h' d' tk acc hle keep hp'=>?_)
 have hpa:=hp'.trans hpm
 obtain⟨us1,hp1,rfl⟩:∃us1:List (Addr × List Bool),us1.Perm us∧acc=us1.map fun u=>Value.ref u.1:=by
  exact Ypm _ hpa us rfl
 have hl:us1.length < 64:=by rw[hp1.length_eq];exact h64
 refine wpAny_bind (wpAny_newList ?_ (by rw[qe,sizeLine_eq];lia))
 have hoL:(h'.push (seqObj "list" (us1.map fun u=>Value.ref u.1).toArray 0)).get? h'.objs.size=some (seqObj "list" (us1.map fun u=>Value.ref u.1).toArray 0):=qo _ rfl
 show wpAny _ _ _ _ _ { s with heap:=h'.push (seqObj "list" (us1.map fun u=>Value.ref u.1).toArray 0),drawn:=d',toks:=tk }
 have hul:∀u∈us1,u.1 < s.heap.objs.size:=fun u hm=>by
  obtain⟨_,o,_,ho,_⟩:=(ht u (hp1.mem_iff.mp hm)).1
  exact qk ho
 refine wpAny_bind (wpAny_holding (wpAny_call_entry slot_list_sort ⟨_,hoL,rfl⟩ entry_list_sort (Ypl (us:=us1) (m:=m) (s:={ s with heap:=h'.push (seqObj "list" (us1.map fun u=>Value.ref u.1).toArray 0),drawn:=d',toks:=tk }) hoL (fun u hu=>⟨(ht u (hp1.mem_iff.mp hu)).1.keep fun o e=>qd _ (keep u.1 o e),(ht u (hp1.mem_iff.mp hu)).2⟩) ((hp1.map _).nodup_iff.mpr hn) hl (fun u hm=>ql (Qd (hul u hm) hle)) fun h2' e us' q1 q2 k1 k2=>⟨_,rfl,?_⟩) (args_list_sort _)))
 refine wpAny_pure ⟨_,rfl,hQ h2' d' tk e h'.objs.size us' (q1.trans hp1) q2 (fun b o eb=>?_) hle k2⟩
 have hb:=qk (keep b o eb)
 exact k1 b o (ql hb) (qd _ (keep b o eb))
end
end
section
noncomputable def allB:Nat→List (List Bool)
 | 0=>[[]]
 | n+1=>(allB n).map (false::·)++(allB n).map (true::·)
theorem Ye2:∀(n:Nat) {x:List Bool},x∈allB n→x.length=n
 | 0,x,h=>by rw[List.mem_singleton.mp h];rfl
 | n+1,x,h=>by
   rcases qu h with h | h
   ·obtain⟨y,hy,rfl⟩:=qw h
    rw[qq,Ye2 n hy]
   ·obtain⟨y,hy,rfl⟩:=qw h
    rw[qq,Ye2 n hy]
theorem Yjs:∀(x:List Bool),x∈allB x.length
 | []=>qg
 | b::x=>by
   have ih:=Yjs x
   refine List.mem_append.mpr ?_
   cases b
   ·exact .inl (List.mem_map_of_mem ih)
   ·exact .inr (List.mem_map_of_mem ih)
theorem Yrl:∀n,(allB n).Pairwise fun x y=>bV x < bV y
 | 0=>by simp[allB]
 | n+1=>by
   have ih:=Yrl n
   rw[allB,List.pairwise_append]
   refine⟨?_,?_,fun x hx y hy=>?_⟩
   ·rw[List.pairwise_map]
    exact ih.imp fun h=>by simpa [bV]using h
   ·rw[List.pairwise_map]
    refine List.Pairwise.imp_of_mem (fun {x y} hx hy h=>?_) ih
    have h1:=Ye2 n hx
    have h2:=Ye2 n hy
    simp[bV,h1,h2]
    exact h
   ·obtain⟨a,ha,rfl⟩:=qw hx
    obtain⟨b,hb,rfl⟩:=qw hy
    have h1:=Yub a
    have h2:=Ye2 n ha
    have h3:=Ye2 n hb
    simp[bV,h3]
    rw[h2]at h1
    lia
theorem Yrm{m:Nat}{l ks:List (List Bool)}(hp:l.Pairwise fun x y=>bV x < bV y)(hl:∀x∈l,x.length=m)(hm:∀x,x∈l↔x∈ks):l=(allB m).filter fun x=>decide (x∈ks):=by
 have h1:((allB m).filter fun x=>decide (x∈ks)).Pairwise fun x y=>bV x < bV y:=(Yrl m).filter _
 have nd:∀{m:List (List Bool)},m.Pairwise (fun x y=>bV x < bV y)→m.Nodup:=fun h=>h.imp fun h z=>by rw[z]at h;exact Qf _ h
 have hperm:l.Perm ((allB m).filter fun x=>decide (x∈ks)):=(List.perm_ext_iff_of_nodup (nd hp) (nd h1)).mpr fun x=>by
  rw[List.mem_filter]
  constructor
  ·exact fun hx=>⟨hl x hx ▸ Yjs x,by simpa using (hm x).mp hx⟩
  ·exact fun hx=>(hm x).mpr (by simpa using hx.2)
 exact hperm.eq_of_pairwise (le:=fun x y=>bV x < bV y) (fun a b _ _ h1 h2=>absurd (Nat.lt_trans h1 h2) (Qf _)) hp h1
theorem Yks:∀n,(allB n).length=2 ^ n
 | 0=>rfl
 | n+1=>by rw[allB,qy,qe,qe,Yks n,Nat.pow_succ];lia
theorem Ykt:∀(r acc:List (Addr × List Bool)),(∀u∈Yes acc r,u∈acc∨u∈r)∧∀x,x∈(Yes acc r).map (·.2)↔x∈acc.map (·.2)∨x∈r.map (·.2)
 | [],acc=>⟨fun u h=>.inl h,fun x=>by simp[Yes]⟩
 | u::r,acc=>by
   obtain⟨h1,h2⟩:=Ykt r (if u.2∈acc.map (·.2)then acc else acc++[u])
   rw[Yes]
   constructor
   ·intro v hv
    rcases h1 v hv with z | z
    ·split at z
     ·exact .inl z
     ·rcases qu z with z | z
      ·exact .inl z
      ·rw[List.mem_singleton.mp z];exact .inr qg
    ·exact .inr (qf _ z)
   ·intro x
    rw[h2,Qc,List.mem_cons]
    split
    ·rename_i hin
     constructor
     ·rintro(z | z)
      ·exact .inl z
      ·exact .inr (.inr z)
     ·rintro(z | z | z)
      ·exact .inl z
      ·exact .inl (z ▸ hin)
      ·exact .inr z
    ·rw[List.map_append,List.mem_append]
     simp only[Qc,List.map_nil,List.mem_singleton]
     constructor
     ·rintro((z | z) | z)
      ·exact .inl z
      ·exact .inr (.inl z)
      ·exact .inr (.inr z)
     ·rintro(z | z | z)
      ·exact .inl (.inl z)
      ·exact .inl (.inr z)
      ·exact .inr z
theorem Ynh:∀(r acc:List (Addr × List Bool)),(acc.map (·.2)).Nodup→((Yes acc r).map (·.2)).Nodup
 | [],acc,h=>h
 | u::r,acc,h=>by
   rw[Yes]
   refine Ynh r _ ?_
   split
   ·exact h
   ·rename_i hin
    rw[List.map_append]
    exact List.nodup_append.mpr ⟨h,by simp,fun x hx y hy z=>by
     simp at hy
     subst hy
     exact hin (z ▸ hx)⟩
theorem Ys9{m:Nat}(hm:m≤4){us:List (Addr × List Bool)}(hn:(us.map (·.2)).Nodup)(hl:∀u∈us,u.2.length=m):us.length≤16:=by
 have hsub:us.map (·.2)⊆allB m:=fun x hx=>by
  obtain⟨u,hu,rfl⟩:=qw hx
  exact hl u hu ▸ Yjs u.2
 have:=List.Nodup.length_le_of_subset hn hsub
 rw[qe,Yks]at this
 have h2:2 ^ m≤2 ^ 4:=Nat.pow_le_pow_right (by decide) hm
 lia
def TpsA(H:Hp)(us:List (Addr × List Bool))(m:Nat):Prop:=∀u∈us,H u.1=some (.tup (u.2.map V.bl))∧u.2.length=m
noncomputable def y8b(K:W.Frag)(w:World):List V→Hp→VK→Prop:=fun xs H Q=>∃(a:Addr) (us:List (Addr × List Bool)) (m:Nat),xs=[.ref a]∧SqL K H a (us.map fun u=>V.ref u.1)∧TpsA H us m∧m≤4∧∀p vs,H p=none→vs.Perm ((Yes [] us).map fun u=>Value.ref u.1)→Q (.ref p) (upd H p (setW w p vs))
noncomputable def y6k(w:World):List V→Hp→VK→Prop:=fun xs H Q=>∃(a:Addr) (vs:List Value) (us:List (Addr × List Bool)) (m:Nat),xs=[.ref a]∧H a=some (setW w a vs)∧vs.Perm (us.map fun u=>Value.ref u.1)∧TpsA H us m∧m≤4∧(us.map (·.2)).Nodup∧
 ∀(p:Addr) (us':List (Addr × List Bool)),H p=none→us'.Perm us→us'.Pairwise (fun u v=>bV u.2 < bV v.2)→Q (.ref p) (upd H p (.lst (us'.map fun u=>V.ref u.1)))
section
variable {X:Cx}
theorem Yw4{pins:List (Addr × Obj)}{s:Shared}{σ:L2.St}{H:Hp}(I:Inv X pins σ H s){us:List (Addr × List Bool)}{m:Nat}(hm:m≤4)(x:TpsA H us m):∀u∈us,TupB s.heap u.1 u.2∧u.2.length=m:=fun u hu=>by
 obtain⟨h1,h2⟩:=x u hu
 obtain⟨its2,rv,⟨o,e,hc,n,hd⟩,_⟩:=I.tuple (xs:=u.2.map V.bl) (.of h1)
 cases Yjq rv
 exact⟨⟨by lia,o,n,e,hc,hd⟩,h2⟩
theorem Yud{us:List (Addr × List Bool)}{its:List Value}(r:Vals (us.map fun u=>V.ref u.1) its):its=us.map fun u=>Value.ref u.1:=by
 have h:Vals ((us.map (·.1)).map V.ref) its:=by rw[List.map_map];exact r
 rw[Ykp h,List.map_map]
 rfl
theorem Yue(us:List (Addr × List Bool)):Vals (us.map fun u=>V.ref u.1) (us.map fun u=>Value.ref u.1):=by
 have:=Ykq (us.map (·.1))
 rw[List.map_map,List.map_map]at this
 exact this
theorem Yw5(hc:X.calm=true)(hu:X.A.units+64 < cLine):Ycv X (.type "set") (y8b X.K X.w):=by
 intro pins s σ H xs us Q I r h
 obtain⟨a,us',m,rfl,hq,ht,hm,q⟩:=h
 obtain⟨u,rfl,rx⟩:=Yfb r
 cases rx
 have hh:X.A.handled=none:=I.ok.hd hc
 obtain⟨its,rv,pl,hz⟩:=I.list hq
 cases Yud rv
 have hta:=Yw4 I hm ht
 obtain⟨o1,o2⟩:=Ykt us' []
 have hfew:=Ys9 hm (Ynh us' [] .nil) (fun u hu=>by
  rcases o1 u hu with z | z
  ·exact nomatch z
  ·exact(ht u z).2)
 refine Yne hh (by lia) pl.isList (fun u hu=>(hta u hu).1) (by lia) fun h' tk hS hk=>?_
 obtain⟨vs,hV,hpm⟩:=hS.vals
 exact⟨.ref s.heap.objs.size,_,I.laid (t':=tk) hk (qt _) (Ywq hV),rfl,q _ vs (I.hok.fresh (qt _)) hpm⟩
theorem Yuf(hc:X.calm=true):Ycv X (.builtin "sorted") (y6k X.w):=by
 intro pins s σ H xs us Q I r h
 obtain⟨a,vs,us',m,rfl,ha,hpm,ht,hm,hn,q⟩:=h
 obtain⟨u,rfl,rx⟩:=Yfb r
 cases rx
 have hh:X.A.handled=none:=I.ok.hd hc
 have hS:SetV X.w s.heap a vs:=(show ObjOk X.prog X.w H s.heap a (setW X.w a vs) from I.hok a _ ha).1
 have hfew:=Ys9 hm hn fun u hu=>(ht u hu).2
 refine Yrk hh hS hpm (Yw4 I hm ht) hn (by lia) fun h' d' tk e p us2 hp1 hp2 keep hp he=>?_
 refine⟨.ref p,_,Inv.laid (t':=tk) (I.dr d') keep hp (show ObjOk X.prog X.w _ _ _ (.lst (us2.map fun u=>V.ref u.1)) from⟨?_,_,e,Yue _,he⟩),rfl,q _ us2 (I.hok.fresh hp) hp1 hp2⟩
 rw[qe,hp1.length_eq,sizeLine_eq]
 lia
end
noncomputable def tpB(bs:List Bool):D:=.tup (bs.map D.bl)
noncomputable def tpsD:List D→Option (List (List Bool))
 | []=>some []
 | .tup l::r=>(blsD l).bind fun bs=>(tpsD r).map (bs::·)
 | _=>none
noncomputable def Yw6(l:List D):Option (List D):=(tpsD l).bind fun ks=>match ks with
 | []=>some []
 | k::_=>if k.length≤4∧ks.all (fun x=>x.length==k.length)=true then some (((allB k.length).filter fun x=>decide (x∈ks)).map tpB)else none
theorem Yta:∀ks:List (List Bool),tpsD (ks.map tpB)=some ks
 | []=>rfl
 | k::ks=>by
   have hb:blsD (k.map D.bl)=some k:=by
    induction k with
    | nil=>rfl
    | cons b k ih=>rw[Qc,blsD,ih];rfl
   rw[Qc,tpB,tpsD,hb,Yta ks]
   rfl
theorem y0z{K:W.Frag}{G:Hp}:∀{l:List D} {ks:List (List Bool)} {xs:List V},tpsD l=some ks→RpL K G l xs→∃us:List (Addr × List Bool),us.map (·.2)=ks∧xs=us.map (fun u=>V.ref u.1)∧∀u∈us,G u.1=some (.tup (u.2.map V.bl))
 | [],ks,xs,e,r=>by
   rw[tpsD]at e
   cases e
   rw[RpL]at r
   subst r
   exact⟨[],rfl,rfl,fun u h=>nomatch h⟩
 | d::l,ks,xs,e,r=>by
   unfold tpsD at e
   split at e
   case h_1 he=>cases he
   case h_2 l1 r1 he=>
    injection he with he1 he2
    subst he1 he2
    obtain⟨bs,h1,e⟩:=qa e
    obtain⟨ks',h2,rfl⟩:=qb e
    rw[RpL]at r
    obtain⟨x,xr,rfl,rx,rr⟩:=r
    obtain⟨us,q1,rfl,q3⟩:=y0z h2 rr
    rw[Rp]at rx
    obtain⟨b,ys,rfl,hb,ry⟩:=rx
    cases Ykg h1
    cases Yra ry
    refine⟨(b,bs)::us,by rw[Qc,q1],rfl,fun u hu=>?_⟩
    rcases qr hu with rfl | hu
    ·exact hb
    ·exact q3 u hu
   case h_3=>cases e
theorem y00{K:W.Frag}{G:Hp}:∀(us:List (Addr × List Bool)),(∀u∈us,G u.1=some (.tup (u.2.map V.bl)))→RpL K G ((us.map (·.2)).map tpB) (us.map fun u=>V.ref u.1)
 | [],_=>.nil
 | u::us,h=>by
   refine .cons ?_ (y00 us fun v hv=>h v (qf _ hv))
   rw[tpB,Rp]
   refine⟨u.1,_,rfl,h u qg,?_⟩
   have:∀bs:List Bool,RpL K G (bs.map D.bl) (bs.map V.bl):=fun bs=>by
    induction bs with
    | nil=>exact .nil
    | cons b bs ih=>exact .cons (by rw[Rp]) ih
   exact this _
section
variable {X:Cx} {e:Expr} {f:Ro→Option D} {p p2 pos pos2:Pos}
noncomputable def Yf2(f:Ro→Option D):Ro→Option (List D):=fun ρ=>(b1 f lstL ρ).bind Yw6
@[simp] theorem ap_sortsetB{ρ:Ro}:Yf2 f ρ=((f ρ).bind lstL).bind Yw6:=nr0 rfl
theorem Yrn(hc:X.calm=true)(hu:X.A.units+64 < cLine)(hg:Gl X "sorted")(hm:X.mg "sorted"=none)(hg2:Gl X "set")(hm2:X.mg "set"=none)(ha:MC X e f)(hs:starEach [e] X.env=[(false,eval e X.env)]:=by rfl)
 (he:starEach [.Call (.Name "set" p2) [e] [] pos2] X.env=[(false,eval (.Call (.Name "set" p2) [e] [] pos2) X.env)]:=by rfl)
 (hpl:(backTo pos2 (starEach [] X.env)).any (·.1)=false:=by rfl) (hpl2:(backTo pos (starEach [] X.env)).any (·.1)=false:=by rfl) :
 MF X (.Call (.Name "sorted" p) [.Call (.Name "set" p2) [e] [] pos2] [] pos) (Yf2 f):=
 PE.imp (Yfx (Yuf hc) hg hm boot_sorted (Ydn (Yfc (Yw5 hc hu) hg2 hm2 boot_set (Ym6 ha Yq6 hs) (by decide) (by decide) hs hpl) Ygz he) (by decide) (by decide) he hpl2) fun σ H Q hx_=>by
  obtain⟨ρ,l,H0,G0,G,e,s,h⟩:=hx_
  unfold Yf2 at e
  obtain⟨l0,h1,e⟩:=qa e
  obtain⟨d,h2,h3⟩:=Ych h1
  refine tCAof.at (show Yg f aNil ρ=some [d] by simp[Yg,aNil,h2]) s fun vs H1 G1 g1 r1 s1=>?_
  obtain⟨v,rfl,rv⟩:=Yc5 r1
  unfold lstL at h3
  split at h3
  case h_2=>cases h3
  cases h3
  rw[Ct]at rv
  obtain⟨a,xs,rfl,hq,rl⟩:=rv
  unfold Yw6 at e
  obtain⟨ks,hks,e⟩:=qa e
  obtain⟨us,q1,rfl,q3⟩:=y0z hks rl
  obtain⟨m,hm4,hlen,hres⟩:∃m,m≤4∧(∀x∈ks,x.length=m)∧l=((allB m).filter fun x=>decide (x∈ks)).map tpB:=by
   cases ks with
   | nil=>
     cases e
     refine⟨0,by lia,fun x hx=>(nomatch hx),?_⟩
     simp
   | cons k kr=>
     dsimp only at e
     split at e
     case isFalse=>cases e
     rename_i hcnd
     cases e
     exact⟨k.length,hcnd.1,fun x hx=>by simpa using List.all_eq_true.mp hcnd.2 x hx,rfl⟩
  have htp:TpsA H1 us m:=fun u hu=>⟨s1.seen _ _ (q3 u hu),hlen u.2 (q1 ▸ List.mem_map_of_mem (f:=(·.2)) hu)⟩
  obtain⟨o1,o2⟩:=Ykt us []
  have hsub:∀u∈Yes [] us,u∈us:=fun u hu=>by
   rcases o1 u hu with z | z
   ·exact nomatch z
   ·exact z
  refine⟨a,us,m,rfl,.inl hq,htp,hm4,fun r rs hr hp=>?_⟩
  have g2:=Gr.hid s1.seen hr (setW X.w r rs)
  have s2:=s1.grow g2
  refine⟨r,rs,Yes [] us,m,rfl,y0,hp,fun u hu=>⟨?_,(htp u (hsub u hu)).2⟩,hm4,Ynh us [] .nil,fun t us' ht hp1 hp2=>?_⟩
  ·rw[Yaa (y9 (htp u (hsub u hu)).1 hr)]
   exact(htp u (hsub u hu)).1
  ·have hl:l=(us'.map (·.2)).map tpB:=by
    rw[hres]
    congr 1
    refine(Yrm (ks:=ks) (List.pairwise_map.mpr hp2) (fun x hx=>?_) fun x=>?_).symm
    ·obtain⟨u,hu,rfl⟩:=qw hx
     exact(htp u (hsub u (hp1.mem_iff.mp hu))).2
    ·rw[(hp1.map (·.2)).mem_iff,o2,q1]
     simp
   refine h t _ _ G1 ((g1.trans g2).trans (.hid s2.seen ht _)) ((g1.trans g2).h.free ht) (s2.seen.free ht) y0 ?_
   rw[hl]
   exact y00 us' fun u hu=>q3 u (hsub u (hp1.mem_iff.mp hu))
noncomputable def sExp(f:Ro→Option D):Ro→Option Out:=fun ρ=>(f ρ).map fun _=>.nx ρ
@[simp] theorem ap_sExp{ρ:Ro}:sExp f ρ=(f ρ).map fun _=>.nx ρ:=nr0 rfl
theorem y27(he:ME X e f)(hse:swapsWith e none pos.line X.env=pure false:=by rfl):MS X (.Expr e pos) (sExp f):=PS.imp (Ymv he hse) fun F σ H hx_=>by
 obtain⟨ρ,out,H0,G0,G,e,s,h⟩:=hx_
 obtain⟨d,h1,rfl⟩:=qb e
 exact tOf.at h1 s fun v H1 G1 g1 r1 s1=>h σ H1 G1 s1
theorem Ytb:∀(us:List Value) (k:Nat),(∀(i:Nat) v,us[i]?=some v→∃t,v=.int ((k:Int)+(i:Nat)) t)→Vals ((List.range us.length).map fun i=>V.int ((k:Int)+(i:Nat))) us
 | [],_,_=>.nil
 | u::us,k,h=>by
   rw[qq,List.range_succ_eq_map,Qc,List.map_map]
   refine .cons ?_ ?_
   ·obtain⟨t,ht⟩:=h 0 u rfl
    exact⟨t,by simpa using ht⟩
   ·have:=Ytb us (k+1) fun i v hv=>by
     obtain⟨t,ht⟩:=h (i+1) v (by simpa using hv)
     exact⟨t,by rw[ht];congr 1;push_cast;lia⟩
    have e:((fun i:Nat=>V.int ((k:Int)+(i:Nat))) ∘ Nat.succ)=fun i:Nat=>V.int (((k+1:Nat):Int)+(i:Nat)):=by
     funext i
     show V.int _=V.int _
     congr 1
     push_cast
     lia
    rw[e]
    exact this
noncomputable def tLR(ta:TA):TE:=fun σ H Q=>ta σ H fun vs H1=>∃j:Int,vs=[.int j]∧-1000000≤j∧j≤1000000∧∀l,H1 l=none→Q (.ref l) (upd H1 l (.lst ((List.range j.toNat).map fun i:Nat=>V.int (0+(i:Nat)))))
theorem Ypn{a:Expr}{ta:TA}(hc:X.calm=true)(hg:Gl X "list")(hm:X.mg "list"=none)(hg2:Gl X "range")(hm2:X.mg "range"=none)(ha:PA X [a] ta)(hs:starEach [a] X.env=[(false,eval a X.env)]:=by rfl)
 (he:starEach [.Call (.Name "range" p2) [a] [] pos2] X.env=[(false,eval (.Call (.Name "range" p2) [a] [] pos2) X.env)]:=by rfl) :
 PE X (.Call (.Name "list" p) [.Call (.Name "range" p2) [a] [] pos2] [] pos) (tLR ta):=by
 intro pins s σ H Q I h
 refine wpAny_Call_Name_kw (Yj1 I hg hm boot_list ?_ (by decide) (by decide))
 refine PyProof.Rows.callWith_type1 ?_ he rfl
 rw[he]
 refine Calls.spliced_cons (Call_ (Yj1 I hg2 hm2 boot_range (PyProof.Rows.callWith_type1 (thn (ha pos2 pins s σ H _ I h) fun us s1 hx=>?_) hs rfl)))
 obtain⟨vs,H1,I1,r1,j,rfl,hj1,hj2,q⟩:=hx
 cases r1 with
 | cons r rr=>
   cases rr
   obtain⟨t,rfl⟩:=r
   refine call_range_1 (Calls.spliced_nil ?_)
   have hh:X.A.handled=none:=I1.ok.hd hc
   have hsz:(s1.heap.push { cls:=.type "range",data:=.fields #[.int 0 s1.toks,.int j t,.int 1 (s1.toks+1)] }).objs.size=s1.heap.objs.size+1:=Heap.size_push ..
   refine call_list_range hh (IsRange.new ..) (small_one (by lia) (by lia) (by lia) (by lia)) (n:=j.toNat) (by rw[rangeSize_one];split<;>lia) (by lia) fun h' tk acc' c' hk hS' hacc=>?_
   have hS2:h'.get? (s1.heap.objs.size+1)=some { cls:=.type "list",dict:=none,data:=.seq acc' c',slots:=#[] }:=by rw[←hsz];exact hS'
   have hv:Vals ((List.range j.toNat).map fun i:Nat=>V.int (0+(i:Nat))) acc'.toList:=by
    have:=Ytb acc'.toList 0 fun i v hv=>by
     obtain⟨t,ht⟩:=hacc.2 i v (by rw[←Array.getElem?_toList];exact hv)
     exact⟨t,by rw[ht];congr 1;simp⟩
    rw[qi,hacc.1]at this
    exact this
   refine⟨.ref (s1.heap.objs.size+1),upd H1 (s1.heap.objs.size+1) (.lst ((List.range j.toNat).map fun i:Nat=>V.int (0+(i:Nat)))),?_,?_,q _ (I1.hok.fresh (Nat.le_succ _))⟩
   ·refine I1.laid (t':=tk) (fun b o e=>hk b o (qd _ e)) (Nat.le_succ _) (show ObjOk X.prog X.w _ _ _ (.lst ((List.range j.toNat).map fun i:Nat=>V.int (0+(i:Nat)))) from⟨?_,acc'.toList,c',hv,by rw[Array.toArray_toList];exact hS2⟩)
    rw[qe,List.length_range,sizeLine_eq]
    lia
   ·show RelV (V.ref _) (Value.ref _)
    rw[hsz]
    rfl
theorem y28{K:W.Frag}{G:Hp}(l:List Nat):RpL K G (l.map fun i:Nat=>D.int (0+(i:Nat))) (l.map fun i:Nat=>V.int (0+(i:Nat))):=by
 induction l with
 | nil=>exact .nil
 | cons a l ih=>exact .cons (by rw[Rp]) ih
theorem Ypo{a:Expr}{ga:Ro→Option (List D)}(hc:X.calm=true)(hg:Gl X "list")(hm:X.mg "list"=none)(hg2:Gl X "range")(hm2:X.mg "range"=none)(ha:MA X [a] ga)(hs:starEach [a] X.env=[(false,eval a X.env)]:=by rfl)
 (he:starEach [.Call (.Name "range" p2) [a] [] pos2] X.env=[(false,eval (.Call (.Name "range" p2) [a] [] pos2) X.env)]:=by rfl) :
 MF X (.Call (.Name "list" p) [.Call (.Name "range" p2) [a] [] pos2] [] pos) (cF ga rng1):=
 PE.imp (Ypn hc hg hm hg2 hm2 ha hs he) fun σ H Q hx_=>by
  obtain⟨ρ,l,H0,G0,G,e,s,h⟩:=hx_
  unfold cF at e
  obtain⟨ds,h1,e⟩:=qa e
  obtain⟨n,rfl,hn1,hn2,rfl⟩:=Yo4 e
  refine tAof.at h1 s fun vs H1 G1 g1 r1 s1=>?_
  rw[RpL]at r1
  obtain⟨x,r,rfl,rx,r1⟩:=r1
  rw[RpL]at r1
  subst r1
  rw[Rp]at rx
  subst rx
  refine⟨n,rfl,hn1,hn2,fun m hm'=>h m _ _ G1 (g1.trans (.hid s1.seen hm' _)) (g1.h.free hm') (s1.seen.free hm') y0 ?_⟩
  unfold rngD
  rw[Int.sub_zero]
  exact y28 _
noncomputable def SEI(w:World):List DictEntry→List (Str × Int)→Prop:=Paired fun e p=>e.hash=PyData.keyHash w.params p.1∧(∃t,e.key=.str p.1 t)∧∃t,e.val=.int p.2 t
def GDI(K:W.Frag)(w:World)(mg:Str→Option Value)(x:Str)(kvs:List (Str × Int)):Prop:=∃p o es ep,mg x=some (.ref p)∧K.lookup p=some o∧o.ExactDict∧o.data=.dict es ep∧SEI w es.toList kvs
theorem Ytc{P:Program}{w:World}{k:Str}{v:Int}:∀{l:List DictEntry} {kvs:List (Str × Int)},SEI w l kvs→kvs.lookup k=some v→∃e t,l.find? (fun e=>(PySem.strKind P w).is k e.key)=some e∧e.val=.int v t
 | _,_,.nil,h=>by simp at h
 | _,_,.cons (a:=e) (b:=p) r t,h=>by
   obtain⟨_,⟨t1,h1⟩,⟨t2,h2⟩⟩:=r
   obtain⟨a,b⟩:=p
   by_cases q:a=k
   ·subst q
    simp at h
    subst h
    exact⟨e,t2,by simp[List.find?_cons,h1,PySem.strKind,Value.isStrOf],h2⟩
   ·have q':¬k=a:=fun z=>q z.symm
    have hn:(k==a)=false:=by simpa using q'
    obtain⟨e',t',h3,h4⟩:=Ytc (P:=P) t (by simpa [List.lookup_cons,hn]using h)
    refine⟨e',t',?_,h4⟩
    rw[List.find?_cons]
    have:(PySem.strKind P w).is k e.key=false:=by
     rw[h1]
     show(a==k)=false
     simpa using q
    rw[this]
    exact h3
theorem Ytd{P:Program}{w:World}:∀{l:List DictEntry} {kvs:List (Str × Int)},SEI w l kvs→∀e∈l,∃k,(PySem.strKind P w).is k e.key=true∧e.hash=(PySem.strKind P w).hash k
 | _,_,.nil,e,h=>by cases h
 | _,_,.cons (b:=p) r t,e,h=>by
   rcases qr h with rfl | h
   ·obtain⟨h0,⟨t1,h1⟩,_⟩:=r
    exact⟨p.1,by rw[h1];simp[PySem.strKind,Value.isStrOf],h0⟩
   ·exact Ytd t e h
noncomputable def Yi3(kvs:List (Str × Int)):D→Option D
 | .str k=>(kvs.lookup k).map D.int
 | _=>none
theorem Yw7{ke:Expr}{fk:Ro→Option D}{px:Pos}{x:Str}{kvs:List (Str × Int)}(g:GDI X.K X.w X.mg x kvs)(hg:Gl X x)(hk:MC X ke fk)(hs:NoSl ke:=by intro _ _;rfl)(hd:(x==("__debug__":Str))=false:=by decide):ME X (.Subscript (.Name x px) ke pos) (b1 fk (Yi3 kvs)):=by
 obtain⟨p,o,es,ep,hm,hl,hx,hdt,hse⟩:=g
 intro pins s σ H Q I hx_
 obtain⟨ρ,d,H0,G0,G,e,sr,h⟩:=hx_
 obtain⟨dk,h1,h2⟩:=Ych e
 refine Yvb PySem.F.slot_dict_getitem.lookup hs (Yqw I hg hm ?_ hd)
 refine thn (hk pins s σ H (fun(v':V) (H':Hp)=>∃k r,v'=.str k∧kvs.lookup k=some r∧Q (.int r) H') I (tCof.at h1 sr fun v H1 G1 g1 r1 s1=>?_)) fun iv s2 q0=>?_
 ·unfold Yi3 at h2
  split at h2
  ·rename_i k
   obtain⟨r,h3,rfl⟩:=qb h2
   rw[Ct]at r1
   exact⟨k,r,r1.1,h3,h _ H1 G1 g1 (by rw[Rp])⟩
  ·cases h2
 ·obtain⟨y,H2,I2,ry,k,r,rfl,h3,q⟩:=q0
  obtain⟨t,rfl⟩:=ry
  have ho:s2.heap.get? p=some o:=I2.kIn p o hl
  obtain⟨e',t',f1,f2⟩:=Ytc (P:=X.prog) hse h3
  refine⟨⟨o,ho,hx.1⟩,wpAny_getItem_of (knd:=PySem.strKind X.prog X.w) (k:=k) (f:=fun k=>findBy (PySem.strKind X.prog X.w).is es k) (v:=.int r t') (by simp[PySem.strKind,Value.isStrOf]) ⟨o,es,ep,ho,hx,hdt,?_,fun _=>rfl⟩ ?_ ⟨.int r,H2,I2.tok _,⟨t',rfl⟩,q⟩⟩
  ·intro e'' he
   exact Ytd hse e'' (by simpa using he)
  ·show(es.find? fun e=>(PySem.strKind X.prog X.w).is k e.key).map (·.val)=_
   rw[←Array.find?_toList,f1,Option.map_some,f2]
noncomputable def Yro:D→D→Option D
 | .tup a,.tup b=>if a.length+b.length≤cap6 then some (.tup (a++b))else none
 | _,_=>none
noncomputable def y8c(K:W.Frag):R2:=fun x y H Q=>∃a b xs ys,x=.ref a∧y=.ref b∧SqT K H a xs∧SqT K H b ys∧xs.length+ys.length≤sizeLine∧
 (xs=[]→Q (.ref b) H)∧(xs≠[]→ys=[]→Q (.ref a) H)∧(xs≠[]→ys≠[]→∀p,H p=none→Q (.ref p) (upd H p (.tup (xs++ys))))
theorem y29:OpR X (binaryOp .Add) (y8c X.K):=by
 intro pins s σ H x y v u Q I rx ry h
 obtain⟨a,b,xs,ys,rfl,rfl,ha,hb,hz,q0,q1,q2⟩:=h
 by_cases hx:xs=[]
 ·cases rx
  cases ry
  obtain⟨its,r1,p1,_⟩:=I.tuple ha
  obtain⟨its2,r2,p2,_⟩:=I.tuple hb
  have he:its=[]:=r1.nil_iff.mpr hx
  obtain⟨⟨cls,dd,data,sl⟩,ho,hc,n,hd⟩:=p1
  obtain⟨⟨cls2,dd2,data2,sl2⟩,ho2,hc2,n2,hd2⟩:=p2
  simp only at hc hd hc2 hd2
  subst hc hd hc2 hd2
  exact concat_meets ⟨_,ho,rfl⟩ ⟨_,ho2,rfl⟩ noFill_tuple_add seq_tuple_add PySem.F.slot_tuple_add PySem.F.entry_tuple_add (PySem.F.args_tuple_add_2 _ _)
   (tuple_addW0 a b its.toArray its2.toArray n n2 dd dd2 sl sl2 (by simp[he])) ⟨ho,ho2,⟨.ref b,H,I,rfl,q0 hx⟩⟩
 ·exact y1x pins s σ H _ _ _ _ Q I rx ry ⟨a,b,xs,ys,rfl,rfl,ha,hb,hx,hz,q1 hx,q2 hx⟩
theorem y3a{a b:Expr}{fa fb:Ro→Option D}(ha:MC X a fa)(hb:MC X b fb):ME X (.BinOp a .Add b pos) (b2 fa fb Yro):=PE.imp (y1j y29 ha hb) fun σ H Q hx_=>by
 obtain⟨ρ,l,H0,G0,G,e,s,h⟩:=hx_
 obtain⟨dx,dy,h1,h2,h3⟩:=Yj9 e
 refine tCof.at h1 s fun v H1 G1 g1 r1 s1=>tCof.at h2 s1 fun u H2 G2 g2 r2 s2=>?_
 unfold Yro at h3
 split at h3
 ·rename_i l1 l2
  split at h3
  ·rename_i hz
   cases h3
   have r1':=r1.grow g2
   rw[Ct]at r1'
   rw[Ct]at r2
   obtain⟨p,xs,rfl,gp,rl⟩:=r1'
   obtain⟨q,zs,rfl,gq,rm⟩:=r2
   refine⟨p,q,xs,zs,rfl,rfl,.of gp.1,.of gq.1,by rw[rl.length,rm.length];exact Yfe hz,fun hx=>?_,fun _ hy=>?_,fun _ _ m hm=>h _ _ _ ((g1.trans g2).trans (.new s2.seen hm (.tup (xs++zs)))) ?_⟩
   ·subst hx
    have:l1=[]:=List.eq_nil_of_length_eq_zero (by rw[←rl.length];rfl)
    subst this
    refine h _ _ G2 (g1.trans g2) ?_
    rw[List.nil_append,Rp]
    exact⟨q,zs,rfl,gq.2,rm⟩
   ·subst hy
    have:l2=[]:=List.eq_nil_of_length_eq_zero (by rw[←rm.length];rfl)
    subst this
    refine h _ _ G2 (g1.trans g2) ?_
    rw[List.append_nil,Rp]
    exact⟨p,xs,rfl,gp.2,rl⟩
   ·rw[Rp]
    exact⟨m,_,rfl,y0,(rl.append rm).mono (Gr.new s2.seen hm _).g⟩
  ·cases h3
 ·cases h3
@[simp] theorem Yug(kvs:List (Str × Int))(k:Str):Yi3 kvs (.str k)=(kvs.lookup k).map D.int:=nr0 rfl
end
end
section
set_option maxRecDepth 100000
section
variable {prog:Program} {w:World} {A:Around} {E:Value→Shared→Prop} {s:Shared}
theorem Yni{l I S u:Addr}{items:Array Value}{i:Nat}{p:Int × Bool}{R:Result→Shared→Prop}(hu:A.units+2 < cLine)(hit:s.heap.IsTupleIter I l i)(hl:s.heap.IsTuple l items)(hx:items[i]?=some (.ref u))(hp:PairV s.heap u p)(hIu:u≠I)
 (k:∀h1 tk,h1.IsTupleIter I l (i+1)→Heap.SameBut I s.heap h1→wpAny (model prog w) A.in1 (setAddHashed S (.ref u) (pH p)) (fun _ s'=>codeAny (model prog w) A (.builtin "set.update.loop" ⟨[.ref S,.ref I],[]⟩) R s') (fun e s'=>R (.error e) s') { s with heap:=h1,toks:=tk }) :
 codeAny (model prog w) A (.builtin "set.update.loop" ⟨[.ref S,.ref I],[]⟩) R s:=by
 refine codeAny_builtin F.entry_set_update_loop ?_
 rw[Around.under_plainId F.plain_set_update_loop _]
 show wpAny _ A.in1 (pyNext (.ref I) >>= _) _ _ s
 refine wpAny_bind (wpAny_pyNext_tuple_item hit hl hx fun h1 hi1 hs1=>?_)
 show wpAny _ A.in1 (holding [Value.ref u] (setAdd S (.ref u)) >>= _) _ _ _
 refine wpAny_bind (wpAny_holding ?_)
 unfold setAdd
 have hp1:PairV h1 u p:=hp.keep fun o e=>by rw[hs1.2 u hIu];exact e
 refine wpAny_holding (wpAny_bind (wpAny_pyHash_tuple (knd:=Ybp prog w) (s:={ s with heap:=h1 }) (by show A.units+1 < cLine;lia) hp1.key ?_))
 refine wpAny_mono (k h1 _ hi1 hs1) (fun b s' hb=>?_) fun _ _ x=>x
 exact wpAny_pure ⟨plainId_quiet F.plain_set_update_loop _,hb⟩
theorem Ynj{l I S:Addr}{items:Array Value}{i:Nat}{R:Result→Shared→Prop}(hh:A.handled=none)(hit:s.heap.IsTupleIter I l i)(hl:s.heap.IsTuple l items)(hx:items[i]?=none)
 (k:∀h1,Heap.ExtBut I s.heap h1→R (.ok (.ret .none)) { s with heap:=h1 }) :
 codeAny (model prog w) A (.builtin "set.update.loop" ⟨[.ref S,.ref I],[]⟩) R s:=by
 refine codeAny_builtin F.entry_set_update_loop ?_
 rw[Around.under_plainId F.plain_set_update_loop _]
 show wpAny _ A.in1 (pyNext (.ref I) >>= _) _ _ s
 refine wpAny_bind (wpAny_pyNext_tuple_end (A:=A.in1) hh hit hl hx fun h1 hs1=>?_)
 show wpAny _ A.in1 (ret Value.none) _ _ _
 exact wpAny_pure (k h1 hs1)
theorem Yuh{l I S:Addr}{us:List Addr}{ps:List (Int × Bool)}{R:Result→Shared→Prop}(hh:A.handled=none)(hu:A.units+2 < cLine)(hit:s.heap.IsTupleIter I l 0)(hl:s.heap.IsTuple l (us.map Value.ref).toArray)(h2:us.length≤2)(hps:ps.length=us.length)
 (hp:∀(i:Nat) u p,us[i]?=some u→ps[i]?=some p→PairV s.heap u p) (hd:∀p q,ps=[p,q]→p=q∨pH p≠pH q) (hS:SetQ w s.heap S []) (hIl:l≠I) (hIS:S≠I) (hlS:l≠S) (hIu:∀u∈us,u≠I) (hSu:∀u∈us,u≠S)
 (hR:∀h' tk vs,SetV w h' S vs→vs.Perm ((oncE us ps).map Value.ref)→(∀b o,b≠S→b≠I→s.heap.get? b=some o→h'.get? b=some o)→R (.ok (.ret .none)) { s with heap:=h',toks:=tk }) :
 codeAny (model prog w) A (.builtin "set.update.loop" ⟨[.ref S,.ref I],[]⟩) R s:=by
 have lk:∀{h h':Heap} {its:Array Value},h.IsTuple l its→(∀o,h.get? l=some o→h'.get? l=some o)→h'.IsTuple l its:=fun x k=>let ⟨o,e,r⟩:=x;⟨o,k o e,r⟩
 have ik:∀{h h':Heap} {i:Nat},h.IsTupleIter I l i→(∀o,h.get? I=some o→h'.get? I=some o)→h'.IsTupleIter I l i:=fun x k=>let ⟨o,e,r⟩:=x;⟨o,k o e,r⟩
 rcases us with _ | ⟨u1,_ | ⟨u2,_ | ⟨u3,ur⟩⟩⟩
 ·refine Ynj hh hit hl rfl fun h1 hs1=>?_
  exact hR h1 s.toks _ ((hS.keep fun o e=>hs1 S o hIS e).vals (by simp)) (.refl _) fun b o _ hb e=>hs1 b o hb e
 ·rcases ps with _ | ⟨p1,_ | ⟨p2,pr⟩⟩
  ·simp at hps
  ·have hu1:=hp 0 u1 p1 rfl rfl
   refine Yni hu hit hl rfl hu1 (hIu u1 (by simp)) fun h1 tk1 hi1 hs1=>?_
   refine Yer (s:={ s with heap:=h1,toks:=tk1 }) (hS.keep fun o e=>by rw[hs1.2 S hIS];exact e) (by simp) (hu1.keep fun o e=>by rw[hs1.2 u1 (hIu u1 (by simp))];exact e) (by simp) fun h2' vs2 hs2 hn2 hp2 ho2=>?_
   refine Ynj hh (ik hi1 fun o e=>by rw[hs2.2 I (Ne.symm hIS)];exact e) (lk hl fun o e=>by rw[hs2.2 l hlS,hs1.2 l hIl];exact e) rfl fun h3 hs3=>?_
   refine hR h3 tk1 _ (((ho2 rfl).keep fun o e=>hs3 S o hIS e).vals (by simp)) (.refl _) fun b o hb1 hb2 e=>hs3 b o hb2 (by rw[hs2.2 b hb1,hs1.2 b hb2];exact e)
  ·simp at hps
 ·rcases ps with _ | ⟨p1,_ | ⟨p2,_ | ⟨p3,pr⟩⟩⟩
  ·simp at hps
  ·simp at hps
  ·have hu1:=hp 0 u1 p1 rfl rfl
   have hu2:=hp 1 u2 p2 rfl rfl
   have n1:=hIu u1 (by simp)
   have n2:=hIu u2 (by simp)
   have m2:=hSu u2 (by simp)
   refine Yni hu hit hl rfl hu1 n1 fun h1 tk1 hi1 hs1=>?_
   refine Yer (s:={ s with heap:=h1,toks:=tk1 }) (hS.keep fun o e=>by rw[hs1.2 S hIS];exact e) (by simp) (hu1.keep fun o e=>by rw[hs1.2 u1 n1];exact e) (by simp) fun h2' vs2 hs2 hn2 hp2 ho2=>?_
   have k2:∀b o,b≠S→b≠I→s.heap.get? b=some o→h2'.get? b=some o:=fun b o hb1 hb2 e=>by rw[hs2.2 b hb1,hs1.2 b hb2];exact e
   refine Yni (s:={ s with heap:=h2',toks:=tk1 }) hu (ik hi1 fun o e=>by rw[hs2.2 I (Ne.symm hIS)];exact e) (lk hl fun o e=>k2 l o hlS hIl e) rfl (hu2.keep fun o e=>k2 u2 o m2 n2 e) n2 fun h3 tk3 hi3 hs3=>?_
   have k3:∀b o,b≠S→b≠I→s.heap.get? b=some o→h3.get? b=some o:=fun b o hb1 hb2 e=>by rw[hs3.2 b hb2];exact k2 b o hb1 hb2 e
   by_cases hpq:p1=p2
   ·subst hpq
    refine Ys2 (s:={ s with heap:=h3,toks:=tk3 }) (v:=u1) (p:=p1) (by show _+1 < cLine;lia) ((ho2 rfl).keep fun o e=>by rw[hs3.2 S hIS];exact e) (hu1.keep fun o e=>k3 u1 o (hSu u1 (by simp)) n1 e) (hu2.keep fun o e=>k3 u2 o m2 n2 e) ?_
    refine Ynj (s:={ s with heap:=h3,toks:=tk3 }) hh hi3 (lk hl fun o e=>k3 l o hlS hIl e) rfl fun h5 hs5=>?_
    refine hR h5 tk3 _ (((ho2 rfl).keep fun o e=>hs5 S o hIS (by rw[hs3.2 S hIS];exact e)).vals (by simp)) ?_ fun b o hb1 hb2 e=>hs5 b o hb2 (k3 b o hb1 hb2 e)
    rw[oncE,if_pos rfl]
    exact .refl _
   ·have hdp:pH p1≠pH p2:=by
     rcases hd p1 p2 rfl with z | z
     ·exact absurd z hpq
     ·exact z
    refine Yer (s:={ s with heap:=h3,toks:=tk3 }) ((ho2 rfl).keep fun o e=>by rw[hs3.2 S hIS];exact e) (by simp) (hu2.keep fun o e=>k3 u2 o m2 n2 e) (fun q hq=>?_) fun h4 vs4 hs4 hn4 hp4 _=>?_
    ·simp only[List.mem_singleton]at hq
     rw[hq]
     exact hdp
    ·refine Ynj (s:={ s with heap:=h4,toks:=tk3 }) hh (ik hi3 fun o e=>by rw[hs4.2 I (Ne.symm hIS)];exact e) (lk hl fun o e=>by rw[hs4.2 l hlS];exact k3 l o hlS hIl e) rfl fun h5 hs5=>?_
     refine hR h5 tk3 vs4 (hn4.at fun o e=>hs5 S o hIS e) ?_ fun b o hb1 hb2 e=>hs5 b o hb2 (by rw[hs4.2 b hb1];exact k3 b o hb1 hb2 e)
     rw[oncE,if_neg hpq]
     exact hp4
  ·simp at hps
 ·simp at h2
theorem Yku{l:Addr}{us:List Addr}{ps:List (Int × Bool)}{Q:Value→Shared→Prop}(hh:A.handled=none)(hu:A.units+8 < cLine)(hl:s.heap.IsTuple l (us.map Value.ref).toArray)(h2:us.length≤2)(hps:ps.length=us.length)
 (hp:∀(i:Nat) u p,us[i]?=some u→ps[i]?=some p→PairV s.heap u p) (hd:∀p q,ps=[p,q]→p=q∨pH p≠pH q)
 (h:∀(h':Heap) (tk:Nat) vs,SetV w h' s.heap.objs.size vs→vs.Perm ((oncE us ps).map Value.ref)→(∀b o,s.heap.get? b=some o→h'.get? b=some o)→Q (.ref s.heap.objs.size) { s with heap:=h',toks:=tk }) :
 wpAny (model prog w) A (call (.type "set") [.ref l]) Q E s:=by
 refine Ybz (Q₁:=fun obj s₁=>obj=.ref s.heap.objs.size∧s₁={ s with heap:=s.heap.push (emS w) }) F.called_set (F.typeCall_set_1 _) F.entry_set_init (Yg4 _ ⟨rfl,rfl⟩) ?_
 rintro obj s₁ ⟨rfl,rfl⟩
 have hS:(s.heap.push (emS w)).get? s.heap.objs.size=some (emS w):=qo _ rfl
 have hT:Shared.TypeIs { s with heap:=s.heap.push (emS w) } (.ref s.heap.objs.size) "set":=⟨_,hS,rfl⟩
 refine⟨hT,fun A' E' Q' hq=>check_set_init_1 hT hq,?_⟩
 have hul:∀u∈us,u < s.heap.objs.size:=fun u hm=>by
  obtain⟨i,hi,e⟩:=List.getElem_of_mem hm
  have hi':i < ps.length:=by lia
  obtain⟨o,_,_,ho,_⟩:=hp i u ps[i] (by rw[qp hi,e]) (qp hi')
  exact qk ho
 generalize hits:(us.map Value.ref).toArray=items at hl
 obtain⟨ol,hol,hcl,nl,hdl⟩:=hl
 obtain⟨ocls,odict,odata,oslots⟩:=ol
 simp only at hcl hdl
 subst hcl;subst hdl
 have hol':(s.heap.push (emS w)).get? l=some { cls:=.type "tuple",dict:=odict,data:=.seq items nl,slots:=oslots }:=qd _ hol
 have hsls:=Ym1
 have hslf:=Ygf
 have hne:(Value.type "tuple"==Value.type "dict")=false:=by decide
 have hl1:(s.heap.push (emS w)).IsTuple l items:=⟨_,hol',rfl,nl,rfl⟩
 unfold Builtin.«set.__init__» noKeywords Builtin.Frozenset.updateFrom
 generalize hPI:pyIter=PI
 wp_walk
 subst hPI
 refine wpAny_pyIter_tuple hl1 ?_
 refine wpAny_bind (wpAny_runValue ?_)
 have hlS:l < s.heap.objs.size:=qk hol
 have hsz:(s.heap.push (emS w)).objs.size=s.heap.objs.size+1:=Heap.size_push ..
 have hol2:((s.heap.push (emS w)).push { cls:=.type "tuple_iterator",data:=.fields #[.ref l,.int 0 0] }).IsTuple l items:=⟨_,qd _ hol',rfl,nl,rfl⟩
 rw[←hits]at hol2
 refine Yuh (us:=us) (ps:=ps) (by simp[hh]) (by show _+2 < cLine;simp;lia) ⟨_,qo _ rfl,rfl,rfl⟩ hol2 h2 hps (fun i u p hi hp'=>(hp i u p hi hp').keep fun o e=>qd _ (qd _ e)) hd ?_ ?_ ?_ ?_ ?_ ?_ ?_
 ·exact⟨emS w,#[],0,_,qd _ hS,⟨rfl,rfl,rfl⟩,rfl,rfl,rfl,rfl,rfl,rfl,.fresh⟩
 ·rw[hsz];exact ql (qv hlS)
 ·rw[hsz];exact ql (qz _)
 ·exact ql hlS
 ·intro u hm;rw[hsz];exact ql (qv (hul u hm))
 ·intro u hm;exact ql (hul u hm)
 ·intro h' tk vs hN hpm old
  show wpAny _ _ _ _ _ _
  refine wpAny_pure ?_
  show wpAny _ _ (ret Value.none) _ _ _
  refine wpAny_pure ⟨rfl,h h' tk vs hN hpm fun b o e=>?_⟩
  have hb:=qk e
  exact old b o (ql hb) (by rw[hsz];exact ql (qv hb)) (qd _ (qd _ e))
end
noncomputable def y6l(K:W.Frag)(w:World):List V→Hp→VK→Prop:=fun xs H Q=>∃a bs qs,xs=[.ref a]∧SqT K H a (bs.map V.ref)∧PrsA H bs qs∧qs.length≤2∧(∀p q,qs=[p,q]→p=q∨pH p≠pH q)∧
 ∀p vs,H p=none→vs.Perm ((oncE bs qs).map Value.ref)→Q (.ref p) (upd H p (setW w p vs))
section
variable {X:Cx} {e:Expr} {f:Ro→Option D} {p p2 pos pos2:Pos}
theorem Yui(hc:X.calm=true)(hu:X.A.units+64 < cLine):Ycv X (.type "set") (y6l X.K X.w):=by
 intro pins s σ H xs us Q I r h
 obtain⟨a,bs,qs,rfl,hq,hpr,h2,hd,q⟩:=h
 obtain⟨u,rfl,rx⟩:=Yfb r
 cases rx
 have hh:X.A.handled=none:=I.ok.hd hc
 obtain⟨its,rv,pl,hz⟩:=I.tuple hq
 cases Ykp rv
 refine Yku hh (by lia) pl (by rw[←hpr.1];exact h2) hpr.1 (Ywr I hpr) hd fun h' tk vs hS hpm hk=>?_
 exact⟨.ref s.heap.objs.size,_,I.laid (t':=tk) hk (qt _) (Ywq hS),rfl,q _ vs (I.hok.fresh (qt _)) hpm⟩
noncomputable def tupL:D→Option (List D)
 | .tup l=>some l
 | _=>none
noncomputable def Yfg(f:Ro→Option D):Ro→Option (List D):=fun ρ=>(b1 f tupL ρ).bind Yrh
@[simp] theorem ap_sortsetPC{ρ:Ro}:Yfg f ρ=((f ρ).bind tupL).bind Yrh:=nr0 rfl
theorem Ypp(hc:X.calm=true)(hu:X.A.units+64 < cLine)(hg:Gl X "sorted")(hm:X.mg "sorted"=none)(hg2:Gl X "set")(hm2:X.mg "set"=none)(ha:MC X e f)(hs:starEach [e] X.env=[(false,eval e X.env)]:=by rfl)
 (he:starEach [.Call (.Name "set" p2) [e] [] pos2] X.env=[(false,eval (.Call (.Name "set" p2) [e] [] pos2) X.env)]:=by rfl)
 (hpl:(backTo pos2 (starEach [] X.env)).any (·.1)=false:=by rfl) (hpl2:(backTo pos (starEach [] X.env)).any (·.1)=false:=by rfl) :
 MF X (.Call (.Name "sorted" p) [.Call (.Name "set" p2) [e] [] pos2] [] pos) (Yfg f):=
 PE.imp (Yfx (Yt8 hc) hg hm boot_sorted (Ydn (Yfc (Yui hc hu) hg2 hm2 boot_set (Ym6 ha Yq6 hs) (by decide) (by decide) hs hpl) Ygz he) (by decide) (by decide) he hpl2) fun σ H Q hx_=>by
  obtain⟨ρ,l,H0,G0,G,e,s,h⟩:=hx_
  unfold Yfg at e
  obtain⟨l0,h1,e⟩:=qa e
  obtain⟨d,h2,h3⟩:=Ych h1
  refine tCAof.at (show Yg f aNil ρ=some [d] by simp[Yg,aNil,h2]) s fun vs H1 G1 g1 r1 s1=>?_
  obtain⟨v,rfl,rv⟩:=Yc5 r1
  unfold tupL at h3
  split at h3
  case h_2=>cases h3
  cases h3
  rw[Ct]at rv
  obtain⟨a,xs,rfl,hq,rl⟩:=rv
  obtain⟨ps,hps⟩:∃ps,prsD l0=some ps:=by
   unfold Yrh at e
   obtain⟨ps,h4,_⟩:=qa e
   exact⟨ps,h4⟩
  obtain⟨bs,rfl,hA⟩:=Yws s1.seen hps rl
  obtain⟨k1,k2,k3⟩:=Yzd e hps rl
  obtain⟨o1,o2,o3⟩:=hA.once k1
  refine⟨a,bs,ps,rfl,.of hq.1,hA,k1,k2,fun m ms hm' hp=>?_⟩
  have g2:=Gr.hid s1.seen hm' (setW X.w m ms)
  have s2:=s1.grow g2
  refine⟨m,ms,oncE bs ps,oncP ps,rfl,y0,hp,⟨o1.1,fun i b q hb hq'=>?_⟩,o2,o3,fun r hr=>?_⟩
  ·rw[Yaa (y9 (o1.2 i b q hb hq') hm')]
   exact o1.2 i b q hb hq'
  ·refine h r _ _ G1 ((g1.trans g2).trans (.hid s2.seen hr _)) ((g1.trans g2).h.free hr) (s2.seen.free hr) y0 k3
end
end
section
structure ZE(X:Cx)(e:Expr)(f:Ro→Option D):Prop where
 un:ME X e f
structure ZC(X:Cx)(e:Expr)(f:Ro→Option D):Prop where
 un:MC X e f
structure ZCA(X:Cx)(es:List Expr)(f:Ro→Option (List D)):Prop where
 un:MCA X es f
structure ZF(X:Cx)(e:Expr)(f:Ro→Option (List D)):Prop where
 un:MF X e f
structure ZT(X:Cx)(e:Expr)(f:Ro→Option Bool):Prop where
 un:MT X e f
structure ZW(X:Cx)(e:Expr)(f:Ro→Option Bool):Prop where
 un:MW X e f
structure ZA(X:Cx)(es:List Expr)(f:Ro→Option (List D)):Prop where
 un:MA X es f
structure ZI(X:Cx)(tg iter:Expr)(f:Ro→Option (List D)):Prop where
 un:MI X tg iter f
structure ZS(X:Cx)(st:Stmt)(f:Ro→Option Out):Prop where
 un:MS X st f
structure ZB(X:Cx)(sts:List Stmt)(f:Ro→Option Out):Prop where
 un:MB X sts f
structure ZG(X:Cx)(tg:Expr)(gt:D→Ro→Option Ro):Prop where
 un:MG X tg gt
structure ZIfs(X:Cx)(K:W.Frag)(ifs:List Expr)(f:Ro→Option Bool):Prop where
 un:PIfs X ifs (tTof K f)
structure ZO(X:Cx)(e:Option Expr)(f:Option (Ro→Option D)):Prop where
 un:PO X e (tO X.K f)
structure ZP(X:Cx)(pos:Pos)(keys:List (Option Expr))(values:List Expr)(ks:List Str)(fs:List (Ro→Option D)):Prop where
 un:MP X pos keys values ks fs
section
variable {K:W.Frag}
variable {X:Cx}
variable {H0 G0 H G:Hp} {σ:L2.St} {ρ:Ro}
theorem Yc{e:Expr}{f:Ro→Option D}(h:ZE X e f):ZC X e f:=⟨ME.mc h.un⟩
end
section
variable {K:W.Frag}
variable {X:Cx} {a b c e:Expr} {es:List Expr} {fa fb fc f:Ro→Option D} {ga:Ro→Option (List D)} {pos:Pos}
theorem Yh(i:Nat){x:Str}(hN:X.N[i]?=some x:=by rfl)(hv:Vis X.env.scope x:=by first | exact Or.inl rfl | exact Or.inr (Or.inl rfl) | exact Or.inr (Or.inr rfl))(hd:(x==("__debug__":Str))=false:=by decide)(hcd:(x==("__classdict__":Str))=false:=by decide):ZE X (.Name x pos) (getV i):=⟨y42 i hN hv hd hcd⟩
end
section
variable {K:W.Frag}
variable {X:Cx} {a b c e:Expr} {es:List Expr} {fa fb fc f:Ro→Option D} {ga:Ro→Option (List D)} {pos:Pos}
theorem Yb(i:Nat){x:Str}(hN:X.N[i]?=some x:=by rfl)(hv:Vis X.env.scope x:=by first | exact Or.inl rfl | exact Or.inr (Or.inl rfl) | exact Or.inr (Or.inr rfl))(hd:(x==("__debug__":Str))=false:=by decide)(hcd:(x==("__classdict__":Str))=false:=by decide):ZC X (.Name x pos) (getC i):=⟨y43 i hN hv hd hcd⟩
end
section
variable {K:W.Frag}
variable {X:Cx} {a b c e:Expr} {es:List Expr} {fa fb fc f:Ro→Option D} {ga:Ro→Option (List D)} {pos:Pos}
theorem Yl{i:Int}{j}:ZE X (.Constant (.int i) j pos) (kD (.int i)):=⟨y44 ⟩
end
section
variable {K:W.Frag}
variable {X:Cx} {a b c e:Expr} {es:List Expr} {fa fb fc f:Ro→Option D} {ga:Ro→Option (List D)} {pos:Pos}
theorem Ya4{k:Bool}{j}:ZE X (.Constant (.bool k) j pos) (kD (.bl k)):=⟨y7n ⟩
end
section
variable {K:W.Frag}
variable {X:Cx} {a b c e:Expr} {es:List Expr} {fa fb fc f:Ro→Option D} {ga:Ro→Option (List D)} {pos:Pos}
theorem Ye3{j}:ZE X (.Constant .none j pos) (kD .non):=⟨y45 ⟩
end
section
variable {K:W.Frag}
variable {X:Cx} {a b c e:Expr} {es:List Expr} {fa fb fc f:Ro→Option D} {ga:Ro→Option (List D)} {pos:Pos}
theorem Yau{x:Str}{j}(hx:PyData.strOk x=true:=by decide +kernel):ZE X (.Constant (.str x) j pos) (kD (.str x)):=⟨y46 hx⟩
end
section
variable {K:W.Frag}
variable {X:Cx} {a b c e:Expr} {es:List Expr} {fa fb fc f:Ro→Option D} {ga:Ro→Option (List D)} {pos:Pos}
theorem Yw8(ha:ZC X a fa)(hb:ZC X b fb):ZE X (.BinOp a .Sub b pos) (b2 fa fb subI):=⟨y47 ha.un hb.un⟩
end
section
variable {K:W.Frag}
variable {X:Cx} {a b c e:Expr} {es:List Expr} {fa fb fc f:Ro→Option D} {ga:Ro→Option (List D)} {pos:Pos}
theorem y3b(ha:ZC X a fa)(hb:ZC X b fb):ZE X (.BinOp a .Mult b pos) (b2 fa fb mulI):=⟨y48 ha.un hb.un⟩
end
section
variable {K:W.Frag}
variable {X:Cx} {a b c e:Expr} {es:List Expr} {fa fb fc f:Ro→Option D} {ga:Ro→Option (List D)} {pos:Pos}
theorem Ygj(ha:ZC X a fa)(hb:ZC X b fb):ZE X (.BinOp a .FloorDiv b pos) (b2 fa fb divI):=⟨y49 ha.un hb.un⟩
end
section
variable {K:W.Frag}
variable {X:Cx} {a b c e:Expr} {es:List Expr} {fa fb fc f:Ro→Option D} {ga:Ro→Option (List D)} {pos:Pos}
theorem Ybf(ha:ZC X a fa)(hb:ZC X b fb):ZE X (.BinOp a .Mod b pos) (b2 fa fb modI):=⟨y5a ha.un hb.un⟩
end
section
variable {K:W.Frag}
variable {X:Cx} {a b c e:Expr} {es:List Expr} {fa fb fc f:Ro→Option D} {ga:Ro→Option (List D)} {pos:Pos}
theorem y6m(ha:ZC X a fa)(hb:ZC X b fb):ZE X (.Compare a [.Lt] [b] pos) (mB (b2 fa fb ltI)):=⟨y7p ha.un hb.un⟩
end
section
variable {K:W.Frag}
variable {X:Cx} {a b c e:Expr} {es:List Expr} {fa fb fc f:Ro→Option D} {ga:Ro→Option (List D)} {pos:Pos}
theorem y6n(ha:ZC X a fa)(hb:ZC X b fb):ZE X (.Compare a [.LtE] [b] pos) (mB (b2 fa fb leI)):=⟨y7q ha.un hb.un⟩
end
section
variable {K:W.Frag}
variable {X:Cx} {a b c e:Expr} {es:List Expr} {fa fb fc f:Ro→Option D} {ga:Ro→Option (List D)} {pos:Pos}
theorem y01(ha:ZC X a fa)(hb:ZC X b fb):ZE X (.Compare a [.Gt] [b] pos) (mB (b2 fa fb gtI)):=⟨y7r ha.un hb.un⟩
end
section
variable {K:W.Frag}
variable {X:Cx} {a b c e:Expr} {es:List Expr} {fa fb fc f:Ro→Option D} {ga:Ro→Option (List D)} {pos:Pos}
theorem y02(ha:ZC X a fa)(hb:ZC X b fb):ZE X (.Compare a [.GtE] [b] pos) (mB (b2 fa fb geI)):=⟨y7s ha.un hb.un⟩
end
section
variable {K:W.Frag}
variable {X:Cx} {a b c e:Expr} {es:List Expr} {fa fb fc f:Ro→Option D} {ga:Ro→Option (List D)} {pos:Pos}
theorem Yte(ha:ZC X a fa)(hb:ZC X b fb):ZT X (.Compare a [.Lt] [b] pos) (b2 fa fb ltI):=⟨y7t ha.un hb.un⟩
end
section
variable {K:W.Frag}
variable {X:Cx} {a b c e:Expr} {es:List Expr} {fa fb fc f:Ro→Option D} {ga:Ro→Option (List D)} {pos:Pos}
theorem Ymp(ha:ZC X a fa)(hb:ZC X b fb):ZT X (.Compare a [.Gt] [b] pos) (b2 fa fb gtI):=⟨y7u ha.un hb.un⟩
end
section
variable {K:W.Frag}
variable {X:Cx} {a b c e:Expr} {es:List Expr} {fa fb fc f:Ro→Option D} {ga:Ro→Option (List D)} {pos:Pos}
theorem y6o(ha:ZC X a fa)(hb:ZC X b fb):ZT X (.Compare a [.GtE] [b] pos) (b2 fa fb geI):=⟨y7v ha.un hb.un⟩
end
section
variable {K:W.Frag}
variable {X:Cx} {a b c e:Expr} {es:List Expr} {fa fb fc f:Ro→Option D} {ga:Ro→Option (List D)} {pos:Pos}
theorem Ybg(hu:X.A.units+64 < cLine)(ha:ZC X a fa)(hb:ZC X b fb):ZE X (.Compare a [.Eq] [b] pos) (mB (b2 fa fb (eqM false))):=⟨y7w hu ha.un hb.un⟩
end
section
variable {K:W.Frag}
variable {X:Cx} {a b c e:Expr} {es:List Expr} {fa fb fc f:Ro→Option D} {ga:Ro→Option (List D)} {pos:Pos}
theorem y03(hu:X.A.units+64 < cLine)(ha:ZC X a fa)(hb:ZC X b fb):ZE X (.Compare a [.NotEq] [b] pos) (mB (b2 fa fb (eqM true))):=⟨y7x hu ha.un hb.un⟩
end
section
variable {K:W.Frag}
variable {X:Cx} {a b c e:Expr} {es:List Expr} {fa fb fc f:Ro→Option D} {ga:Ro→Option (List D)} {pos:Pos}
theorem Ycx(hu:X.A.units+64 < cLine)(ha:ZC X a fa)(hb:ZC X b fb):ZT X (.Compare a [.Eq] [b] pos) (b2 fa fb (eqM false)):=⟨y7y hu ha.un hb.un⟩
end
section
variable {K:W.Frag}
variable {X:Cx} {a b c e:Expr} {es:List Expr} {fa fb fc f:Ro→Option D} {ga:Ro→Option (List D)} {pos:Pos}
theorem Yhg(hu:X.A.units+64 < cLine)(ha:ZC X a fa)(hb:ZC X b fb):ZT X (.Compare a [.NotEq] [b] pos) (b2 fa fb (eqM true)):=⟨y7z hu ha.un hb.un⟩
end
section
variable {K:W.Frag}
variable {X:Cx} {a b c e:Expr} {es:List Expr} {fa fb fc f:Ro→Option D} {ga:Ro→Option (List D)} {pos:Pos}
theorem y6p(hu:X.A.units+64 < cLine)(ha:ZC X a fa)(hb:ZC X b fb)(hm:behindInMarks .In b=false:=by with_unfolding_all rfl):ZE X (.Compare a [.In] [b] pos) (mB (b2 fa fb (inM false))):=⟨y70 hu ha.un hb.un hm⟩
end
section
variable {K:W.Frag}
variable {X:Cx} {a b c e:Expr} {es:List Expr} {fa fb fc f:Ro→Option D} {ga:Ro→Option (List D)} {pos:Pos}
theorem y3c(hu:X.A.units+64 < cLine)(ha:ZC X a fa)(hb:ZC X b fb)(hm:behindInMarks .NotIn b=false:=by with_unfolding_all rfl):ZE X (.Compare a [.NotIn] [b] pos) (mB (b2 fa fb (inM true))):=⟨y5c hu ha.un hb.un hm⟩
end
section
variable {K:W.Frag}
variable {X:Cx} {a b c e:Expr} {es:List Expr} {fa fb fc f:Ro→Option D} {ga:Ro→Option (List D)} {pos:Pos}
theorem Yrp(hu:X.A.units+64 < cLine)(ha:ZC X a fa)(hb:ZC X b fb)(hm:behindInMarks .NotIn b=false:=by with_unfolding_all rfl):ZT X (.Compare a [.NotIn] [b] pos) (b2 fa fb (inM true)):=⟨y5d hu ha.un hb.un hm⟩
end
section
variable {K:W.Frag}
variable {X:Cx} {a b c e:Expr} {es:List Expr} {fa fb f:Ro→Option D} {fc fd:Ro→Option Bool} {ga:Ro→Option (List D)} {pos:Pos} {rest:List Expr}
theorem Yap(ha:ZC X a fa)(he:∀whole,isTrue a X.env whole=(do let v ←whole;standAt a.pos;holding [v] (truthy v)):=by intro _;rfl):ZT X a (b1 fa truD):=⟨y5e ha.un he⟩
end
section
variable {K:W.Frag}
variable {X:Cx} {a b c e:Expr} {es:List Expr} {fa fb f:Ro→Option D} {fc fd:Ro→Option Bool} {ga:Ro→Option (List D)} {pos:Pos} {rest:List Expr}
theorem Ynk(ha:ZT X a fc):ZW X (.BoolOp .And [a] pos) fc:=⟨y2d ha.un⟩
end
section
variable {K:W.Frag}
variable {X:Cx} {a b c e:Expr} {es:List Expr} {fa fb f:Ro→Option D} {fc fd:Ro→Option Bool} {ga:Ro→Option (List D)} {pos:Pos} {rest:List Expr}
theorem Yc6(ha:ZT X a fc):ZW X (.BoolOp .Or [a] pos) fc:=⟨y5f ha.un⟩
end
section
variable {K:W.Frag}
variable {X:Cx} {a b c e:Expr} {es:List Expr} {fa fb f:Ro→Option D} {fc fd:Ro→Option Bool} {ga:Ro→Option (List D)} {pos:Pos} {rest:List Expr}
theorem Yrq(ha:ZT X a fc)(hb:ZW X (.BoolOp .And (b::rest) pos) fd):ZW X (.BoolOp .And (a::b::rest) pos) (andT fc fd):=⟨y5h ha.un hb.un⟩
end
section
variable {K:W.Frag}
variable {X:Cx} {a b c e:Expr} {es:List Expr} {fa fb f:Ro→Option D} {fc fd:Ro→Option Bool} {ga:Ro→Option (List D)} {pos:Pos} {rest:List Expr}
theorem Ydq(ha:ZT X a fc)(hb:ZW X (.BoolOp .Or (b::rest) pos) fd):ZW X (.BoolOp .Or (a::b::rest) pos) (orT fc fd):=⟨y71 ha.un hb.un⟩
end
section
variable {K:W.Frag}
variable {X:Cx} {a b c e:Expr} {es:List Expr} {fa fb f:Ro→Option D} {fc fd:Ro→Option Bool} {ga:Ro→Option (List D)} {pos:Pos} {rest:List Expr}
theorem Ybh(ha:ZT X a fc):ZT X (.UnaryOp .Not a pos) (notT fc):=⟨y5i ha.un⟩
end
section
variable {K:W.Frag}
variable {X:Cx} {a b c e:Expr} {es:List Expr} {fa fb f:Ro→Option D} {fc fd:Ro→Option Bool} {ga:Ro→Option (List D)} {pos:Pos} {rest:List Expr}
theorem Ycp(ha:ZE X a fa):ZE X (.BoolOp .And [a] pos) fa:=⟨y2f ha.un⟩
end
section
variable {K:W.Frag}
variable {X:Cx} {a b c e:Expr} {es:List Expr} {fa fb f:Ro→Option D} {fc fd:Ro→Option Bool} {ga:Ro→Option (List D)} {pos:Pos} {rest:List Expr}
theorem Yw9(ha:ZE X a fa):ZE X (.BoolOp .Or [a] pos) fa:=⟨y5j ha.un⟩
end
section
variable {K:W.Frag}
variable {X:Cx} {a b c e:Expr} {es:List Expr} {fa fb f:Ro→Option D} {fc fd:Ro→Option Bool} {ga:Ro→Option (List D)} {pos:Pos} {rest:List Expr}
theorem Ybq(ha:ZE X a fa)(hb:ZE X (.BoolOp .And (b::rest) pos) fb):ZE X (.BoolOp .And (a::b::rest) pos) (andV fa fb):=⟨y5k ha.un hb.un⟩
end
section
variable {K:W.Frag}
variable {X:Cx} {a b c e:Expr} {es:List Expr} {fa fb f:Ro→Option D} {fc fd:Ro→Option Bool} {ga:Ro→Option (List D)} {pos:Pos} {rest:List Expr}
theorem y04(ha:ZE X a fa)(hb:ZE X (.BoolOp .Or (b::rest) pos) fb):ZE X (.BoolOp .Or (a::b::rest) pos) (orV fa fb):=⟨y72 ha.un hb.un⟩
end
section
variable {K:W.Frag}
variable {X:Cx} {a b c e:Expr} {es:List Expr} {fa fb f:Ro→Option D} {fc fd:Ro→Option Bool} {ga:Ro→Option (List D)} {pos:Pos} {rest:List Expr}
theorem Ynl(ha:ZE X a fa):ZE X (.UnaryOp .Not a pos) (notV fa):=⟨y5l ha.un⟩
end
section
variable {K:W.Frag}
variable {X:Cx} {a b c e:Expr} {es:List Expr} {fa fb f:Ro→Option D} {fc fd:Ro→Option Bool} {ga:Ro→Option (List D)} {pos:Pos} {rest:List Expr}
theorem y6q(hc:ZT X c fc)(ha:ZE X a fa)(hb:ZE X b fb):ZE X (.IfExp c a b pos) (ifV fc fa fb):=⟨y73 hc.un ha.un hb.un⟩
end
section
variable {K:W.Frag}
variable {X:Cx} {a b c e:Expr} {es:List Expr} {fa fb f:Ro→Option D} {fc fd:Ro→Option Bool} {ga:Ro→Option (List D)} {pos:Pos} {rest:List Expr}
theorem Yxa(ha:ZC X a fa)(hb:ZC X b fb):ZE X (.Compare a [.Is] [b] pos) (mB (b2 fa fb (isN false))):=⟨y5m ha.un hb.un⟩
end
section
variable {K:W.Frag}
variable {X:Cx} {a b c e:Expr} {es:List Expr} {fa fb f:Ro→Option D} {fc fd:Ro→Option Bool} {ga:Ro→Option (List D)} {pos:Pos} {rest:List Expr}
theorem Ytf(ha:ZC X a fa)(hb:ZC X b fb):ZE X (.Compare a [.IsNot] [b] pos) (mB (b2 fa fb (isN true))):=⟨y2g ha.un hb.un⟩
end
section
variable {K:W.Frag}
variable {X:Cx} {a b c e:Expr} {es:List Expr} {fa fb f:Ro→Option D} {fc fd:Ro→Option Bool} {ga:Ro→Option (List D)} {pos:Pos} {rest:List Expr}
theorem y3d(ha:ZC X a fa)(hb:ZC X b fb):ZT X (.Compare a [.Is] [b] pos) (b2 fa fb (isN false)):=⟨y5n ha.un hb.un⟩
end
section
variable {K:W.Frag}
variable {X:Cx} {a b c e:Expr} {es:List Expr} {fa fb f:Ro→Option D} {fc fd:Ro→Option Bool} {ga:Ro→Option (List D)} {pos:Pos} {rest:List Expr}
theorem Ytg(ha:ZC X a fa)(hb:ZC X b fb):ZT X (.Compare a [.IsNot] [b] pos) (b2 fa fb (isN true)):=⟨y2h ha.un hb.un⟩
end
section
variable {K:W.Frag}
variable {X:Cx} {a b c e:Expr} {es:List Expr} {fa fb f:Ro→Option D} {fc fd:Ro→Option Bool} {ga:Ro→Option (List D)} {pos:Pos} {rest:List Expr}
theorem Yp(ha:ZC X a fa)(hb:ZC X b fb)(hs:Ymw b:=by intro _ _;rfl):ZE X (.Subscript a b pos) (b2 fa fb ixD):=⟨y2i ha.un hb.un hs⟩
end
section
variable {K:W.Frag}
variable {X:Cx} {a b c e:Expr} {es:List Expr} {fa fb f:Ro→Option D} {fc fd:Ro→Option Bool} {ga:Ro→Option (List D)} {pos:Pos} {rest:List Expr}
theorem Ykv{lo hi:Option Expr}{fl fh:Option (Ro→Option D)}{p2:Pos}(ha:ZC X a fa)(hl:ZO X lo fl)(hh:ZO X hi fh):ZF X (.Subscript a (.Slice lo hi none p2) pos) (slF fa fl fh):=⟨Yyv ha.un hl.un hh.un⟩
end
section
variable {K:W.Frag}
variable {X:Cx} {a b c e:Expr} {es:List Expr} {fa fb f:Ro→Option D} {fc fd:Ro→Option Bool} {ga:Ro→Option (List D)} {pos:Pos} {rest:List Expr}
theorem y05 :ZO X none none:=⟨y74 ⟩
end
section
variable {K:W.Frag}
variable {X:Cx} {a b c e:Expr} {es:List Expr} {fa fb f:Ro→Option D} {fc fd:Ro→Option Bool} {ga:Ro→Option (List D)} {pos:Pos} {rest:List Expr}
theorem Yth(h:ZC X e f):ZO X (some e) (some f):=⟨y75 h.un⟩
end
section
variable {K:W.Frag}
variable {X:Cx} {a b c e:Expr} {es:List Expr} {fa fb f:Ro→Option D} {fc fd:Ro→Option Bool} {ga:Ro→Option (List D)} {pos:Pos} {rest:List Expr}
theorem Yaj{g:Ro→Option (List D)}(h:ZF X e g):ZE X e (lF g):=⟨MF.me h.un⟩
end
section
variable {K:W.Frag}
variable {X:Cx} {a b c e:Expr} {es:List Expr} {fa fb f:Ro→Option D} {fc fd:Ro→Option Bool} {ga:Ro→Option (List D)} {pos:Pos} {rest:List Expr}
theorem Yk :ZA X [] aNil:=⟨y0k ⟩
end
section
variable {K:W.Frag}
variable {X:Cx} {a b c e:Expr} {es:List Expr} {fa fb f:Ro→Option D} {fc fd:Ro→Option Bool} {ga:Ro→Option (List D)} {pos:Pos} {rest:List Expr}
theorem Yd(ha:ZE X e f)(hr:ZA X es ga)(hs:starEach (e::es) X.env=(false,eval e X.env)::starEach es X.env:=by rfl):ZA X (e::es) (Yg f ga):=⟨Yvo ha.un hr.un hs⟩
end
section
variable {K:W.Frag}
variable {X:Cx} {a b c e:Expr} {es:List Expr} {fa fb f:Ro→Option D} {fc fd:Ro→Option Bool} {ga:Ro→Option (List D)} {pos:Pos} {rest:List Expr}
theorem Yr :ZCA X [] aNil:=⟨Yq6 ⟩
end
section
variable {K:W.Frag}
variable {X:Cx} {a b c e:Expr} {es:List Expr} {fa fb f:Ro→Option D} {fc fd:Ro→Option Bool} {ga:Ro→Option (List D)} {pos:Pos} {rest:List Expr}
theorem Ym(ha:ZC X e f)(hr:ZCA X es ga)(hs:starEach (e::es) X.env=(false,eval e X.env)::starEach es X.env:=by rfl):ZCA X (e::es) (Yg f ga):=⟨Ym6 ha.un hr.un hs⟩
end
section
variable {K:W.Frag}
variable {X:Cx} {a b c e:Expr} {es:List Expr} {fa fb f:Ro→Option D} {fc fd:Ro→Option Bool} {ga:Ro→Option (List D)} {pos:Pos} {rest:List Expr}
theorem Yb1{x1}(h:ZA X es ga):ZE X (.Tuple es x1 pos) (dTup ga):=⟨y5q h.un⟩
end
section
variable {K:W.Frag}
variable {X:Cx} {a b c e:Expr} {es:List Expr} {fa fb f:Ro→Option D} {fc fd:Ro→Option Bool} {ga:Ro→Option (List D)} {pos:Pos} {rest:List Expr}
theorem Ybi(h:ZA X es ga):ZF X (.List es pos) (dLst ga):=⟨y5r h.un⟩
end
section
variable {K:W.Frag}
variable {X:Cx} {a b c e:Expr} {es:List Expr} {fa fb f:Ro→Option D} {fc fd:Ro→Option Bool} {ga:Ro→Option (List D)} {pos:Pos} {rest:List Expr}
variable {x:Str} {p:Pos} {id T:String} {r:List V→Hp→VK→Prop} {g:List D→Option D} {gf:List D→Option (List D)}
theorem Yw(hc:Ycv X (.builtin id) r)(hr:SemC X.K r g)(hg:Gl X x)(hm:X.mg x=none)(hv:bootBuiltins x=some (.builtin id))(ha:ZCA X (e::es) ga)(hn:x≠"__name__":=by decide)(hdb:(x==("__debug__":Str))=false:=by decide)(he:starEach (e::es) X.env=(false,eval e X.env)::starEach es X.env:=by rfl)(hpl:(backTo pos (starEach es X.env)).any (·.1)=false:=by rfl):ZE X (.Call (.Name x p) (e::es) [] pos) (cC ga g):=⟨Yyw hc hr hg hm hv ha.un hn hdb he hpl⟩
end
section
variable {K:W.Frag}
variable {X:Cx} {a b c e:Expr} {es:List Expr} {fa fb f:Ro→Option D} {fc fd:Ro→Option Bool} {ga:Ro→Option (List D)} {pos:Pos} {rest:List Expr}
variable {x:Str} {p:Pos} {id T:String} {r:List V→Hp→VK→Prop} {g:List D→Option D} {gf:List D→Option (List D)}
theorem Ypq(hc:Ycv X (.builtin id) r)(hr:SemF X.K r gf)(hg:Gl X x)(hm:X.mg x=none)(hv:bootBuiltins x=some (.builtin id))(ha:ZCA X (e::es) ga)(hn:x≠"__name__":=by decide)(hdb:(x==("__debug__":Str))=false:=by decide)(he:starEach (e::es) X.env=(false,eval e X.env)::starEach es X.env:=by rfl)(hpl:(backTo pos (starEach es X.env)).any (·.1)=false:=by rfl):ZF X (.Call (.Name x p) (e::es) [] pos) (cF ga gf):=⟨Yyx hc hr hg hm hv ha.un hn hdb he hpl⟩
end
section
variable {K:W.Frag}
variable {X:Cx} {a b c e:Expr} {es:List Expr} {fa fb f:Ro→Option D} {fc fd:Ro→Option Bool} {ga:Ro→Option (List D)} {pos:Pos} {rest:List Expr}
variable {x:Str} {p:Pos} {id T:String} {r:List V→Hp→VK→Prop} {g:List D→Option D} {gf:List D→Option (List D)}
theorem Yat(hc:Ycv X (.type T) r)(hr:SemC X.K r g)(hg:Gl X x)(hm:X.mg x=none)(hv:bootBuiltins x=some (.type T))(ha:ZCA X (e::es) ga)(hn:x≠"__name__":=by decide)(hdb:(x==("__debug__":Str))=false:=by decide)(he:starEach (e::es) X.env=(false,eval e X.env)::starEach es X.env:=by rfl)(hpl:(backTo pos (starEach es X.env)).any (·.1)=false:=by rfl):ZE X (.Call (.Name x p) (e::es) [] pos) (cC ga g):=⟨Yvq hc hr hg hm hv ha.un hn hdb he hpl⟩
end
section
variable {K:W.Frag}
variable {X:Cx} {a b c e:Expr} {es:List Expr} {fa fb f:Ro→Option D} {fc fd:Ro→Option Bool} {ga:Ro→Option (List D)} {pos:Pos} {rest:List Expr}
variable {x:Str} {p:Pos} {id T:String} {r:List V→Hp→VK→Prop} {g:List D→Option D} {gf:List D→Option (List D)}
theorem Ymq(hc:Ycv X (.type T) r)(hr:SemF X.K r gf)(hg:Gl X x)(hm:X.mg x=none)(hv:bootBuiltins x=some (.type T))(ha:ZCA X (e::es) ga)(hn:x≠"__name__":=by decide)(hdb:(x==("__debug__":Str))=false:=by decide)(he:starEach (e::es) X.env=(false,eval e X.env)::starEach es X.env:=by rfl)(hpl:(backTo pos (starEach es X.env)).any (·.1)=false:=by rfl):ZF X (.Call (.Name x p) (e::es) [] pos) (cF ga gf):=⟨Yvr hc hr hg hm hv ha.un hn hdb he hpl⟩
end
section
variable {K:W.Frag}
variable {X:Cx} {e:Expr} {f:Ro→Option D} {gl:Ro→Option (List D)} {pos pos':Pos} {st:Stmt} {sts:List Stmt} {fs gs:Ro→Option Out}
theorem Yz :ZB X [] sNil:=⟨y5s ⟩
end
section
variable {K:W.Frag}
variable {X:Cx} {e:Expr} {f:Ro→Option D} {gl:Ro→Option (List D)} {pos pos':Pos} {st:Stmt} {sts:List Stmt} {fs gs:Ro→Option Out}
theorem Yi(h1:ZS X st fs)(h2:ZB X sts gs):ZB X (st::sts) (sSeq fs gs):=⟨y2k h1.un h2.un⟩
end
section
variable {K:W.Frag}
variable {X:Cx} {e:Expr} {f:Ro→Option D} {gl:Ro→Option (List D)} {pos pos':Pos} {st:Stmt} {sts:List Stmt} {fs gs:Ro→Option Out}
theorem Yj(h1:ZS X st fs):ZB X [st] fs:=⟨y5t h1.un⟩
end
section
variable {K:W.Frag}
variable {X:Cx} {e:Expr} {f:Ro→Option D} {gl:Ro→Option (List D)} {pos pos':Pos} {st:Stmt} {sts:List Stmt} {fs gs:Ro→Option Out}
theorem Ya5(is:List Nat)(h:ZS X st fs):ZS X st (wF is fs):=⟨y5u is h.un⟩
end
section
variable {K:W.Frag}
variable {X:Cx} {e:Expr} {f:Ro→Option D} {gl:Ro→Option (List D)} {pos pos':Pos} {st:Stmt} {sts:List Stmt} {fs gs:Ro→Option Out}
theorem Ybr(i:Nat){x:Str}(hN:X.N.Nodup)(he:ZE X e f)(hi:X.N[i]?=some x:=by rfl)(hx:Loc X.env.scope x:=by first | exact Or.inl rfl | exact Or.inr rfl)(hs:swapsWith e (some (.Name x pos')) pos.line X.env=pure false:=by rfl)(hf:X.fn x=true∨X.env.scope.names.lookup x=some .local:=by first | exact .inl rfl | exact .inr rfl):ZS X (.Assign [.Name x pos'] e pos) (sSet i f):=⟨y5x i hN he.un hi hx hs hf⟩
end
section
variable {K:W.Frag}
variable {X:Cx} {e:Expr} {f:Ro→Option D} {gl:Ro→Option (List D)} {pos pos':Pos} {st:Stmt} {sts:List Stmt} {fs gs:Ro→Option Out}
theorem Yb2(i:Nat){x:Str}(hN:X.N.Nodup)(he:ZF X e gl)(hi:X.N[i]?=some x:=by rfl)(hx:Loc X.env.scope x:=by first | exact Or.inl rfl | exact Or.inr rfl)(hs:swapsWith e (some (.Name x pos')) pos.line X.env=pure false:=by rfl)(hf:X.fn x=true∨X.env.scope.names.lookup x=some .local:=by first | exact .inl rfl | exact .inr rfl):ZS X (.Assign [.Name x pos'] e pos) (sOwn i gl):=⟨y5y i hN he.un hi hx hs hf⟩
end
section
variable {K:W.Frag}
variable {X:Cx} {e:Expr} {f:Ro→Option D} {gl:Ro→Option (List D)} {pos pos':Pos} {st:Stmt} {sts:List Stmt} {fs gs:Ro→Option Out}
theorem Yq(he:ZE X e f):ZS X (.Return (some e) pos) (sRet f):=⟨y5z he.un⟩
end
section
variable {K:W.Frag}
variable {X:Cx} {e:Expr} {f:Ro→Option D} {gl:Ro→Option (List D)} {pos pos':Pos} {st:Stmt} {sts:List Stmt} {fs gs:Ro→Option Out}
theorem Yaf{c:Expr}{a b:List Stmt}{fc:Ro→Option Bool}(hc:ZT X c fc)(ha:ZB X a fs)(hb:ZB X b gs):ZS X (.If c a b pos) (sIf fc fs gs):=⟨y76 hc.un ha.un hb.un⟩
end
section
variable {K:W.Frag}
variable {X:Cx} {e:Expr} {f:Ro→Option D} {gl:Ro→Option (List D)} {pos pos':Pos} {st:Stmt} {sts:List Stmt} {fs gs:Ro→Option Out}
theorem Yib(i:Nat){x:Str}{p2 apos cpos:Pos}(he:ZE X e f)(hN:X.N[i]?=some x:=by rfl)(hv:Vis X.env.scope x:=by first | exact Or.inl rfl | exact Or.inr (Or.inl rfl) | exact Or.inr (Or.inr rfl))(hd:(x==("__debug__":Str))=false:=by decide)(hcd:(x==("__classdict__":Str))=false:=by decide)(hse:swapsWith (.Call (.Attribute (.Name x p2) "append" apos) [e] [] cpos) none pos.line X.env=pure false:=by rfl)(hs:starEach [e] X.env=[(false,eval e X.env)]:=by rfl)(hfew:((backTo cpos (starEach [e] X.env)).all (fun x=>!x.1)&&(backToKw cpos (keywordEach [] X.env)).all (fun x=>x.1.isSome)&&decide ([e].length+([]:List Keyword).length+(if ([]:List Keyword).isEmpty then 0 else 1) < 30))=true:=by rfl)(hline:(apos.endLine==cpos.line)=true:=by rfl)(hbase:attributeBase (.Name x p2) "append" X.env (eval (.Name x p2) X.env)=eval (.Name x p2) X.env:=by rfl):ZS X (.Expr (.Call (.Attribute (.Name x p2) "append" apos) [e] [] cpos) pos) (sMut i f appD):=⟨Yvt i he.un hN hv hd hcd hse hs hfew hline hbase⟩
end
section
variable {K:W.Frag}
variable {X:Cx} {e:Expr} {f:Ro→Option D} {gl:Ro→Option (List D)} {pos pos':Pos} {st:Stmt} {sts:List Stmt} {fs gs:Ro→Option Out}
variable {tg:Expr}
theorem Yad{l:Expr}(hl:ZE X l f):ZI X tg l (b1 f Yn):=⟨y51 hl.un⟩
end
section
variable {K:W.Frag}
variable {X:Cx} {e:Expr} {f:Ro→Option D} {gl:Ro→Option (List D)} {pos pos':Pos} {st:Stmt} {sts:List Stmt} {fs gs:Ro→Option Out}
variable {tg:Expr}
theorem Ya6{a:Expr}{ga:Ro→Option (List D)}{p:Pos}(hg:Gl X "range")(hm:X.mg "range"=none)(ha:ZA X [a] ga)(hs:starEach [a] X.env=[(false,eval a X.env)]:=by rfl):ZI X tg (.Call (.Name "range" p) [a] [] pos) (cF ga rng1):=⟨Yvu hg hm ha.un hs⟩
end
section
variable {K:W.Frag}
variable {X:Cx} {e:Expr} {f:Ro→Option D} {gl:Ro→Option (List D)} {pos pos':Pos} {st:Stmt} {sts:List Stmt} {fs gs:Ro→Option Out}
variable {tg:Expr}
theorem Yx(i:Nat){x:Str}(hN:X.N.Nodup)(hi:X.N[i]?=some x:=by rfl)(hx:Loc X.env.scope x:=by first | exact Or.inl rfl | exact Or.inr rfl)(hf:X.fn x=true∨X.env.scope.names.lookup x=some .local:=by first | exact .inl rfl | exact .inr rfl):ZG X (.Name x pos) (gSet i):=⟨y2l i hN hi hx hf⟩
end
section
variable {K:W.Frag}
variable {X:Cx} {e:Expr} {f:Ro→Option D} {gl:Ro→Option (List D)} {pos pos':Pos} {st:Stmt} {sts:List Stmt} {fs gs:Ro→Option Out}
variable {tg:Expr}
theorem Yzn(i j:Nat){x y:Str}{px py:Pos}{k:Nat}(hc:X.calm=true)(hN:X.N.Nodup)(hi:X.N[i]?=some x:=by rfl)(hj:X.N[j]?=some y:=by rfl)(hx:Loc X.env.scope x:=by first | exact Or.inl rfl | exact Or.inr rfl)(hy:Loc X.env.scope y:=by first | exact Or.inl rfl | exact Or.inr rfl)(hf:X.fn x=true∨X.env.scope.names.lookup x=some .local:=by first | exact .inl rfl | exact .inr rfl)(hf2:X.fn y=true∨X.env.scope.names.lookup y=some .local:=by first | exact .inl rfl | exact .inr rfl):ZG X (.Tuple [.Name x px,.Name y py] k pos) (Yyz i j):=⟨y2m i j hc hN hi hj hx hy hf hf2⟩
end
section
variable {K:W.Frag}
variable {X:Cx} {e:Expr} {f:Ro→Option D} {gl:Ro→Option (List D)} {pos pos':Pos} {st:Stmt} {sts:List Stmt} {fs gs:Ro→Option Out}
variable {tg:Expr}
theorem Yb7{iter:Expr}{body:List Stmt}{gt:D→Ro→Option Ro}(hp:PassesOwn (model X.prog X.w) X.A X.env X.xe)(hc:X.calm=true)(hi:ZI X tg iter gl)(hg:ZG X tg gt)(hb:ZB X body fs)(hs:∀x,foldedSetIterable iter X.env x=pure x:=by intro _;rfl):ZS X (.For tg iter body [] pos) (sFor gl gt fs):=⟨y53 hp hc hi.un hg.un hb.un hs⟩
end
section
variable {K:W.Frag}
variable {X:Cx} {e:Expr} {f:Ro→Option D} {gl:Ro→Option (List D)} {pos pos':Pos} {st:Stmt} {sts:List Stmt} {fs gs:Ro→Option Out}
variable {tg:Expr}
theorem Yam :ZIfs X X.K [] tY:=⟨y54 ⟩
end
section
variable {K:W.Frag}
variable {X:Cx} {e:Expr} {f:Ro→Option D} {gl:Ro→Option (List D)} {pos pos':Pos} {st:Stmt} {sts:List Stmt} {fs gs:Ro→Option Out}
variable {tg:Expr}
variable {elt iter:Expr} {ifs:List Expr} {scope:Scope} {N:List Str} {src:List (Option Nat)} {gt:D→Ro→Option Ro} {fc:Ro→Option Bool} {fe:Ro→Option D}
theorem Yah(S:CompSc X.N X.env.scope N src scope)(hc:X.calm=true)(hit:ZI X tg iter gl)(hg:∀cl C fp s H,ZG (Yaz X scope N cl C fp s H) tg gt)(hi:∀cl C fp s H,ZIfs (Yaz X scope N cl C fp s H) X.K ifs fc)(he:∀cl C fp s H,ZE (Yaz X scope N cl C fp s H) elt fe)(hle:∀ρ d ρ1,gt d (capR src ρ)=some ρ1→Le (capR src ρ) ρ1)(hs:∀x,foldedSetIterable iter X.env x=pure x:=by intro _;rfl):ZF X (.ListComp elt [⟨tg,iter,ifs,0⟩] scope pos) (Yas gl src gt fc fe):=⟨y2o S hc hit.un (fun cl C fp s H=>(hg cl C fp s H).un) (fun cl C fp s H=>(hi cl C fp s H).un) (fun cl C fp s H=>(he cl C fp s H).un) hle hs⟩
end
section
variable {K:W.Frag}
variable {X:Cx} {e:Expr} {f:Ro→Option D} {gl:Ro→Option (List D)} {pos pos':Pos} {st:Stmt} {sts:List Stmt} {fs gs:Ro→Option Out}
variable {tg:Expr}
variable {elt iter:Expr} {ifs:List Expr} {scope:Scope} {N:List Str} {src:List (Option Nat)} {gt:D→Ro→Option Ro} {fc:Ro→Option Bool} {fe:Ro→Option D}
theorem Yd6(i:Nat){y:Str}{py spos:Pos}(hN:X.N.Nodup)(S:CompSc X.N X.env.scope N src scope)(hc:X.calm=true)(hit:ZI X tg iter gl)(hg:∀cl C fp s H,ZG (Yaz X scope N cl C fp s H) tg gt)(hi:∀cl C fp s H,ZIfs (Yaz X scope N cl C fp s H) X.K ifs fc)(he:∀cl C fp s H,ZE (Yaz X scope N cl C fp s H) elt fe)(hle:∀ρ d ρ1,gt d (capR src ρ)=some ρ1→Le (capR src ρ) ρ1)(hsw:swapsWith (.ListComp elt [⟨tg,iter,ifs,0⟩] scope pos) (some (.Name y py)) spos.line X.env=pure true:=by rfl)(hy:X.N[i]?=some y:=by rfl)(hx:Loc X.env.scope y:=by first | exact Or.inl rfl | exact Or.inr rfl)(hf:X.fn y=true∨X.env.scope.names.lookup y=some .local:=by first | exact .inl rfl | exact .inr rfl)(hs:∀x,foldedSetIterable iter X.env x=pure x:=by intro _;rfl):ZS X (.Assign [.Name y py] (.ListComp elt [⟨tg,iter,ifs,0⟩] scope pos) spos) (sOwn i (Yas gl src gt fc fe)):=⟨y2p i hN S hc hit.un (fun cl C fp s H=>(hg cl C fp s H).un) (fun cl C fp s H=>(hi cl C fp s H).un) (fun cl C fp s H=>(he cl C fp s H).un) hle hsw hy hx hf hs⟩
end
section
variable {K:W.Frag}
variable {X:Cx} {e:Expr} {f:Ro→Option D} {gl:Ro→Option (List D)} {pos pos':Pos} {st:Stmt} {sts:List Stmt} {fs gs:Ro→Option Out}
variable {tg:Expr}
variable {P:Program} {w:World} {mg:Str→Option Value} {base:Heap}
theorem Ys{x qual:Str}{st:Stmt}{f:Addr}{fd:FuncData}{N ps:List Str}{k n m:Nat}{fb:Ro→Option Out}(F:Fun K x qual st f fd)(S:FnScope N ps (defScope st))(hn:N.length=n)(hm:ps.length=m)(hb:∀(cdv:Value) (A:Around) (outer:List Env) (s:Shared) (H:Hp) (E:XK),Room k (A.deeper (envOfC qual (defScope st) s.heap.objs.size f cdv))→ZB (cxOf CX0 P w K mg base N qual (defScope st) f cdv A outer s H E).nox (defBody st) fb):FnOk P w K mg base CX0 (k+1) f fd ps (spOf K m (runB m n fb)):=Yvw F S hn hm (fun cdv A outer s H E hr=>(hb cdv A outer s H E hr).un)
end
section
variable {K:W.Frag}
variable {X:Cx} {a b e:Expr} {es:List Expr} {fa fb:Ro→Option D} {ga:Ro→Option (List D)} {pos:Pos}
theorem Yo{j k n:Nat}{x:Str}{p:Pos}{ps:List Str}{fn:List D→Option D}(c:Okf X.prog X.w X.K X.mg X.base j n x ps fn)(hr:Room k X.A)(hg:Gl X x)(ha:ZA X (e::es) ga)(hl:∀ρ l,ga ρ=some l→l.length=n)(hj:j≤k:=by first | exact qt _ | lia)(hdb:(x==("__debug__":Str))=false:=by decide)(he:starEach (e::es) X.env=(false,eval e X.env)::starEach es X.env:=by rfl)(hpl:(backTo pos (starEach es X.env)).any (·.1)=false:=by rfl):ZE X (.Call (.Name x p) (e::es) [] pos) (cC ga fn):=⟨Yy0 c hr hg ha.un hl hj hdb he hpl⟩
end
section
variable {K:W.Frag}
variable {X:Cx} {a b e:Expr} {es:List Expr} {fa fb:Ro→Option D} {ga:Ro→Option (List D)} {pos:Pos}
theorem Yic(ha:ZC X a fa)(hb:ZC X b fb):ZE X (.BinOp a .Add b pos) (b2 fa fb addI):=⟨y55 ha.un hb.un⟩
end
section
variable {K:W.Frag}
variable {X:Cx} {a b e:Expr} {es:List Expr} {fa fb:Ro→Option D} {ga:Ro→Option (List D)} {pos:Pos}
theorem Ykw(ha:ZC X a fa)(hb:ZC X b fb):ZF X (.BinOp a .Add b pos) (b2 fa fb catD):=⟨y56 ha.un hb.un⟩
end
section
variable {K:W.Frag}
variable {X:Cx} {a b e:Expr} {es:List Expr} {fa fb:Ro→Option D} {ga:Ro→Option (List D)} {pos:Pos}
theorem Yav{T:String}{tn:Str}{p p2:Pos}(ha:ZC X a fa)(hg:Gl X "isinstance")(hg2:Gl X tn)(hm:X.mg "isinstance"=none)(hm2:X.mg tn=none)(hv2:bootBuiltins tn=some (.type T))(hk:Kit T)(hv:bootBuiltins "isinstance"=some (.builtin "isinstance"):=by decide +kernel)(hn2:tn≠"__name__":=by decide)(hd2:(tn==("__debug__":Str))=false:=by decide)(hs:starEach [a,.Name tn p2] X.env=(false,eval a X.env)::starEach [.Name tn p2] X.env:=by rfl)(hs2:starEach [.Name tn p2] X.env=(false,eval (.Name tn p2) X.env)::starEach [] X.env:=by rfl)(hpl:(backTo pos (starEach [.Name tn p2] X.env)).any (·.1)=false:=by rfl):ZE X (.Call (.Name "isinstance" p) [a,.Name tn p2] [] pos) (mB (b1 fa (isiD T))):=⟨y57 ha.un hg hg2 hm hm2 hv2 hk hv hn2 hd2 hs hs2 hpl⟩
end
section
variable {K:W.Frag}
variable {elts:List Expr} {x1:Nat} {pt:Pos}
variable {X:Cx} {pos:Pos}
theorem Ynm{l:Expr}{f:Ro→Option D}{p:Pos}(hg:Gl X "enumerate")(hm:X.mg "enumerate"=none)(hl:ZE X l f)(hs:starEach [l] X.env=[(false,eval l X.env)]:=by rfl):ZI X (.Tuple elts x1 pt) (.Call (.Name "enumerate" p) [l] [] pos) (b1 f Yy5):=⟨Yo8 hg hm hl.un hs⟩
end
section
variable {K:W.Frag}
variable {X:Cx} {e ie:Expr} {f fb:Ro→Option D} {pos:Pos}
theorem Ymr(i:Nat){x:Str}{p2 apos cpos:Pos}(hb:ZE X ie fb)(he:ZE X e f)(hN:X.N[i]?=some x:=by rfl)(hv:Vis X.env.scope x:=by first | exact Or.inl rfl | exact Or.inr (Or.inl rfl) | exact Or.inr (Or.inr rfl))(hd:(x==("__debug__":Str))=false:=by decide)(hcd:(x==("__classdict__":Str))=false:=by decide)(hse:swapsWith (.Call (.Attribute (.Name x p2) "insert" apos) [ie,e] [] cpos) none pos.line X.env=pure false:=by rfl)(hs:starEach [ie,e] X.env=(false,eval ie X.env)::starEach [e] X.env:=by rfl)(hs2:starEach [e] X.env=[(false,eval e X.env)]:=by rfl)(hfew:((backTo cpos (starEach [ie,e] X.env)).all (fun x=>!x.1)&&(backToKw cpos (keywordEach [] X.env)).all (fun x=>x.1.isSome)&&decide ([ie,e].length+([]:List Keyword).length+(if ([]:List Keyword).isEmpty then 0 else 1) < 30))=true:=by rfl)(hline:(apos.endLine==cpos.line)=true:=by rfl)(hbase:attributeBase (.Name x p2) "insert" X.env (eval (.Name x p2) X.env)=eval (.Name x p2) X.env:=by rfl)(hpl:(backTo cpos (starEach [e] X.env)).any (·.1)=false:=by rfl):ZS X (.Expr (.Call (.Attribute (.Name x p2) "insert" apos) [ie,e] [] cpos) pos) (Yt3 i fb f insD):=⟨Yv5 i hb.un he.un hN hv hd hcd hse hs hs2 hfew hline hbase hpl⟩
end
section
variable {K:W.Frag}
variable {X:Cx} {e ie:Expr} {f fb:Ro→Option D} {pos:Pos}
theorem Yid(i:Nat){x:Str}{p2 apos cpos:Pos}(he:ZE X e f)(hN:X.N[i]?=some x:=by rfl)(hv:Vis X.env.scope x:=by first | exact Or.inl rfl | exact Or.inr (Or.inl rfl) | exact Or.inr (Or.inr rfl))(hd:(x==("__debug__":Str))=false:=by decide)(hcd:(x==("__classdict__":Str))=false:=by decide)(hse:swapsWith (.Call (.Attribute (.Name x p2) "extend" apos) [e] [] cpos) none pos.line X.env=pure false:=by rfl)(hs:starEach [e] X.env=[(false,eval e X.env)]:=by rfl)(hfew:((backTo cpos (starEach [e] X.env)).all (fun x=>!x.1)&&(backToKw cpos (keywordEach [] X.env)).all (fun x=>x.1.isSome)&&decide ([e].length+([]:List Keyword).length+(if ([]:List Keyword).isEmpty then 0 else 1) < 30))=true:=by rfl)(hline:(apos.endLine==cpos.line)=true:=by rfl)(hbase:attributeBase (.Name x p2) "extend" X.env (eval (.Name x p2) X.env)=eval (.Name x p2) X.env:=by rfl):ZS X (.Expr (.Call (.Attribute (.Name x p2) "extend" apos) [e] [] cpos) pos) (sMut i f extD):=⟨Yv6 i he.un hN hv hd hcd hse hs hfew hline hbase⟩
end
section
variable {K:W.Frag}
variable {X:Cx} {ke:Expr} {fk:Ro→Option D} {pos px:Pos} {x:Str}
theorem Yjt{i:Int}(g:GI X.mg x i)(hg:Gl X x)(hd:(x==("__debug__":Str))=false:=by decide):ZE X (.Name x px) (kD (.int i)):=⟨y2t g hg hd⟩
end
section
variable {K:W.Frag}
theorem y3e{X:Cx}{pos:Pos}:ZP X pos [] [] [] []:=⟨y6c ⟩
end
section
variable {K:W.Frag}
theorem Yju{X:Cx}{pos pk:Pos}{x:Str}{j:Nat}{v:Expr}{f:Ro→Option D}{keys:List (Option Expr)}{values:List Expr}{ks:List Str}{fs:List (Ro→Option D)}(hv:ZE X v f)(hr:ZP X pos keys values ks fs):ZP X pos (some (.Constant (.str x) j pk)::keys) (v::values) (x::ks) (f::fs):=⟨y2u hv.un hr.un⟩
end
section
variable {K:W.Frag}
variable {X:Cx} {ke:Expr} {fk:Ro→Option D} {pos dpos:Pos}
theorem Yzo(hu:X.A.units+64 < cLine){keys:List (Option Expr)}{values:List Expr}(ks:List Str)(fs:List (Ro→Option D))(hn:ks.Nodup)(h15:ks.length≤15)(h0:ks≠[])(hp:ZP X dpos keys values ks fs)(hk:ZC X ke fk)(hs:NoSl ke:=by intro _ _;rfl):ZE X (.Subscript (.Dict keys values dpos) ke pos) (Yt6 ks fs fk):=⟨y2v hu ks fs hn h15 h0 hp.un hk.un hs⟩
end
section
variable {X:Cx} {a b c e:Expr} {fa fb fc:Ro→Option D} {pos:Pos} {st:Stmt}
theorem Ypr{op op':CmpOp}{r r':R2}{g g':D→D→Option Bool}(ho:OpR X (compareOp op) r)(hr:Yg6 X.K r g)(ho':OpR X (compareOp op') r')(hr':Yg6 X.K r' g')(ha:ZC X a fa)(hb:ZC X b fb)(hc:ZC X c fc)(hm:lastMarks [op,op'] [b,c]=false:=by with_unfolding_all rfl):ZE X (.Compare a [op,op'] [b,c] pos) (mB (ch3 fa fb fc g g')):=⟨Yy8 ho hr ho' hr' ha.un hb.un hc.un hm⟩
end
section
variable {X:Cx} {a b c e:Expr} {fa fb fc:Ro→Option D} {pos:Pos} {st:Stmt}
theorem Yb8 :ZS X st nS:=⟨Yy9 ⟩
end
section
variable {X:Cx} {a b e:Expr} {fa fb f:Ro→Option D} {pos:Pos} {K:W.Frag}
theorem Yxb(ha:ZC X a fa)(hb:ZC X b fb):ZT X (.Compare a [.Is] [b] pos) (b2 fa fb (isB false)):=⟨y6e ha.un hb.un⟩
end
section
variable {X:Cx} {a:Expr} {fa:Ro→Option D} {pos px:Pos} {x:Str} {ks:List Str}
theorem Yzp(hu:X.A.units+64 < cLine)(g:GT X.K X.mg x ks)(hg:Gl X x)(ha:ZC X a fa)(hm:behindInMarks .NotIn (.Name x px)=false:=by with_unfolding_all rfl)(hd:(x==("__debug__":Str))=false:=by decide):ZT X (.Compare a [.NotIn] [.Name x px] pos) (b1 fa (inG true ks)):=⟨y20 hu g hg ha.un hm hd⟩
end
theorem Yhh{X:Cx}{c:Expr}{f:Ro→Option Bool}(h:ZT X c f):ZIfs X X.K [c] f:=⟨y13 h.un⟩
theorem Ydr{X:Cx}{e:Expr}{f:Ro→Option Bool}(h:ZW X e f):ZT X e f:=⟨PW.pt h.un⟩
end
section
section
variable {X:Cx} {e:Expr} {ga:Ro→Option (List D)} {p p2 pos pos2:Pos}
theorem Yms(hc:X.calm=true)(hu:X.A.units+64 < cLine)(hm:X.mg "len"=none)(hm2:X.mg "set"=none)(hg:Gl X "len")(hg2:Gl X "set")(ha:ZCA X [e] ga)(hs:starEach [e] X.env=[(false,eval e X.env)]:=by rfl)(he:starEach [.Call (.Name "set" p2) [e] [] pos2] X.env=[(false,eval (.Call (.Name "set" p2) [e] [] pos2) X.env)]:=by rfl)(hpl:(backTo pos2 (starEach [] X.env)).any (·.1)=false:=by rfl)(hpl2:(backTo pos (starEach [] X.env)).any (·.1)=false:=by rfl):ZE X (.Call (.Name "len" p) [.Call (.Name "set" p2) [e] [] pos2] [] pos) (cC ga Yko):=⟨Ywp hc hu hm hm2 hg hg2 ha.un hs he hpl hpl2⟩
end
section
variable {X:Cx} {e:Expr} {f:Ro→Option D} {p p2 pos pos2:Pos}
theorem Yps(hc:X.calm=true)(hu:X.A.units+64 < cLine)(hg:Gl X "sorted")(hm:X.mg "sorted"=none)(hg2:Gl X "set")(hm2:X.mg "set"=none)(ha:ZC X e f)(hs:starEach [e] X.env=[(false,eval e X.env)]:=by rfl)(he:starEach [.Call (.Name "set" p2) [e] [] pos2] X.env=[(false,eval (.Call (.Name "set" p2) [e] [] pos2) X.env)]:=by rfl)(hpl:(backTo pos2 (starEach [] X.env)).any (·.1)=false:=by rfl)(hpl2:(backTo pos (starEach [] X.env)).any (·.1)=false:=by rfl):ZF X (.Call (.Name "sorted" p) [.Call (.Name "set" p2) [e] [] pos2] [] pos) (Yf2 f):=⟨Yrn hc hu hg hm hg2 hm2 ha.un hs he hpl hpl2⟩
end
section
variable {X:Cx} {e:Expr} {f:Ro→Option D} {p p2 pos pos2:Pos}
theorem Yzq(he:ZE X e f)(hse:swapsWith e none pos.line X.env=pure false:=by rfl):ZS X (.Expr e pos) (sExp f):=⟨y27 he.un hse⟩
end
section
variable {X:Cx} {e:Expr} {f:Ro→Option D} {p p2 pos pos2:Pos}
theorem Ynn{a:Expr}{ga:Ro→Option (List D)}(hc:X.calm=true)(hg:Gl X "list")(hm:X.mg "list"=none)(hg2:Gl X "range")(hm2:X.mg "range"=none)(ha:ZA X [a] ga)(hs:starEach [a] X.env=[(false,eval a X.env)]:=by rfl)(he:starEach [.Call (.Name "range" p2) [a] [] pos2] X.env=[(false,eval (.Call (.Name "range" p2) [a] [] pos2) X.env)]:=by rfl):ZF X (.Call (.Name "list" p) [.Call (.Name "range" p2) [a] [] pos2] [] pos) (cF ga rng1):=⟨Ypo hc hg hm hg2 hm2 ha.un hs he⟩
end
section
variable {X:Cx} {e:Expr} {f:Ro→Option D} {p p2 pos pos2:Pos}
theorem Yuj{ke:Expr}{fk:Ro→Option D}{px:Pos}{x:Str}{kvs:List (Str × Int)}(g:GDI X.K X.w X.mg x kvs)(hg:Gl X x)(hk:ZC X ke fk)(hs:NoSl ke:=by intro _ _;rfl)(hd:(x==("__debug__":Str))=false:=by decide):ZE X (.Subscript (.Name x px) ke pos) (b1 fk (Yi3 kvs)):=⟨Yw7 g hg hk.un hs hd⟩
end
section
variable {X:Cx} {e:Expr} {f:Ro→Option D} {p p2 pos pos2:Pos}
theorem Yjv{a b:Expr}{fa fb:Ro→Option D}(ha:ZC X a fa)(hb:ZC X b fb):ZE X (.BinOp a .Add b pos) (b2 fa fb Yro):=⟨y3a ha.un hb.un⟩
end
end
section
variable {K:W.Frag}
noncomputable def y8d(K:W.Frag)(j:Nat)(x:Option (Option V))(H0 G0:Hp)(F:Ends):Out→Prop
 | .nx ρ'=>∀σ' H' G',SR K H0 G0 σ' H' G' ρ'→σ'[j]?=x→F.nx σ' H'
 | .rt _=>False
 | .bk ρ'=>∀σ' H' G',SR K H0 G0 σ' H' G' ρ'→σ'[j]?=x→F.bk σ' H'
 | .ct ρ'=>∀σ' H' G',SR K H0 G0 σ' H' G' ρ'→σ'[j]?=x→F.ct σ' H'
noncomputable def sOfK(K:W.Frag)(j:Nat)(f:Ro→Option Out):TS:=fun F σ H=>∃ρ out H0 G0 G,f ρ=some out∧SR K H0 G0 σ H G ρ∧y8d K j σ[j]? H0 G0 F out
structure KS(j:Nat)(X:Cx)(st:Stmt)(f:Ro→Option Out):Prop where
 un:PS X st (sOfK X.K j f)
structure KB(j:Nat)(X:Cx)(sts:List Stmt)(f:Ro→Option Out):Prop where
 un:PSs X sts (sOfK X.K j f)
noncomputable def sOfR(K:W.Frag)(j r:Nat)(fb:Ro→Option Out):TS:=fun F σ H=>∃ρ ρ' l d H0 G0 G,fb ρ=some (.nx ρ')∧getO j ρ'=some l∧getV r (frz [r] ρ')=some d∧SR K H0 G0 σ H G ρ∧
 ∀v σ' H' G',SR K H0 G0 σ' H' G' (frz [r] ρ')→σ'[j]?=σ[j]?→Rp K G' d v→F.rt v H'
structure KR(j r:Nat)(X:Cx)(sts:List Stmt)(f:Ro→Option Out):Prop where
 un:PSs X sts (sOfR X.K j r f)
noncomputable def sOfL(K:W.Frag)(gl:Ro→Option (List D))(fb:Ro→Option Out):TS:=fun F σ H=>∃ρ ρ' l H0 G0 G,fb ρ=some (.nx ρ')∧gl ρ'=some l∧SR K H0 G0 σ H G ρ∧
 ∀p xs H' G',Gr H0 G0 H' G'→H0 p=none→G' p=none→H' p=some (.lst xs)→RpL K G' l xs→F.rt (.ref p) H'
structure KL(gl:Ro→Option (List D))(X:Cx)(sts:List Stmt)(f:Ro→Option Out):Prop where
 un:PSs X sts (sOfL X.K gl f)
theorem len1{us:List Value}(h:us.length=1):∃a0,us=[a0]:=List.length_eq_one_iff.mp h
theorem len2{us:List Value}(h:us.length=2):∃a0 a1,us=[a0,a1]:=by
 cases us with
 | nil=>cases h
 | cons a us=>
   obtain⟨b0,rfl⟩:=len1 (Nat.succ.inj h)
   exact⟨a,b0,rfl⟩
theorem len3{us:List Value}(h:us.length=3):∃a0 a1 a2,us=[a0,a1,a2]:=by
 cases us with
 | nil=>cases h
 | cons a us=>
   obtain⟨b0,b1,rfl⟩:=len2 (Nat.succ.inj h)
   exact⟨a,b0,b1,rfl⟩
theorem len4{us:List Value}(h:us.length=4):∃a0 a1 a2 a3,us=[a0,a1,a2,a3]:=by
 cases us with
 | nil=>cases h
 | cons a us=>
   obtain⟨b0,b1,b2,rfl⟩:=len3 (Nat.succ.inj h)
   exact⟨a,b0,b1,b2,rfl⟩
end
end M
namespace M
open PySem L2
theorem nr{α:Sort _}{a b:α}(h:a=b):a=b:=h
section
variable {ρ:Ro}
@[simp] theorem y6r{α:Type}(fa fb:Ro→Option D)(g:D→D→Option α):b2 fa fb g ρ=(fa ρ).bind fun x=>(fb ρ).bind fun y=>g x y:=nr rfl
@[simp] theorem Yzr{α:Type}(fa:Ro→Option D)(g:D→Option α):b1 fa g ρ=(fa ρ).bind g:=nr rfl
@[simp] theorem y8e(d:D):kD d ρ=some d:=nr rfl
@[simp] theorem ap_mB(f:Ro→Option Bool):mB f ρ=(f ρ).map D.bl:=nr rfl
@[simp] theorem ap_andT(f g:Ro→Option Bool):andT f g ρ=(f ρ).bind fun k=>if k=true then g ρ else some false:=nr rfl
@[simp] theorem y06(f g:Ro→Option Bool):orT f g ρ=(f ρ).bind fun k=>if k=true then some true else g ρ:=nr rfl
@[simp] theorem y3f(f:Ro→Option Bool):notT f ρ=(f ρ).map (!·):=nr rfl
@[simp] theorem ap_andV(f g:Ro→Option D):andV f g ρ=((f ρ).bind blD).bind fun k=>if k=true then g ρ else some (.bl false):=nr rfl
@[simp] theorem ap_orV(f g:Ro→Option D):orV f g ρ=((f ρ).bind blD).bind fun k=>if k=true then some (.bl true)else g ρ:=nr rfl
@[simp] theorem ap_notV(f:Ro→Option D):notV f ρ=((f ρ).bind blD).map fun k=>.bl (!k):=nr rfl
@[simp] theorem y6s(f:Ro→Option (List D)):lF f ρ=(f ρ).map D.lst:=nr rfl
@[simp] theorem Yrr:aNil ρ=some []:=nr rfl
@[simp] theorem Yd7(f:Ro→Option D)(g:Ro→Option (List D)):Yg f g ρ=(f ρ).bind fun d=>(g ρ).map (d::·):=nr rfl
@[simp] theorem ap_dTup(f:Ro→Option (List D)):dTup f ρ=(f ρ).bind fun l=>if l.length≤cap6 then some (.tup l)else none:=nr rfl
@[simp] theorem ap_dLst(f:Ro→Option (List D)):dLst f ρ=(f ρ).bind fun l=>if l.length≤cap6 then some l else none:=nr rfl
@[simp] theorem Yno(f:Ro→Option (List D))(g:List D→Option D):cC f g ρ=(f ρ).bind g:=nr rfl
@[simp] theorem Yzs(f:Ro→Option (List D))(g:List D→Option (List D)):cF f g ρ=(f ρ).bind g:=nr rfl
@[simp] theorem ap_slF(f:Ro→Option D)(lo hi:Option (Ro→Option D)):slF f lo hi ρ=((f ρ).bind lstD).bind fun l=>(optI lo ρ).bind fun i=>(optI hi ρ).bind fun j=>some (cutD l i j):=nr rfl
@[simp] theorem ap_optN:optI none ρ=some none:=nr rfl
@[simp] theorem ap_optS(f:Ro→Option D):optI (some f) ρ=((f ρ).bind intD).map some:=nr rfl
@[simp] theorem ap_sNil:sNil ρ=some (.nx ρ):=nr rfl
@[simp] theorem y3g(i:Nat)(f:Ro→Option D):sSet i f ρ=(f ρ).map fun d=>.nx (ρ.set i (some (.sh d))):=nr rfl
@[simp] theorem Yxc(i:Nat)(f:Ro→Option (List D)):sOwn i f ρ=(f ρ).map fun l=>.nx (ρ.set i (some (.ow l))):=nr rfl
@[simp] theorem Yxd(f:Ro→Option D):sRet f ρ=(f ρ).map .rt:=nr rfl
@[simp] theorem Yxe(c:Ro→Option Bool)(f g:Ro→Option Out):sIf c f g ρ=(c ρ).bind fun k=>if k=true then f ρ else g ρ:=nr rfl
@[simp] theorem ap_sMut(i:Nat)(f:Ro→Option D)(g:List D→D→Option (List D)):sMut i f g ρ=(getO i ρ).bind fun l=>(f ρ).bind fun d=>(g l d).map fun l'=>.nx (ρ.set i (some (.ow l'))):=nr rfl
@[simp] theorem Ygk(gl:Ro→Option (List D))(gt:D→Ro→Option Ro)(fb:Ro→Option Out):sFor gl gt fb ρ=(gl ρ).bind fun ds=>forM gt fb ds ρ:=nr rfl
@[simp] theorem Yjw(gl:Ro→Option (List D))(src:List (Option Nat))(gt:D→Ro→Option Ro)(fc:Ro→Option Bool)(fe:Ro→Option D):Yas gl src gt fc fe ρ=(gl ρ).bind fun ds=>Yh4 gt fc fe (capR src ρ) ds:=nr rfl
@[simp] theorem Yxf(is:List Nat)(f:Ro→Option Out):wF is f ρ=f (frz is ρ):=nr rfl
noncomputable def y3h(g:Ro→Option Out):Out→Option Out
 | .nx ρ'=>g ρ'
 | o=>some o
@[simp] theorem Yac(g:Ro→Option Out)(ρ':Ro):y3h g (.nx ρ')=g ρ':=nr rfl
@[simp] theorem thenS_rt(g:Ro→Option Out)(d:D):y3h g (.rt d)=some (.rt d):=nr rfl
@[simp] theorem Yak(f g:Ro→Option Out):sSeq f g ρ=(f ρ).bind (y3h g):=nr rfl
noncomputable def endB:Out→Option D
 | .rt d=>some d
 | .nx _=>some .non
 | _=>none
@[simp] theorem endB_rt(d:D):endB (.rt d)=some d:=nr rfl
@[simp] theorem endB_nx(ρ:Ro):endB (.nx ρ)=some .non:=nr rfl
theorem Ya8{k n:Nat}{fb:Ro→Option Out}{ds:List D}(h:ds.length=k):runB k n fb ds=(fb (Yai n ds)).bind endB:=by
 unfold runB
 rw[if_pos h]
 rfl
@[simp] theorem ap_ch3(fa fb fc:Ro→Option D)(g g':D→D→Option Bool):ch3 fa fb fc g g' ρ=(fa ρ).bind fun x=>(fb ρ).bind fun y=>(g x y).bind fun k=>if k=true then (fc ρ).bind fun z=>g' y z else some false:=nr rfl
@[simp] theorem frz_nil:frz [] ρ=ρ:=nr rfl
@[simp] theorem frz_cons(i:Nat)(is:List Nat):frz (i::is) ρ=frz is (frz1 i ρ):=nr rfl
end
@[simp] theorem add_int'(i j:Int):addI (.int i) (.int j)=some (.int (i+j)):=nr rfl
@[simp] theorem sub_int'(i j:Int):subI (.int i) (.int j)=some (.int (i - j)):=nr rfl
theorem Yzt{i j:Int}(h:-(2 ^ 64) < i∧i < 2 ^ 64):mulI (.int i) (.int j)=some (.int (i * j)):=by
 simp only[mulI,i2]
 rw[if_pos]
 simp only[Bool.or_eq_true,Qi,decide_eq_true_eq]
 exact .inl h
@[simp] theorem div_int'{i j:Int}(h:0 < j)(h':j < 1073741824):divI (.int i) (.int j)=some (.int (i / j)):=by
 simp only[divI,i2]
 rw[if_pos]
 simp only[Qi,decide_eq_true_eq]
 exact⟨h,h'⟩
@[simp] theorem mod_int''{i j:Int}(h:0 < j):modI (.int i) (.int j)=some (.int (i % j)):=by
 simp only[modI,i2]
 rw[if_pos]
 simp only[decide_eq_true_eq]
 exact h
@[simp] theorem lt_int'(i j:Int):ltI (.int i) (.int j)=some (decide (i < j)):=nr rfl
@[simp] theorem le_int'(i j:Int):leI (.int i) (.int j)=some (decide (i≤j)):=nr rfl
@[simp] theorem gt_int'(i j:Int):gtI (.int i) (.int j)=some (decide (j < i)):=nr rfl
@[simp] theorem ge_int'(i j:Int):geI (.int i) (.int j)=some (decide (j≤i)):=nr rfl
@[simp] theorem blD_bl(b:Bool):blD (.bl b)=some b:=nr rfl
@[simp] theorem truD_bl(b:Bool):truD (.bl b)=some b:=nr rfl
@[simp] theorem itemsOf_tup(l:List D):Yn (.tup l)=some l:=nr rfl
@[simp] theorem Yds(l:List D):Yn (.lst l)=some l:=nr rfl
@[simp] theorem itemsOf_scr(ns:List Int):Yn (.scr ns)=some (ns.map D.int):=nr rfl
@[simp] theorem lenC_one(c:D):lenC [c]=(Yn c).map fun l=>.int l.length:=nr rfl
@[simp] theorem tupC_one(c:D):tupC [c]=(Yn c).map D.tup:=nr rfl
@[simp] theorem listF_one(c:D):Yt0 [c]=Yn c:=nr rfl
@[simp] theorem intC_bl(b:Bool):intC [.bl b]=some (.int (if b then 1 else 0)):=nr rfl
@[simp] theorem ixD_int(c:D)(i:Int):ixD c (.int i)=(Yn c).bind fun l=>atI l i:=nr rfl
@[simp] theorem lstD_lst(l:List D):lstD (.lst l)=some l:=nr rfl
@[simp] theorem lstD_scr(ns:List Int):lstD (.scr ns)=some (ns.map D.int):=nr rfl
@[simp] theorem intD_int(i:Int):intD (.int i)=some i:=nr rfl
@[simp] theorem y3i(i j:Int):eqD (.int i) (.int j)=(i==j):=by simp[eqD,toPy,PyData.eqv]
@[simp] theorem y07(i j:Bool):eqD (.bl i) (.bl j)=(i==j):=by simp[eqD,toPy,PyData.eqv]
@[simp] theorem y3j(i j:Str):eqD (.str i) (.str j)=(i==j):=by simp[eqD,toPy,PyData.eqv]
@[simp] theorem Yxg(l m:List D):eqD (.tup l) (.tup m)=eqL l m:=by simp[eqD,eqL,toPy,PyData.eqv]
@[simp] theorem y3k(l m:List D):eqD (.lst l) (.lst m)=eqL l m:=by simp[eqD,eqL,toPy,PyData.eqv]
@[simp] theorem eqL_nil:eqL [] []=true:=by simp[eqL,Ydd,PyData.eqvAll]
@[simp] theorem Yti(a b:D)(l m:List D):eqL (a::l) (b::m)=(eqD a b&&eqL l m):=by simp[eqL,eqD,Ydd,PyData.eqvAll]
@[simp] theorem eqL_nc(b:D)(m:List D):eqL [] (b::m)=false:=by simp[eqL,Ydd,PyData.eqvAll]
@[simp] theorem eqL_cn(b:D)(m:List D):eqL (b::m) []=false:=by simp[eqL,Ydd,PyData.eqvAll]
@[simp] theorem dep_int(i:Int):dep (.int i)=0:=by simp[dep]
@[simp] theorem dep_bl(i:Bool):dep (.bl i)=0:=by simp[dep]
@[simp] theorem dep_str(i:Str):dep (.str i)=0:=by simp[dep]
@[simp] theorem y3l(l:List D):dep (.tup l)=depL l+1:=by simp[dep]
@[simp] theorem y3m(l:List D):dep (.lst l)=depL l+1:=by simp[dep]
@[simp] theorem depL_nil:depL []=0:=by simp[depL]
@[simp] theorem Yxh(d:D)(l:List D):depL (d::l)=max (dep d) (depL l):=by simp[depL]
theorem Yga{neg:Bool}{d e:D}(h:dep d≤60)(h':dep e≤60):eqM neg d e=some (if neg then !eqD d e else eqD d e):=by
 unfold eqM
 rw[if_pos ⟨h,h'⟩]
theorem y6t{neg:Bool}{d c:D}{l:List D}(hc:Yn c=some l)(h:dep d≤60)(h':depL l≤60):inM neg d c=some (if neg then !inD d l else inD d l):=by
 unfold inM
 rw[hc,qc,if_pos ⟨h',h⟩]
theorem Ykx{gt:D→Ro→Option Ro}{fc:Ro→Option Bool}{fe:Ro→Option D}{ρ:Ro}{α:Type}(enc:α→D)(p:α→Bool)(f:α→D):∀(l:List α),(∀a∈l,∃ρ1,gt (enc a) ρ=some ρ1∧fc ρ1=some (p a)∧(p a=true→fe ρ1=some (f a)))→
 Yh4 gt fc fe ρ (l.map enc)=some ((l.filter p).map f)
 | [],_=>rfl
 | a::l,h=>by
   obtain⟨ρ1,h1,h2,h3⟩:=h a qg
   have ih:=Ykx enc p f l fun b hb=>h b (qf _ hb)
   rw[Qc,Yh4,h1,qc,h2,qc]
   cases hp:p a with
   | true=>
     rw[if_pos rfl,h3 hp,qc,ih,List.filter_cons_of_pos hp]
     rfl
   | false=>rw[if_neg qh,ih,List.filter_cons_of_neg (by rw[hp];exact qh)]
@[simp] theorem atI_zero{α:Type}(a:α)(l:List α):atI (a::l) 0=some a:=by
 have:=Yq2 (xs:=a::l) (j:=0) (v:=a) rfl
 simpa using this
@[simp] theorem atI_one{α:Type}(a b:α)(l:List α):atI (a::b::l) 1=some b:=by
 have:=Yq2 (xs:=a::b::l) (j:=1) (v:=b) rfl
 simpa using this
@[simp] theorem forM_nil(gt:D→Ro→Option Ro)(fb:Ro→Option Out)(ρ:Ro):M.forM gt fb [] ρ=some (.nx ρ):=nr rfl
theorem Ydf{gt:D→Ro→Option Ro}{fb:Ro→Option Out}{α:Type}(enc:α→D)(I:List α→Ro→Prop):∀(l pre:List α) (ρ:Ro),I pre ρ→
 (∀q a r ρ,pre++l=q++a::r→I q ρ→∃ρ1 ρ2,gt (enc a) ρ=some ρ1∧fb ρ1=some (.nx ρ2)∧I (q++[a]) ρ2)→∃ρ',M.forM gt fb (l.map enc) ρ=some (.nx ρ')∧I (pre++l) ρ'
 | [],pre,ρ,h0,_=>⟨ρ,rfl,by rw[List.append_nil];exact h0⟩
 | a::l,pre,ρ,h0,hs=>by
   obtain⟨ρ1,ρ2,e1,e2,h2⟩:=hs pre a l ρ rfl h0
   obtain⟨ρ',e3,h3⟩:=Ydf enc I l (pre++[a]) ρ2 h2 fun q b r ρ e hI=>hs q b r ρ (by rw[←e,List.append_assoc];rfl) hI
   refine⟨ρ',?_,by rw[List.append_assoc]at h3;exact h3⟩
   rw[Qc,M.forM,e1,qc,e2,qc]
   exact e3
theorem Ygl(a n:Int):rngD a n=(List.range (n - a).toNat).map fun i=>D.int (a+(i:Nat)):=rfl
theorem Ygm{n:Int}(h:-1000000≤n)(h':n≤1000000):rng1 [.int n]=some (rngD 0 n):=by
 have hcap:(cap6:Int)=1000000:=by decide
 simp only[rng1]
 rw[if_pos]
 simp only[Qi,decide_eq_true_eq]
 lia
theorem Yd8{α:Type}{l:List α}{i:Nat}(h:i < l.length):atI l (i:Int)=some l[i]:=Yq2 (qp h)
theorem Yfh{α β:Type}(f:α→β)(l:List α)(i:Int):atI (l.map f) i=(atI l i).map f:=by
 unfold atI
 rw[qe]
 cases ixN l.length i with
 | none=>rfl
 | some j=>
   show(l.map f)[j]?=(l[j]?).map f
   rw[Qh]
end M
namespace M
open PySem L2
@[simp] theorem nat_eq_iff(x b:Nat):((x:Int)=(b:Int))↔x=b:=by lia
@[simp] theorem eqM_int(neg:Bool)(i j:Int):eqM neg (.int i) (.int j)=some (if neg then !decide (i=j)else decide (i=j)):=by
 rw[Yga (by simp) (by simp),y3i];rfl
@[simp] theorem eqM_bl(neg:Bool)(i j:Bool):eqM neg (.bl i) (.bl j)=some (if neg then !(i==j)else i==j):=by
 rw[Yga (by simp) (by simp),y07]
@[simp] theorem isN_non(neg:Bool):isN neg .non .non=some (if neg then false else true):=by cases neg<;>rfl
@[simp] theorem isN_int(neg:Bool)(i:Int):isN neg (.int i) .non=some (if neg then true else false):=by cases neg<;>rfl
@[simp] theorem isN_lst(neg:Bool)(l:List D):isN neg (.lst l) .non=some (if neg then true else false):=by cases neg<;>rfl
@[simp] theorem Ytj{α:Type}(f:α→Bool):∀l:List α,blsD (l.map fun a=>.bl (f a))=some (l.map f)
 | []=>rfl
 | a::l=>by rw[Qc,blsD,Ytj f l];rfl
@[simp] theorem blsD_bl(l:List Bool):blsD (l.map D.bl)=some l:=by simpa using Ytj id l
@[simp] theorem Ypt{α:Type}(f:α→Int):∀l:List α,Yf5 (l.map fun a=>.int (f a))=some (l.map f)
 | []=>rfl
 | a::l=>by rw[Qc,Yf5,Ypt f l];rfl
@[simp] theorem anyC_lst(l:List D):anyC [.lst l]=(blsD l).map fun bs=>.bl (bs.any id):=nr rfl
@[simp] theorem allC_lst(l:List D):allC [.lst l]=(blsD l).map fun bs=>.bl (bs.all id):=nr rfl
@[simp] theorem Yzu(l:List D):sumC [.lst l]=(Yf5 l).map fun ns=>.int ns.sum:=nr rfl
@[simp] theorem ap_sMut2{ρ:Ro}(i:Nat)(fi f:Ro→Option D)(g:List D→D→D→Option (List D)):Yt3 i fi f g ρ=(f ρ).bind fun d=>(getO i ρ).bind fun l=>(fi ρ).bind fun k=>(g l k d).map fun l'=>.nx (ρ.set i (some (.ow l'))):=nr rfl
@[simp] theorem enumD_of(c:D):Yy5 c=(Yn c).map Ynb:=nr rfl
@[simp] theorem cap6_eq:cap6=1000000:=nr rfl
@[simp] theorem gV0(d:D)(r:Ro):getV 0 (some (.sh d)::r)=some d:=nr rfl
@[simp] theorem gC0(d:D)(r:Ro):getC 0 (some (.sh d)::r)=some d:=nr rfl
@[simp] theorem gC0o(l:List D)(r:Ro):getC 0 (some (.ow l)::r)=some (.lst l):=nr rfl
@[simp] theorem gO0(l:List D)(r:Ro):getO 0 (some (.ow l)::r)=some l:=nr rfl
@[simp] theorem gVs(n:Nat)(b:Option B)(r:Ro):getV (n+1) (b::r)=getV n r:=by simp[getV]
@[simp] theorem gCs(n:Nat)(b:Option B)(r:Ro):getC (n+1) (b::r)=getC n r:=by simp[getC]
@[simp] theorem gOs(n:Nat)(b:Option B)(r:Ro):getO (n+1) (b::r)=getO n r:=by simp[getO]
@[simp] theorem frz0o(l:List D)(r:Ro):frz1 0 (some (.ow l)::r)=some (.sh (.lst l))::r:=nr rfl
@[simp] theorem frz0s(d:D)(r:Ro):frz1 0 (some (.sh d)::r)=some (.sh d)::r:=nr rfl
@[simp] theorem frz_s(n:Nat)(b:Option B)(r:Ro):frz1 (n+1) (b::r)=b::frz1 n r:=by
 unfold frz1
 rw[List.getElem?_cons_succ]
 cases h:r[n]? with
 | none=>rfl
 | some o=>
   cases o with
   | none=>rfl
   | some b=>cases b<;>rfl
theorem y3n{l:List D}{d:D}(h:l.length < 1000000):appD l d=some (l++[d]):=if_pos h
theorem Yfi{fe:Ro→Option D}{r:Ro}{α:Type}{enc:α→D}(f:α→D){l:List α}(h:∀a∈l,fe (some (.sh (enc a))::r)=some (f a)):Yh4 (gSet 0) tY fe (none::r) (l.map enc)=some (l.map f):=by
 have:=Ykx (gt:=gSet 0) (fc:=tY) (fe:=fe) (ρ:=none::r) enc (fun _=>true) f l fun a ha=>⟨_,rfl,rfl,fun _=>h a ha⟩
 rw[List.filter_eq_self.mpr (fun _ _=>rfl)]at this
 exact this
theorem Ytk{fc:Ro→Option Bool}{fe:Ro→Option D}{r:Ro}{α:Type}{enc:α→D}(p:α→Bool)(f:α→D){l:List α}(h1:∀a∈l,fc (some (.sh (enc a))::r)=some (p a))(h2:∀a∈l,p a=true→fe (some (.sh (enc a))::r)=some (f a)) :
 Yh4 (gSet 0) fc fe (none::r) (l.map enc)=some ((l.filter p).map f):=
 Ykx (gt:=gSet 0) enc p f l fun a ha=>⟨_,rfl,h1 a ha,h2 a ha⟩
theorem Yxi{α:Type}(enc:α→D)(d:α)(l:List α):Ynb (l.map enc)=(List.range l.length).map fun i=>.tup [.int i,enc (l.getD i d)]:=by
 unfold Ynb
 rw[qe]
 refine List.map_congr_left fun i hi=>?_
 have h:=Qa hi
 simp[h]
end M
namespace Bk
open PySem L2 M
noncomputable abbrev Say:=Nat × Bool
inductive Kd where
 | e | s | i | n
 deriving DecidableEq
inductive Rl where
 | ei (l:List Say)
 | su (b:List Nat) (o:Bool)
 | im (b:List Nat) (h:Option Nat)
 deriving DecidableEq
noncomputable def kS:Kd→Str
 | .e=>Str.ofString "eithers"
 | .s=>Str.ofString "sums"
 | .i=>Str.ofString "ifs"
 | .n=>Str.ofString "nots"
noncomputable def kdD(k:Kd):D:=.str (kS k)
noncomputable abbrev nD(n:Nat):D:=.int n
noncomputable def sayD(s:Say):D:=.tup [.int s.1,.bl s.2]
noncomputable def optD:Option Nat→D
 | none=>.non
 | some n=>.int n
noncomputable def rlD:Rl→D
 | .ei l=>.tup (l.map sayD)
 | .su b o=>.tup [.tup (b.map nD),.bl o]
 | .im b h=>.tup [.tup (b.map nD),optD h]
noncomputable def Yb3(k:Kd)(R:List Rl):D:=.tup [kdD k,.tup (R.map rlD)]
@[simp] theorem y6u(k:Kd):dep (kdD k)=0:=by simp[kdD]
@[simp] theorem dep_say(s:Say):dep (sayD s)=1:=by simp[sayD]
theorem y6v:∀{k j:Kd},kS k=kS j→k=j:=by
 intro k j
 cases k<;>cases j<;>first | (intro _;rfl) | (intro h;exact absurd h (by decide +kernel))
@[simp] theorem y6w(k j:Kd):eqD (kdD k) (kdD j)=decide (k=j):=by
 rw[kdD,kdD,y3j]
 by_cases h:k=j
 ·simp[h]
 ·have h':¬kS k=kS j:=fun e=>h (y6v e)
  simp[h,h']
theorem Yxj(neg:Bool)(k j:Kd):eqM neg (kdD k) (kdD j)=some (if neg then !decide (k=j)else decide (k=j)):=by
 rw[Yga (by simp) (by simp),y6w]
@[simp] theorem eqM_e(neg:Bool)(k:Kd):eqM neg (kdD k) (.str (Str.ofString "eithers"))=some (if neg then !decide (k=.e)else decide (k=.e)):=Yxj neg k .e
@[simp] theorem eqM_s(neg:Bool)(k:Kd):eqM neg (kdD k) (.str (Str.ofString "sums"))=some (if neg then !decide (k=.s)else decide (k=.s)):=Yxj neg k .s
@[simp] theorem eqM_i(neg:Bool)(k:Kd):eqM neg (kdD k) (.str (Str.ofString "ifs"))=some (if neg then !decide (k=.i)else decide (k=.i)):=Yxj neg k .i
theorem Yxk{α:Type} [DecidableEq α] {enc:α→D} (he:∀a b,eqD (enc a) (enc b)=decide (a=b)) (s:α):∀l:List α,inD (enc s) (l.map enc)=decide (s∈l)
 | []=>by simp[inD]
 | t::l=>by
   have ih:=Yxk he s l
   unfold inD at ih ⊢
   rw[Qc,List.any_cons,ih,he]
   by_cases h1:t=s
   ·simp[h1]
   ·have h1':¬s=t:=fun e=>h1 e.symm
    simp[h1,h1']
theorem Yxl{n:Nat}:∀{l:List D},(∀d∈l,dep d≤n)→depL l≤n
 | [],_=>by simp
 | d::l,h=>by
   rw[Yxh]
   exact Nat.max_le.mpr ⟨h d qg,Yxl fun e he=>h e (qf _ he)⟩
theorem Yxm{α:Type} [DecidableEq α] {enc:α→D} (he:∀a b,eqD (enc a) (enc b)=decide (a=b)):∀l m:List α,eqL (l.map enc) (m.map enc)=decide (l=m)
 | [],[]=>by simp
 | [],b::m=>by simp
 | a::l,[]=>by simp
 | a::l,b::m=>by
   rw[Qc,Qc,Yti,he,Yxm he l m]
   by_cases h1:a=b<;>by_cases h2:l=m<;>simp[h1,h2]
theorem Ynp{α:Type}{enc:α→D}{n:Nat}(h:∀a,dep (enc a)≤n)(l:List α):depL (l.map enc)≤n:=Yxl fun d hd=>by
 obtain⟨x,_,rfl⟩:=qw hd
 exact h x
theorem y3o(a b:Bool):eqD (.bl a) (.bl b)=decide (a=b):=by
 rw[y07]
 cases a<;>cases b<;>rfl
@[simp] theorem ix_say0(s:Say):(Yn (sayD s)).bind (fun l=>atI l 0)=some (.int s.1):=by simp[sayD]
@[simp] theorem ix_say1(s:Say):(Yn (sayD s)).bind (fun l=>atI l 1)=some (.bl s.2):=by simp[sayD]
@[simp] theorem items_ei(l:List Say):Yn (rlD (.ei l))=some (l.map sayD):=nr rfl
@[simp] theorem items_su(b:List Nat)(o:Bool):Yn (rlD (.su b o))=some [.tup (b.map nD),.bl o]:=nr rfl
@[simp] theorem items_im(b:List Nat)(h:Option Nat):Yn (rlD (.im b h))=some [.tup (b.map nD),optD h]:=nr rfl
noncomputable def at'(ev:List Bool)(n:Nat):Bool:=ev.getD n false
theorem Yrs{ev:List Bool}{n:Nat}(h:n < ev.length):atI (ev.map D.bl) (n:Int)=some (.bl (at' ev n)):=by
 rw[Yfh,Yd8 h]
 simp[at',h]
noncomputable def In(k:Kd)(n:Nat):Rl→Prop
 | .ei l=>k=.e∧∀s∈l,s.1 < n
 | .su b _=>k=.s∧∀x∈b,x < n
 | .im b h=>(k=.i∨k=.n)∧(∀x∈b,x < n)∧∀x,h=some x→x < n
def slt(s t:Say):Prop:=s.1 < t.1∨(s.1=t.1∧s.2=false∧t.2=true)
noncomputable def Srt:Rl→Prop
 | .ei l=>l.length≤2∧l.Pairwise slt
 | .su b _=>b.Pairwise (· < ·)
 | .im b _=>b.Pairwise (· < ·)
noncomputable def hd(ev:List Bool)(w:Bool):Option Nat→Bool
 | none=>false
 | some x=>at' ev x==w
noncomputable def nth(R:List Rl)(i:Nat):Rl:=R.getD i (.ei [])
noncomputable def so(k:Kd)(ev:List Bool):Rl→Bool
 | .ei l=>l.any fun s=>at' ev s.1==s.2
 | .su b o=>decide ((b.filter (at' ev)).length % 2=1)==o
 | .im b h=>(b.any fun x=>at' ev x != decide (k=.i))||hd ev (decide (k=.i)) h
end Bk
namespace Bk
noncomputable def brk(k:Kd)(ev:List Bool)(R:List Rl):List Nat:=(List.range R.length).filter fun i=>!so k ev (nth R i)
end Bk
namespace Bk
open PySem L2 M
mutual
noncomputable def Pl:D→Prop
 | .tup l=>l.length≤1000000∧PlL l
 | .lst _=>False
 | .scr _=>False
 | .dct _ _ _=>False
 | _=>True
noncomputable def PlL:List D→Prop
 | []=>True
 | d::l=>Pl d∧PlL l
end
theorem PlL_iff:∀{l:List D},PlL l↔∀d∈l,Pl d
 | []=>by simp[PlL]
 | d::l=>by simp[PlL,PlL_iff (l:=l)]
noncomputable def sz:Rl→Nat
 | .ei l=>l.length
 | .su b _=>b.length
 | .im b _=>b.length
end Bk
namespace Bk
end Bk
namespace Bk
open PySem L2 M
mutual
theorem Ytl:∀d:D,Pl d→eqD d d=true
 | .non,_=>by simp[eqD,toPy,PyData.eqv]
 | .bl b,_=>by simp
 | .int i,_=>by simp
 | .str x,_=>by simp
 | .tup l,h=>by
   rw[Pl]at h
   rw[Yxg]
   exact Ynq l h.2
 | .lst l,h=>by rw[Pl]at h;exact h.elim
 | .scr l,h=>by rw[Pl]at h;exact h.elim
 | .dct _ _ _,h=>by rw[Pl]at h;exact h.elim
theorem Ynq:∀l:List D,PlL l→eqL l l=true
 | [],_=>by simp
 | d::l,h=>by
   rw[PlL]at h
   rw[Yti,Ytl d h.1,Ynq l h.2]
   rfl
end
theorem Yzv{d:D}(h:Pl d)(hd:dep d≤60)(neg:Bool):eqM neg d d=some (!neg):=by
 rw[Yga hd hd,Ytl d h]
 cases neg<;>rfl
end Bk
namespace M
open PySem PySem.Spec PyProof.Rows L2
section
variable {K:W.Frag}
noncomputable def Yzw:List D→Option D
 | [.bl k]=>some (.bl k)
 | _=>none
theorem Yzx:SemC K (fun xs H Q=>(∃i,xs=[.int i]∧Q (.bl (i != 0)) H)∨∃k,xs=[.bl k]∧Q (.bl k) H) Yzw:=by
 intro vs ds d H G Q h s r q
 unfold Yzw at h
 split at h
 ·cases h
  obtain⟨v,rfl,rv⟩:=Yc5 r
  rw[Ct]at rv
  cases rv
  exact .inr ⟨_,rfl,q _ _ _ (.refl s) (by rw[Rp])⟩
 ·cases h
@[simp] theorem boolC_bl(b:Bool):Yzw [.bl b]=some (.bl b):=rfl
end
section
section
variable {X:Cx} {e:Expr} {f:Ro→Option D} {p p2 pos pos2:Pos}
theorem Ynr(hc:X.calm=true)(hu:X.A.units+64 < cLine)(hg:Gl X "sorted")(hm:X.mg "sorted"=none)(hg2:Gl X "set")(hm2:X.mg "set"=none)(ha:ZC X e f)(hs:starEach [e] X.env=[(false,eval e X.env)]:=by rfl)(he:starEach [.Call (.Name "set" p2) [e] [] pos2] X.env=[(false,eval (.Call (.Name "set" p2) [e] [] pos2) X.env)]:=by rfl)(hpl:(backTo pos2 (starEach [] X.env)).any (·.1)=false:=by rfl)(hpl2:(backTo pos (starEach [] X.env)).any (·.1)=false:=by rfl):ZF X (.Call (.Name "sorted" p) [.Call (.Name "set" p2) [e] [] pos2] [] pos) (Yfg f):=⟨Ypp hc hu hg hm hg2 hm2 ha.un hs he hpl hpl2⟩
end
end
end M
noncomputable section
namespace Lw
open PySem PySem.Spec PyProof.Rows L2 M
def top(i:Nat):Stmt:=PySem.Challenge.pw_duskbook_k51_table_or_blend.main.body.getD i (.Pass ⟨0,0,0,0⟩)
def gt_BLENDED_COUNTS:List (Str × Int):=[((Str.ofString "eithers"),3),((Str.ofString "sums"),3),((Str.ofString "ifs"),2),((Str.ofString "nots"),2)]
def Yjx:List Str:=[(Str.ofString "eithers"),(Str.ofString "sums"),(Str.ofString "ifs"),(Str.ofString "nots")]
structure Bl(K:W.Frag)(w:World)(mg:Str→Option Value):Prop where
 Len:mg "len"=none
 Range:mg "range"=none
 List:mg "list"=none
 Tuple:mg "tuple"=none
 Int:mg "int"=none
 Bool:mg "bool"=none
 Str:mg "str"=none
 Sorted:mg "sorted"=none
 Any:mg "any"=none
 All:mg "all"=none
 Sum:mg "sum"=none
 Isinstance:mg "isinstance"=none
 Enumerate:mg "enumerate"=none
 Set:mg "set"=none
 g_BEACON_COUNT:GI mg "BEACON_COUNT" 60
 g_BLENDED_COUNTS:GDI K w mg "BLENDED_COUNTS" gt_BLENDED_COUNTS
 g_KINDS:GT K mg "KINDS" Yjx
 g_MOST_LENGTH:GI mg "MOST_LENGTH" 4
 g_MOST_RULES:GI mg "MOST_RULES" 60
 g_MOST_SAYINGS:GI mg "MOST_SAYINGS" 2
section
variable {P:Program} {w:World} {K:W.Frag} {mg:Str→Option Value} {base:Heap}
abbrev Yc7:Stmt:=top 1
theorem Yjd:FnScope ["kind","lit_count"] ["kind","lit_count"] (defScope Yc7):=⟨rfl,rfl,rfl,by decide +kernel,rfl,by decide +kernel,by decide +kernel⟩
@[simp] def Yie:Ro→Option Out:=(sRet (mB (b2 (getC 1) (kD (.int 1)) geI)))
@[simp] def Yif:Ro→Option Out:=(sSeq (sIf (b2 (getC 0) (kD (.str "ifs")) (eqM false)) (sRet (mB (b2 (getC 1) (kD (.int 2)) (eqM false)))) sNil) Yie)
@[simp] def Yig:Ro→Option Out:=(sSeq (sIf (b2 (getC 0) (kD (.str "sums")) (eqM false)) (sRet (mB (b2 (b2 (getC 1) (kD (.int 2)) modI) (kD (.int 1)) (eqM false)))) sNil) Yif)
def Yfj:Ro→Option Out:=(sSeq (sIf (b2 (getC 0) (kD (.str "eithers")) (eqM false)) (sRet (mB (b2 (getC 1) (kD (.int 2)) geI))) sNil) Yig)
def Ybj:List D→Option D:=runB 2 2 Yfj
theorem Yje(bl:Bl K w mg)  {a:Addr} {fd:FuncData} (F:Fun K "blended_light" "blended_light" Yc7 a fd) (hm:mg "blended_light"=some (.ref a)):Okf P w K mg base 1 2 "blended_light" ["kind","lit_count"] Ybj:=by
 refine Yal F (F.binds fun _ _ _ _ _ _ us hl=>by obtain⟨_,_,rfl⟩:=len2 hl;rfl) hm (Ys (k:=0) F Yjd rfl rfl fun cdv A outer s H E hr=>?_)
 exact(Yi (Yaf (Ycx hr.units (Yb 0) (Yc Yau)) (Yj (Yq (y02 (Yb 1) (Yc Yl)))) Yz) (Yi (Yaf (Ycx hr.units (Yb 0) (Yc Yau)) (Yj (Yq (Ybg hr.units (Yc (Ybf (Yb 1) (Yc Yl))) (Yc Yl)))) Yz) (Yi (Yaf (Ycx hr.units (Yb 0) (Yc Yau)) (Yj (Yq (Ybg hr.units (Yb 1) (Yc Yl)))) Yz) (Yj (Yq (y02 (Yb 1) (Yc Yl)))))))
abbrev Yb9:Stmt:=top 2
theorem Yky:FnScope ["evenings","beacon"] ["evenings","beacon"] (defScope Yb9):=⟨rfl,rfl,rfl,by decide +kernel,rfl,by decide +kernel,by decide +kernel⟩
theorem cs_lit_count_at_0:CompSc ["evenings","beacon"] (defScope Yb9) ["evening","beacon"] [none,some 1] (fsc [(".0",.local),("evening",.local),("beacon",.free)]):=Yy (by decide +kernel)
def Yck:Ro→Option Bool:=(b1 (b2 (getC 0) (getC 1) ixD) truD)
def Ycl:Ro→Option D:=(getV 0)
def Ygb:Ro→Option Out:=(sRet (cC (Yg (lF (Yas (b1 (getV 0) Yn) [none,some 1] (gSet 0) (Yck) (Ycl))) aNil) lenC))
def Ybs:List D→Option D:=runB 2 2 Ygb
theorem Ykz(bl:Bl K w mg)  {a:Addr} {fd:FuncData} (F:Fun K "lit_count_at" "lit_count_at" Yb9 a fd) (hm:mg "lit_count_at"=some (.ref a)):Okf P w K mg base 1 2 "lit_count_at" ["evenings","beacon"] Ybs:=by
 refine Yal F (F.binds fun _ _ _ _ _ _ us hl=>by obtain⟨_,_,rfl⟩:=len2 hl;rfl) hm (Ys (k:=0) F Yky rfl rfl fun cdv A outer s H E hr=>?_)
 exact(Yj (Yq (Yw Yu Yan rfl bl.Len PySem.boot_len (Ym (Yc (Yaj (Yah cs_lit_count_at_0 rfl (Yad (Yh 0)) (fun _ _ _ _ _=>(Yx 0 cs_lit_count_at_0.nd)) (fun _ _ _ _ _=>(Yhh (Yap (Yc (Yp (Yb 0) (Yb 1)))))) (fun _ _ _ _ _=>(Yh 0)) (Yag (i:=0) rfl)))) Yr))))
abbrev Yet:Stmt:=top 3
theorem sc_blended:FnScope ["kind","evenings","lit_counts"] ["kind","evenings"] (defScope Yet):=⟨rfl,rfl,rfl,by decide +kernel,rfl,by decide +kernel,by decide +kernel⟩
theorem cs_blended_0:CompSc ["kind","evenings","lit_counts"] (defScope Yet) ["beacon","evenings"] [none,some 1] (fsc [(".0",.local),("beacon",.local),("lit_count_at",.globalImplicit),("evenings",.free)]):=Yy (by decide +kernel)
theorem cs_blended_1:CompSc ["kind","evenings","lit_counts"] (defScope Yet) ["lit_count","kind"] [none,some 0] (fsc [(".0",.local),("lit_count",.local),("blended_light",.globalImplicit),("kind",.free)]):=Yy (by decide +kernel)
def Yfk:Ro→Option D:=(cC (Yg (getV 1) (Yg (getV 0) aNil)) Ybs)
def Yfl:Ro→Option D:=(cC (Yg (getV 1) (Yg (getV 0) aNil)) Ybj)
def Ypu:Ro→Option Out:=(sSeq (sOwn 2 (Yas (cF (Yg (cC (Yg (b2 (getC 1) (kD (.int 0)) ixD) aNil) lenC) aNil) rng1) [none,some 1] (gSet 0) tY (Yfk))) (wF [2] (sRet (cC (Yg (lF (Yas (b1 (getV 2) Yn) [none,some 0] (gSet 0) tY (Yfl))) aNil) tupC))))
def Yeu:List D→Option D:=runB 2 3 Ypu
theorem Yuk(bl:Bl K w mg)(zl:Okf P w K mg base 1 2 "lit_count_at" ["evenings","beacon"] Ybs)(xm:Okf P w K mg base 1 2 "blended_light" ["kind","lit_count"] Ybj){a:Addr}{fd:FuncData}(F:Fun K "blended" "blended" Yet a fd)(hm:mg "blended"=some (.ref a)):Okf P w K mg base 2 2 "blended" ["kind","evenings"] Yeu:=by
 refine Yal F (F.binds fun _ _ _ _ _ _ us hl=>by obtain⟨_,_,rfl⟩:=len2 hl;rfl) hm (Ys (k:=1) F sc_blended rfl rfl fun cdv A outer s H E hr=>?_)
 exact(Yi (Yd6 2 sc_blended.nd cs_blended_0 rfl (Ya6 rfl bl.Range (Yd (Yw Yu Yan rfl bl.Len PySem.boot_len (Ym (Yc (Yp (Yb 1) (Yc Yl))) Yr)) Yk)) (fun _ _ _ _ _=>(Yx 0 cs_blended_0.nd)) (fun _ _ _ _ _=>Yam) (fun _ _ _ _ _=>(Yo zl hr rfl (Yd (Yh 1) (Yd (Yh 0) Yk)) (Ye (Ye (fun _ _ h=>Yt h))))) (Yag (i:=0) rfl)) (Yj (Ya5 [2] (Yq (Yat Yaq Yeh rfl bl.Tuple boot_tuple (Ym (Yc (Yaj (Yah cs_blended_1 rfl (Yad (Yh 2)) (fun _ _ _ _ _=>(Yx 0 cs_blended_1.nd)) (fun _ _ _ _ _=>Yam) (fun _ _ _ _ _=>(Yo xm hr rfl (Yd (Yh 1) (Yd (Yh 0) Yk)) (Ye (Ye (fun _ _ h=>Yt h))))) (Yag (i:=0) rfl)))) Yr))))))
abbrev Yfm:Stmt:=top 13
theorem Ypv:FnScope ["thing"] ["thing"] (defScope Yfm):=⟨rfl,rfl,rfl,by decide +kernel,rfl,by decide +kernel,by decide +kernel⟩
def Yrt:Ro→Option Out:=(sRet (andV (mB (b1 (getC 0) (isiD "int"))) (andV (notV (mB (b1 (getC 0) (isiD "bool")))) (mB (ch3 (kD (.int 0)) (getC 0) (kD (.int 60)) leI ltI)))))
def Ygn:List D→Option D:=runB 1 1 Yrt
theorem Ypw(bl:Bl K w mg)  {a:Addr} {fd:FuncData} (F:Fun K "is_beacon" "is_beacon" Yfm a fd) (hm:mg "is_beacon"=some (.ref a)):Okf P w K mg base 1 1 "is_beacon" ["thing"] Ygn:=by
 refine Yal F (F.binds fun _ _ _ _ _ _ us hl=>by obtain⟨_,rfl⟩:=len1 hl;rfl) hm (Ys (k:=0) F Ypv rfl rfl fun cdv A outer s H E hr=>?_)
 exact(Yj (Yq (Ybq (Yav (Yb 0) rfl rfl bl.Isinstance bl.Int boot_int (Ym7)) (Ybq (Ynl (Yav (Yb 0) rfl rfl bl.Isinstance bl.Bool boot_bool (Yd5))) (Ycp (Ypr Yyg Ydo y1l Ydo (Yc Yl) (Yb 0) (Yc (Yjt bl.g_BEACON_COUNT rfl))))))))
abbrev Ycm:Stmt:=top 14
theorem Yih:FnScope ["thing"] ["thing"] (defScope Ycm):=⟨rfl,rfl,rfl,by decide +kernel,rfl,by decide +kernel,by decide +kernel⟩
def Yjf:Ro→Option Out:=(sSeq (sIf (notT (b1 (cC (Yg (getV 0) aNil) Ygn) truD)) nS sNil) (sRet (getV 0)))
def Yaw:List D→Option D:=runB 1 1 Yjf
theorem Yii(bl:Bl K w mg)(ub6:Okf P w K mg base 1 1 "is_beacon" ["thing"] Ygn){a:Addr}{fd:FuncData}(F:Fun K "checked_beacon" "checked_beacon" Ycm a fd)(hm:mg "checked_beacon"=some (.ref a)):Okf P w K mg base 2 1 "checked_beacon" ["thing"] Yaw:=by
 refine Yal F (F.binds fun _ _ _ _ _ _ us hl=>by obtain⟨_,rfl⟩:=len1 hl;rfl) hm (Ys (k:=1) F Yih rfl rfl fun cdv A outer s H E hr=>?_)
 exact(Yi (Yaf (Ybh (Yap (Yc (Yo ub6 hr rfl (Yd (Yh 0) Yk) (Ye (fun _ _ h=>Yt h)))))) (Yj Yb8) Yz) (Yj (Yq (Yh 0))))
abbrev Yc8:Stmt:=top 15
theorem Yjg:FnScope ["thing"] ["thing"] (defScope Yc8):=⟨rfl,rfl,rfl,by decide +kernel,rfl,by decide +kernel,by decide +kernel⟩
def Yk0:Ro→Option Out:=(sSeq (sIf (orT (b2 (getC 0) (kD (.bl true)) (isB false)) (b2 (getC 0) (kD (.bl false)) (isB false))) (sRet (getV 0)) sNil) nS)
def Ybk:List D→Option D:=runB 1 1 Yk0
theorem Yjh(bl:Bl K w mg)  {a:Addr} {fd:FuncData} (F:Fun K "checked_truth" "checked_truth" Yc8 a fd) (hm:mg "checked_truth"=some (.ref a)):Okf P w K mg base 1 1 "checked_truth" ["thing"] Ybk:=by
 refine Yal F (F.binds fun _ _ _ _ _ _ us hl=>by obtain⟨_,rfl⟩:=len1 hl;rfl) hm (Ys (k:=0) F Yjg rfl rfl fun cdv A outer s H E hr=>?_)
 exact(Yi (Yaf (Ydr (Ydq (Yxb (Yb 0) (Yc Ya4)) (Yc6 (Yxb (Yb 0) (Yc Ya4))))) (Yj (Yq (Yh 0))) Yz) (Yj Yb8))
abbrev Ybe:Stmt:=top 16
theorem sc_checked_beacons:FnScope ["beacons","checked"] ["beacons"] (defScope Ybe):=⟨rfl,rfl,rfl,by decide +kernel,rfl,by decide +kernel,by decide +kernel⟩
theorem cs_checked_beacons_0:CompSc ["beacons","checked"] (defScope Ybe) ["beacon"] [none] (fsc [(".0",.local),("beacon",.local),("checked_beacon",.globalImplicit)]):=Yy (by decide +kernel)
def Yf7:Ro→Option D:=(cC (Yg (getV 0) aNil) Yaw)
@[simp] def Ygo:Ro→Option Out:=(sRet (cC (Yg (lF (cF (Yg (getC 1) aNil) Yy4)) aNil) tupC))
@[simp] def Ygp:Ro→Option Out:=(sSeq (sIf (b2 (cC (Yg (getC 1) aNil) Yko) (cC (Yg (getC 1) aNil) lenC) ltI) nS sNil) Ygo)
def Yij:Ro→Option Out:=(sSeq (sOwn 1 (Yas (b1 (getV 0) Yn) [none] (gSet 0) tY (Yf7))) Ygp)
def Ya7:List D→Option D:=runB 1 2 Yij
theorem Yhi(bl:Bl K w mg)(ua:Okf P w K mg base 2 1 "checked_beacon" ["thing"] Yaw){a:Addr}{fd:FuncData}(F:Fun K "checked_beacons" "checked_beacons" Ybe a fd)(hm:mg "checked_beacons"=some (.ref a)):Okf P w K mg base 3 1 "checked_beacons" ["beacons"] Ya7:=by
 refine Yal F (F.binds fun _ _ _ _ _ _ us hl=>by obtain⟨_,rfl⟩:=len1 hl;rfl) hm (Ys (k:=2) F sc_checked_beacons rfl rfl fun cdv A outer s H E hr=>?_)
 exact(Yi (Yd6 1 sc_checked_beacons.nd cs_checked_beacons_0 rfl (Yad (Yh 0)) (fun _ _ _ _ _=>(Yx 0 cs_checked_beacons_0.nd)) (fun _ _ _ _ _=>Yam) (fun _ _ _ _ _=>(Yo ua hr rfl (Yd (Yh 0) Yk) (Ye (fun _ _ h=>Yt h)))) (Yag (i:=0) rfl)) (Yi (Yaf (Yte (Yc (Yms rfl hr.units bl.Len bl.Set rfl rfl (Ym (Yb 1) Yr))) (Yc (Yw Yu Yan rfl bl.Len PySem.boot_len (Ym (Yb 1) Yr)))) (Yj Yb8) Yz) (Yj (Yq (Yat Yaq Yeh rfl bl.Tuple boot_tuple (Ym (Yc (Yaj (Ypq Yi1 Ykf rfl bl.Sorted boot_sorted (Ym (Yb 1) Yr)))) Yr))))))
abbrev Ycq:Stmt:=top 17
theorem sc_either_made:FnScope ["sayings","checked"] ["sayings"] (defScope Ycq):=⟨rfl,rfl,rfl,by decide +kernel,rfl,by decide +kernel,by decide +kernel⟩
theorem cs_either_made_0:CompSc ["sayings","checked"] (defScope Ycq) ["saying"] [none] (fsc [(".0",.local),("saying",.local),("checked_beacon",.globalImplicit),("checked_truth",.globalImplicit)]):=Yy (by decide +kernel)
def Yji:Ro→Option D:=(dTup (Yg (cC (Yg (b2 (getC 0) (kD (.int 0)) ixD) aNil) Yaw) (Yg (cC (Yg (b2 (getC 0) (kD (.int 1)) ixD) aNil) Ybk) aNil)))
@[simp] def Yk1:Ro→Option Out:=(sRet (cC (Yg (lF (cF (Yg (getC 1) aNil) Yy4)) aNil) tupC))
@[simp] def Yk2:Ro→Option Out:=(sSeq (sIf (b2 (cC (Yg (getC 1) aNil) Yko) (cC (Yg (getC 1) aNil) lenC) ltI) nS sNil) Yk1)
@[simp] def Yk3:Ro→Option Out:=(sSeq (sOwn 1 (Yas (b1 (getV 0) Yn) [none] (gSet 0) tY (Yji))) Yk2)
def Yns:Ro→Option Out:=(sSeq (sIf (b2 (cC (Yg (getC 0) aNil) lenC) (kD (.int 2)) gtI) nS sNil) Yk3)
def Ye4:List D→Option D:=runB 1 2 Yns
theorem Ylr(bl:Bl K w mg)(uf:Okf P w K mg base 1 1 "checked_truth" ["thing"] Ybk)(ua:Okf P w K mg base 2 1 "checked_beacon" ["thing"] Yaw){a:Addr}{fd:FuncData}(F:Fun K "either_made" "either_made" Ycq a fd)(hm:mg "either_made"=some (.ref a)):Okf P w K mg base 3 1 "either_made" ["sayings"] Ye4:=by
 refine Yal F (F.binds fun _ _ _ _ _ _ us hl=>by obtain⟨_,rfl⟩:=len1 hl;rfl) hm (Ys (k:=2) F sc_either_made rfl rfl fun cdv A outer s H E hr=>?_)
 exact(Yi (Yaf (Ymp (Yc (Yw Yu Yan rfl bl.Len PySem.boot_len (Ym (Yb 0) Yr))) (Yc (Yjt bl.g_MOST_SAYINGS rfl))) (Yj Yb8) Yz) (Yi (Yd6 1 sc_either_made.nd cs_either_made_0 rfl (Yad (Yh 0)) (fun _ _ _ _ _=>(Yx 0 cs_either_made_0.nd)) (fun _ _ _ _ _=>Yam) (fun _ _ _ _ _=>(Yb1 (Yd (Yo ua hr rfl (Yd (Yp (Yb 0) (Yc Yl)) Yk) (Ye (fun _ _ h=>Yt h))) (Yd (Yo uf hr rfl (Yd (Yp (Yb 0) (Yc Yl)) Yk) (Ye (fun _ _ h=>Yt h))) Yk)))) (Yag (i:=0) rfl)) (Yi (Yaf (Yte (Yc (Yms rfl hr.units bl.Len bl.Set rfl rfl (Ym (Yb 1) Yr))) (Yc (Yw Yu Yan rfl bl.Len PySem.boot_len (Ym (Yb 1) Yr)))) (Yj Yb8) Yz) (Yj (Yq (Yat Yaq Yeh rfl bl.Tuple boot_tuple (Ym (Yc (Yaj (Ypq Yi1 Ykf rfl bl.Sorted boot_sorted (Ym (Yb 1) Yr)))) Yr)))))))
abbrev Ygq:Stmt:=top 18
theorem Yru:FnScope ["rule"] ["rule"] (defScope Ygq):=⟨rfl,rfl,rfl,by decide +kernel,rfl,by decide +kernel,by decide +kernel⟩
def Yul:Ro→Option Out:=(sRet (dTup (Yg (cC (Yg (b2 (getC 0) (kD (.int 0)) ixD) aNil) Ya7) (Yg (cC (Yg (b2 (getC 0) (kD (.int 1)) ixD) aNil) Ybk) aNil))))
def Yik:List D→Option D:=runB 1 1 Yul
theorem Yrv(bl:Bl K w mg)(uf:Okf P w K mg base 1 1 "checked_truth" ["thing"] Ybk)(ud:Okf P w K mg base 3 1 "checked_beacons" ["beacons"] Ya7){a:Addr}{fd:FuncData}(F:Fun K "sum_made" "sum_made" Ygq a fd)(hm:mg "sum_made"=some (.ref a)):Okf P w K mg base 4 1 "sum_made" ["rule"] Yik:=by
 refine Yal F (F.binds fun _ _ _ _ _ _ us hl=>by obtain⟨_,rfl⟩:=len1 hl;rfl) hm (Ys (k:=3) F Yru rfl rfl fun cdv A outer s H E hr=>?_)
 exact(Yj (Yq (Yb1 (Yd (Yo ud hr rfl (Yd (Yp (Yb 0) (Yc Yl)) Yk) (Ye (fun _ _ h=>Yt h))) (Yd (Yo uf hr rfl (Yd (Yp (Yb 0) (Yc Yl)) Yk) (Ye (fun _ _ h=>Yt h))) Yk)))))
abbrev Yil:Stmt:=top 19
theorem sc_if_made:FnScope ["rule","head"] ["rule"] (defScope Yil):=⟨rfl,rfl,rfl,by decide +kernel,rfl,by decide +kernel,by decide +kernel⟩
@[simp] def Yrw:Ro→Option Out:=(sRet (dTup (Yg (cC (Yg (b2 (getC 0) (kD (.int 0)) ixD) aNil) Ya7) (Yg (getV 1) aNil))))
@[simp] def Yrx:Ro→Option Out:=(sSeq (sIf (b2 (getC 1) (kD .non) (isN true)) (sSet 1 (cC (Yg (getV 1) aNil) Yaw)) sNil) Yrw)
def Yxn:Ro→Option Out:=(sSeq (sSet 1 (b2 (getC 0) (kD (.int 1)) ixD)) Yrx)
def Yk4:List D→Option D:=runB 1 2 Yxn
theorem Yum(bl:Bl K w mg)(ua:Okf P w K mg base 2 1 "checked_beacon" ["thing"] Yaw)(ud:Okf P w K mg base 3 1 "checked_beacons" ["beacons"] Ya7){a:Addr}{fd:FuncData}(F:Fun K "if_made" "if_made" Yil a fd)(hm:mg "if_made"=some (.ref a)):Okf P w K mg base 4 1 "if_made" ["rule"] Yk4:=by
 refine Yal F (F.binds fun _ _ _ _ _ _ us hl=>by obtain⟨_,rfl⟩:=len1 hl;rfl) hm (Ys (k:=3) F sc_if_made rfl rfl fun cdv A outer s H E hr=>?_)
 exact(Yi (Ybr 1 sc_if_made.nd (Yp (Yb 0) (Yc Yl))) (Yi (Yaf (Ytg (Yb 1) (Yc Ye3)) (Yj (Ybr 1 sc_if_made.nd (Yo ua hr rfl (Yd (Yh 1) Yk) (Ye (fun _ _ h=>Yt h))))) Yz) (Yj (Yq (Yb1 (Yd (Yo ud hr rfl (Yd (Yp (Yb 0) (Yc Yl)) Yk) (Ye (fun _ _ h=>Yt h))) (Yd (Yh 1) Yk)))))))
abbrev Yfn:Stmt:=top 20
theorem Ypx:FnScope ["kind","rule"] ["kind","rule"] (defScope Yfn):=⟨rfl,rfl,rfl,by decide +kernel,rfl,by decide +kernel,by decide +kernel⟩
@[simp] def Ynt:Ro→Option Out:=(sRet (cC (Yg (getV 1) aNil) Yk4))
@[simp] def Ynu:Ro→Option Out:=(sSeq (sIf (b2 (getC 0) (kD (.str "sums")) (eqM false)) (sRet (cC (Yg (getV 1) aNil) Yik)) sNil) Ynt)
def Yry:Ro→Option Out:=(sSeq (sIf (b2 (getC 0) (kD (.str "eithers")) (eqM false)) (sRet (cC (Yg (getV 1) aNil) Ye4)) sNil) Ynu)
def Ybl:List D→Option D:=runB 2 2 Yry
theorem Ypy(bl:Bl K w mg)(uap:Okf P w K mg base 3 1 "either_made" ["sayings"] Ye4)(udb:Okf P w K mg base 4 1 "sum_made" ["rule"] Yik)(uea:Okf P w K mg base 4 1 "if_made" ["rule"] Yk4){a:Addr}{fd:FuncData}(F:Fun K "rule_made" "rule_made" Yfn a fd)(hm:mg "rule_made"=some (.ref a)):Okf P w K mg base 5 2 "rule_made" ["kind","rule"] Ybl:=by
 refine Yal F (F.binds fun _ _ _ _ _ _ us hl=>by obtain⟨_,_,rfl⟩:=len2 hl;rfl) hm (Ys (k:=4) F Ypx rfl rfl fun cdv A outer s H E hr=>?_)
 exact(Yi (Yaf (Ycx hr.units (Yb 0) (Yc Yau)) (Yj (Yq (Yo uap hr rfl (Yd (Yh 1) Yk) (Ye (fun _ _ h=>Yt h))))) Yz) (Yi (Yaf (Ycx hr.units (Yb 0) (Yc Yau)) (Yj (Yq (Yo udb hr rfl (Yd (Yh 1) Yk) (Ye (fun _ _ h=>Yt h))))) Yz) (Yj (Yq (Yo uea hr rfl (Yd (Yh 1) Yk) (Ye (fun _ _ h=>Yt h)))))))
abbrev Yd9:Stmt:=top 21
theorem Ypz:FnScope ["kind","rules"] ["kind","rules"] (defScope Yd9):=⟨rfl,rfl,rfl,by decide +kernel,rfl,by decide +kernel,by decide +kernel⟩
theorem cs_book_made_0:CompSc ["kind","rules"] (defScope Yd9) ["rule","kind"] [none,some 0] (fsc [(".0",.local),("rule",.local),("rule_made",.globalImplicit),("kind",.free)]):=Yy (by decide +kernel)
def Yei:Ro→Option D:=(cC (Yg (getV 1) (Yg (getV 0) aNil)) Ybl)
@[simp] def Ynv:Ro→Option Out:=(sRet (dTup (Yg (getV 0) (Yg (cC (Yg (lF (Yas (b1 (getV 1) Yn) [none,some 0] (gSet 0) tY (Yei))) aNil) tupC) aNil))))
@[simp] def Ynw:Ro→Option Out:=(sSeq (sIf (b2 (cC (Yg (getC 1) aNil) lenC) (kD (.int 60)) gtI) nS sNil) Ynv)
def Yk5:Ro→Option Out:=(sSeq (sIf (orT (notT (b1 (mB (b1 (getC 0) (isiD "str"))) truD)) (b1 (getC 0) (inG true Yjx))) nS sNil) Ynw)
def Ydt:List D→Option D:=runB 2 2 Yk5
theorem Yp0(bl:Bl K w mg)(ub7:Okf P w K mg base 5 2 "rule_made" ["kind","rule"] Ybl){a:Addr}{fd:FuncData}(F:Fun K "book_made" "book_made" Yd9 a fd)(hm:mg "book_made"=some (.ref a)):Okf P w K mg base 6 2 "book_made" ["kind","rules"] Ydt:=by
 refine Yal F (F.binds fun _ _ _ _ _ _ us hl=>by obtain⟨_,_,rfl⟩:=len2 hl;rfl) hm (Ys (k:=5) F Ypz rfl rfl fun cdv A outer s H E hr=>?_)
 exact(Yi (Yaf (Ydr (Ydq (Ybh (Yap (Yc (Yav (Yb 0) rfl rfl bl.Isinstance bl.Str boot_str (Ym8))))) (Yc6 (Yzp hr.units bl.g_KINDS rfl (Yb 0))))) (Yj Yb8) Yz) (Yi (Yaf (Ymp (Yc (Yw Yu Yan rfl bl.Len PySem.boot_len (Ym (Yb 1) Yr))) (Yc (Yjt bl.g_MOST_RULES rfl))) (Yj Yb8) Yz) (Yj (Yq (Yb1 (Yd (Yh 0) (Yd (Yat Yaq Yeh rfl bl.Tuple boot_tuple (Ym (Yc (Yaj (Yah cs_book_made_0 rfl (Yad (Yh 1)) (fun _ _ _ _ _=>(Yx 0 cs_book_made_0.nd)) (fun _ _ _ _ _=>Yam) (fun _ _ _ _ _=>(Yo ub7 hr rfl (Yd (Yh 1) (Yd (Yh 0) Yk)) (Ye (Ye (fun _ _ h=>Yt h))))) (Yag (i:=0) rfl)))) Yr)) Yk)))))))
abbrev Yca:Stmt:=top 22
theorem Yk6:FnScope ["rule","evening"] ["rule","evening"] (defScope Yca):=⟨rfl,rfl,rfl,by decide +kernel,rfl,by decide +kernel,by decide +kernel⟩
theorem cs_either_holds_0:CompSc ["rule","evening"] (defScope Yca) ["saying","evening"] [none,some 1] (fsc [(".0",.local),("saying",.local),("evening",.free)]):=Yy (by decide +kernel)
def Yim:Ro→Option D:=(mB (b2 (b2 (getC 1) (b2 (getC 0) (kD (.int 0)) ixD) ixD) (b2 (getC 0) (kD (.int 1)) ixD) (eqM false)))
def Yls:Ro→Option Out:=(sRet (cC (Yg (lF (Yas (b1 (getV 0) Yn) [none,some 1] (gSet 0) tY (Yim))) aNil) anyC))
def Yej:List D→Option D:=runB 2 2 Yls
theorem Yk7(bl:Bl K w mg)  {a:Addr} {fd:FuncData} (F:Fun K "either_holds" "either_holds" Yca a fd) (hm:mg "either_holds"=some (.ref a)):Okf P w K mg base 1 2 "either_holds" ["rule","evening"] Yej:=by
 refine Yal F (F.binds fun _ _ _ _ _ _ us hl=>by obtain⟨_,_,rfl⟩:=len2 hl;rfl) hm (Ys (k:=0) F Yk6 rfl rfl fun cdv A outer s H E hr=>?_)
 exact(Yj (Yq (Yw (Yhb rfl) Yna rfl bl.Any boot_any (Ym (Yc (Yaj (Yah cs_either_holds_0 rfl (Yad (Yh 0)) (fun _ _ _ _ _=>(Yx 0 cs_either_holds_0.nd)) (fun _ _ _ _ _=>Yam) (fun _ _ _ _ _=>(Ybg hr.units (Yc (Yp (Yb 1) (Yc (Yp (Yb 0) (Yc Yl))))) (Yc (Yp (Yb 0) (Yc Yl))))) (Yag (i:=0) rfl)))) Yr))))
abbrev Yea:Stmt:=top 23
theorem sc_sum_holds:FnScope ["rule","evening","lit_ones"] ["rule","evening"] (defScope Yea):=⟨rfl,rfl,rfl,by decide +kernel,rfl,by decide +kernel,by decide +kernel⟩
theorem cs_sum_holds_0:CompSc ["rule","evening","lit_ones"] (defScope Yea) ["beacon","evening"] [none,some 1] (fsc [(".0",.local),("beacon",.local),("evening",.free)]):=Yy (by decide +kernel)
def Ylt:Ro→Option Bool:=(b1 (b2 (getC 1) (getC 0) ixD) truD)
def Ylu:Ro→Option D:=(getV 0)
def Yrz:Ro→Option Out:=(sSeq (sOwn 2 (Yas (b1 (b2 (getC 0) (kD (.int 0)) ixD) Yn) [none,some 1] (gSet 0) (Ylt) (Ylu))) (sRet (mB (b2 (mB (b2 (b2 (cC (Yg (getC 2) aNil) lenC) (kD (.int 2)) modI) (kD (.int 1)) (eqM false))) (b2 (getC 0) (kD (.int 1)) ixD) (eqM false)))))
def Ygr:List D→Option D:=runB 2 3 Yrz
theorem Yp1(bl:Bl K w mg)  {a:Addr} {fd:FuncData} (F:Fun K "sum_holds" "sum_holds" Yea a fd) (hm:mg "sum_holds"=some (.ref a)):Okf P w K mg base 1 2 "sum_holds" ["rule","evening"] Ygr:=by
 refine Yal F (F.binds fun _ _ _ _ _ _ us hl=>by obtain⟨_,_,rfl⟩:=len2 hl;rfl) hm (Ys (k:=0) F sc_sum_holds rfl rfl fun cdv A outer s H E hr=>?_)
 exact(Yi (Yd6 2 sc_sum_holds.nd cs_sum_holds_0 rfl (Yad (Yp (Yb 0) (Yc Yl))) (fun _ _ _ _ _=>(Yx 0 cs_sum_holds_0.nd)) (fun _ _ _ _ _=>(Yhh (Yap (Yc (Yp (Yb 1) (Yb 0)))))) (fun _ _ _ _ _=>(Yh 0)) (Yag (i:=0) rfl)) (Yj (Yq (Ybg hr.units (Yc (Ybg hr.units (Yc (Ybf (Yc (Yw Yu Yan rfl bl.Len PySem.boot_len (Ym (Yb 2) Yr))) (Yc Yl))) (Yc Yl))) (Yc (Yp (Yb 0) (Yc Yl)))))))
abbrev Ye5:Stmt:=top 24
theorem Yr0:FnScope ["rule","evening","lit"] ["rule","evening","lit"] (defScope Ye5):=⟨rfl,rfl,rfl,by decide +kernel,rfl,by decide +kernel,by decide +kernel⟩
theorem cs_if_holds_0:CompSc ["rule","evening","lit"] (defScope Ye5) ["beacon","evening","lit"] [none,some 1,some 2] (fsc [(".0",.local),("beacon",.local),("evening",.free),("lit",.free)]):=Yy (by decide +kernel)
def Ynx:Ro→Option D:=(mB (b2 (b2 (getC 1) (getC 0) ixD) (getC 2) (eqM true)))
def Yun:Ro→Option Out:=(sSeq (sIf (b1 (cC (Yg (lF (Yas (b1 (b2 (getC 0) (kD (.int 0)) ixD) Yn) [none,some 1,some 2] (gSet 0) tY (Ynx))) aNil) anyC) truD) (sRet (kD (.bl true))) sNil) (sRet (andV (mB (b2 (b2 (getC 0) (kD (.int 1)) ixD) (kD .non) (isN true))) (mB (b2 (b2 (getC 1) (b2 (getC 0) (kD (.int 1)) ixD) ixD) (getC 2) (eqM false))))))
def Yin:List D→Option D:=runB 3 3 Yun
theorem Yr1(bl:Bl K w mg)  {a:Addr} {fd:FuncData} (F:Fun K "if_holds" "if_holds" Ye5 a fd) (hm:mg "if_holds"=some (.ref a)):Okf P w K mg base 1 3 "if_holds" ["rule","evening","lit"] Yin:=by
 refine Yal F (F.binds fun _ _ _ _ _ _ us hl=>by obtain⟨_,_,_,rfl⟩:=len3 hl;rfl) hm (Ys (k:=0) F Yr0 rfl rfl fun cdv A outer s H E hr=>?_)
 exact(Yi (Yaf (Yap (Yc (Yw (Yhb rfl) Yna rfl bl.Any boot_any (Ym (Yc (Yaj (Yah cs_if_holds_0 rfl (Yad (Yp (Yb 0) (Yc Yl))) (fun _ _ _ _ _=>(Yx 0 cs_if_holds_0.nd)) (fun _ _ _ _ _=>Yam) (fun _ _ _ _ _=>(y03 hr.units (Yc (Yp (Yb 1) (Yb 0))) (Yb 2))) (Yag (i:=0) rfl)))) Yr)))) (Yj (Yq Ya4)) Yz) (Yj (Yq (Ybq (Ytf (Yc (Yp (Yb 0) (Yc Yl))) (Yc Ye3)) (Ycp (Ybg hr.units (Yc (Yp (Yb 1) (Yc (Yp (Yb 0) (Yc Yl))))) (Yb 2)))))))
abbrev Ye6:Stmt:=top 25
theorem Yny:FnScope ["kind","rule","evening"] ["kind","rule","evening"] (defScope Ye6):=⟨rfl,rfl,rfl,by decide +kernel,rfl,by decide +kernel,by decide +kernel⟩
@[simp] def Ylv:Ro→Option Out:=(sRet (cC (Yg (getV 1) (Yg (getV 2) (Yg (mB (b2 (getC 0) (kD (.str "ifs")) (eqM false))) aNil))) Yin))
@[simp] def Ylw:Ro→Option Out:=(sSeq (sIf (b2 (getC 0) (kD (.str "sums")) (eqM false)) (sRet (cC (Yg (getV 1) (Yg (getV 2) aNil)) Ygr)) sNil) Ylv)
def Yp2:Ro→Option Out:=(sSeq (sIf (b2 (getC 0) (kD (.str "eithers")) (eqM false)) (sRet (cC (Yg (getV 1) (Yg (getV 2) aNil)) Yej)) sNil) Ylw)
def Yar:List D→Option D:=runB 3 3 Yp2
theorem Ynz(bl:Bl K w mg)(zm:Okf P w K mg base 1 2 "either_holds" ["rule","evening"] Yej)(ub8:Okf P w K mg base 1 2 "sum_holds" ["rule","evening"] Ygr)(udc:Okf P w K mg base 1 3 "if_holds" ["rule","evening","lit"] Yin){a:Addr}{fd:FuncData}(F:Fun K "rule_holds" "rule_holds" Ye6 a fd)(hm:mg "rule_holds"=some (.ref a)):Okf P w K mg base 2 3 "rule_holds" ["kind","rule","evening"] Yar:=by
 refine Yal F (F.binds fun _ _ _ _ _ _ us hl=>by obtain⟨_,_,_,rfl⟩:=len3 hl;rfl) hm (Ys (k:=1) F Yny rfl rfl fun cdv A outer s H E hr=>?_)
 exact(Yi (Yaf (Ycx hr.units (Yb 0) (Yc Yau)) (Yj (Yq (Yo zm hr rfl (Yd (Yh 1) (Yd (Yh 2) Yk)) (Ye (Ye (fun _ _ h=>Yt h)))))) Yz) (Yi (Yaf (Ycx hr.units (Yb 0) (Yc Yau)) (Yj (Yq (Yo ub8 hr rfl (Yd (Yh 1) (Yd (Yh 2) Yk)) (Ye (Ye (fun _ _ h=>Yt h)))))) Yz) (Yj (Yq (Yo udc hr rfl (Yd (Yh 1) (Yd (Yh 2) (Yd (Ybg hr.units (Yb 0) (Yc Yau)) Yk))) (Ye (Ye (Ye (fun _ _ h=>Yt h)))))))))
abbrev Yfo:Stmt:=top 29
theorem Yp3:FnScope ["thing"] ["thing"] (defScope Yfo):=⟨rfl,rfl,rfl,by decide +kernel,rfl,by decide +kernel,by decide +kernel⟩
def Yk8:Ro→Option Out:=(sRet (andV (mB (b1 (getC 0) (isiD "int"))) (andV (notV (mB (b1 (getC 0) (isiD "bool")))) (mB (ch3 (kD (.int 0)) (getC 0) (kD (.int 4)) leI leI)))))
def Ydu:List D→Option D:=runB 1 1 Yk8
theorem Yp4(bl:Bl K w mg)  {a:Addr} {fd:FuncData} (F:Fun K "is_length" "is_length" Yfo a fd) (hm:mg "is_length"=some (.ref a)):Okf P w K mg base 1 1 "is_length" ["thing"] Ydu:=by
 refine Yal F (F.binds fun _ _ _ _ _ _ us hl=>by obtain⟨_,rfl⟩:=len1 hl;rfl) hm (Ys (k:=0) F Yp3 rfl rfl fun cdv A outer s H E hr=>?_)
 exact(Yj (Yq (Ybq (Yav (Yb 0) rfl rfl bl.Isinstance bl.Int boot_int (Ym7)) (Ybq (Ynl (Yav (Yb 0) rfl rfl bl.Isinstance bl.Bool boot_bool (Yd5))) (Ycp (Ypr Yyg Ydo Yyg Ydo (Yc Yl) (Yb 0) (Yc (Yjt bl.g_MOST_LENGTH rfl))))))))
abbrev Ycr:Stmt:=top 30
theorem Ylx:FnScope ["length","evenings"] ["length","evenings"] (defScope Ycr):=⟨rfl,rfl,rfl,by decide +kernel,rfl,by decide +kernel,by decide +kernel⟩
theorem cs_check_table_0:CompSc ["length","evenings"] (defScope Ycr) ["evening","length"] [none,some 0] (fsc [(".0",.local),("evening",.local),("len",.globalImplicit),("length",.free)]):=Yy (by decide +kernel)
def Yc9:Ro→Option D:=(mB (b2 (cC (Yg (getC 0) aNil) lenC) (getC 1) (eqM false)))
def Yhj:Ro→Option Out:=(sSeq (sIf (notT (b1 (cC (Yg (getV 0) aNil) Ydu) truD)) nS sNil) (sIf (notT (b1 (cC (Yg (lF (Yas (b1 (getV 1) Yn) [none,some 0] (gSet 0) tY (Yc9))) aNil) allC) truD)) nS sNil))
def Ybb:List D→Option D:=runB 2 2 Yhj
theorem Yly(bl:Bl K w mg)(ub9:Okf P w K mg base 1 1 "is_length" ["thing"] Ydu){a:Addr}{fd:FuncData}(F:Fun K "check_table" "check_table" Ycr a fd)(hm:mg "check_table"=some (.ref a)):Okf P w K mg base 2 2 "check_table" ["length","evenings"] Ybb:=by
 refine Yal F (F.binds fun _ _ _ _ _ _ us hl=>by obtain⟨_,_,rfl⟩:=len2 hl;rfl) hm (Ys (k:=1) F Ylx rfl rfl fun cdv A outer s H E hr=>?_)
 exact(Yi (Yaf (Ybh (Yap (Yc (Yo ub9 hr rfl (Yd (Yh 0) Yk) (Ye (fun _ _ h=>Yt h)))))) (Yj Yb8) Yz) (Yj (Yaf (Ybh (Yap (Yc (Yw (Yeq rfl) Yh7 rfl bl.All boot_all (Ym (Yc (Yaj (Yah cs_check_table_0 rfl (Yad (Yh 1)) (fun _ _ _ _ _=>(Yx 0 cs_check_table_0.nd)) (fun _ _ _ _ _=>Yam) (fun _ _ _ _ _=>(Ybg hr.units (Yc (Yw Yu Yan rfl bl.Len PySem.boot_len (Ym (Yb 0) Yr))) (Yb 1))) (Yag (i:=0) rfl)))) Yr))))) (Yj Yb8) Yz)))
abbrev Ybm:Stmt:=top 31
theorem sc_all_evenings:FnScope ["length","evenings","beacon"] ["length"] (defScope Ybm):=⟨rfl,rfl,rfl,by decide +kernel,rfl,by decide +kernel,by decide +kernel⟩
theorem cs_all_evenings_0:CompSc ["length","evenings","beacon"] (defScope Ybm) ["evening"] [none] (fsc [(".0",.local),("evening",.local)]):=Yy (by decide +kernel)
theorem cs_all_evenings_1:CompSc ["length","evenings","beacon"] (defScope Ybm) ["evening"] [none] (fsc [(".0",.local),("evening",.local)]):=Yy (by decide +kernel)
def Yio:Ro→Option D:=(b2 (getC 0) (dTup (Yg (kD (.bl false)) aNil)) Yro)
def Yip:Ro→Option D:=(b2 (getC 0) (dTup (Yg (kD (.bl true)) aNil)) Yro)
def Yiq:Ro→Option Out:=(wF [1] (sOwn 1 (b2 (lF (Yas (b1 (getV 1) Yn) [none] (gSet 0) tY (Yio))) (lF (Yas (b1 (getV 1) Yn) [none] (gSet 0) tY (Yip))) catD)))
@[simp] def Yjj:Ro→Option Out:=(wF [1] (sRet (getV 1)))
@[simp] def Yjk:Ro→Option Out:=(sSeq (sFor (cF (Yg (getV 0) aNil) rng1) (gSet 2) Yiq) Yjj)
def Ylz:Ro→Option Out:=(sSeq (sOwn 1 (dLst (Yg (dTup aNil) aNil))) Yjk)
def Ybc:List D→Option D:=runB 1 3 Ylz
theorem Yk9(bl:Bl K w mg)  {a:Addr} {fd:FuncData} (F:Fun K "all_evenings" "all_evenings" Ybm a fd) (hm:mg "all_evenings"=some (.ref a)):Okf P w K mg base 1 1 "all_evenings" ["length"] Ybc:=by
 refine Yal F (F.binds fun _ _ _ _ _ _ us hl=>by obtain⟨_,rfl⟩:=len1 hl;rfl) hm (Ys (k:=0) F sc_all_evenings rfl rfl fun cdv A outer s H E hr=>?_)
 exact(Yi (Yb2 1 sc_all_evenings.nd (Ybi (Yd (Yb1 Yk) Yk))) (Yi (Yb7 PassesOwn.never rfl (Ya6 rfl bl.Range (Yd (Yh 0) Yk)) (Yx 2 sc_all_evenings.nd) (Yj (Ya5 [1] (Yb2 1 sc_all_evenings.nd (Ykw (Yc (Yaj (Yah cs_all_evenings_0 rfl (Yad (Yh 1)) (fun _ _ _ _ _=>(Yx 0 cs_all_evenings_0.nd)) (fun _ _ _ _ _=>Yam) (fun _ _ _ _ _=>(Yjv (Yb 0) (Yc (Yb1 (Yd Ya4 Yk))))) (Yag (i:=0) rfl)))) (Yc (Yaj (Yah cs_all_evenings_1 rfl (Yad (Yh 1)) (fun _ _ _ _ _=>(Yx 0 cs_all_evenings_1.nd)) (fun _ _ _ _ _=>Yam) (fun _ _ _ _ _=>(Yjv (Yb 0) (Yc (Yb1 (Yd Ya4 Yk))))) (Yag (i:=0) rfl))))))))) (Yj (Ya5 [1] (Yq (Yh 1))))))
abbrev Ycy:Stmt:=top 32
theorem sc_groups_of:FnScope ["things","count","groups","place","thing"] ["things","count"] (defScope Ycy):=⟨rfl,rfl,rfl,by decide +kernel,rfl,by decide +kernel,by decide +kernel⟩
theorem cs_groups_of_0:CompSc ["things","count","groups","place","thing"] (defScope Ycy) ["group","thing"] [none,some 4] (fsc [(".0",.local),("group",.local),("thing",.free)]):=Yy (by decide +kernel)
def Ycs(rec:List D→Option D):Ro→Option D:=(lF (b2 (lF (dLst (Yg (getV 1) aNil))) (getC 0) catD))
def Yek(rec:List D→Option D):Ro→Option Out:=(sMut 2 (lF (Yas (b1 (cC (Yg (lF (slF (getC 0) (some (b2 (getC 3) (kD (.int 1)) addI)) none)) (Yg (b2 (getC 1) (kD (.int 1)) subI) aNil)) rec) Yn) [none,some 4] (gSet 0) tY (Ycs rec))) extD)
def Ygs(rec:List D→Option D):Ro→Option Out:=(sSeq (sIf (b2 (getC 1) (kD (.int 0)) (eqM false)) (sRet (lF (dLst (Yg (lF (dLst aNil)) aNil)))) sNil) (sSeq (sOwn 2 (dLst aNil)) (sSeq (sFor (b1 (getV 0) Yy5) (Yyz 3 4) (Yek rec)) (wF [2] (sRet (getV 2))))))
def Yay:Nat→List D→Option D
 | 0=>fun _=>none
 | k+1=>runB 2 5 (Ygs (Yay k))
def Yb4:List D→Option D:=Yay 12
theorem Yn0(bl:Bl K w mg)  {k j:Nat} (rc:Okf P w K mg base k 2 "groups_of" ["things","count"] (Yay j)) (hk:0≤k) {a:Addr} {fd:FuncData} (F:Fun K "groups_of" "groups_of" Ycy a fd) (hm:mg "groups_of"=some (.ref a)):Okf P w K mg base (k+1) 2 "groups_of" ["things","count"] (Yay (j+1)):=by
 refine Yal F (F.binds fun _ _ _ _ _ _ us hl=>by obtain⟨_,_,rfl⟩:=len2 hl;rfl) hm (Ys (k:=k) F sc_groups_of rfl rfl fun cdv A outer s H E hr=>?_)
 exact(Yi (Yaf (Ycx hr.units (Yb 1) (Yc Yl)) (Yj (Yq (Yaj (Ybi (Yd (Yaj (Ybi Yk)) Yk))))) Yz) (Yi (Yb2 2 sc_groups_of.nd (Ybi Yk)) (Yi (Yb7 PassesOwn.never rfl (Ynm rfl bl.Enumerate (Yh 0)) (Yzn 3 4 rfl sc_groups_of.nd) (Yj (Yid 2 (Yaj (Yah cs_groups_of_0 rfl (Yad (Yo rc hr rfl (Yd (Yaj (Ykv (fl:=(some (b2 (getC 3) (kD (.int 1)) addI))) (fh:=none) (Yb 0) (Yth (Yc (Yic (Yb 3) (Yc Yl)))) y05)) (Yd (Yw8 (Yb 1) (Yc Yl)) Yk)) (Ye (Ye (fun _ _ h=>Yt h))))) (fun _ _ _ _ _=>(Yx 0 cs_groups_of_0.nd)) (fun _ _ _ _ _=>Yam) (fun _ _ _ _ _=>(Yaj (Ykw (Yc (Yaj (Ybi (Yd (Yh 1) Yk)))) (Yb 0)))) (Yag (i:=0) rfl)))))) (Yj (Ya5 [2] (Yq (Yh 2)))))))
theorem Yp5(bl:Bl K w mg)  {a:Addr} {fd:FuncData} (F:Fun K "groups_of" "groups_of" Ycy a fd) (hm:mg "groups_of"=some (.ref a)):Okf P w K mg base 12 2 "groups_of" ["things","count"] Yb4:=by
 have all:∀j,Okf P w K mg base (0+j) 2 "groups_of" ["things","count"] (Yay j):=fun j=>by
  induction j with
  | zero=>exact Ysz F (F.binds fun _ _ _ _ _ _ us hl=>by obtain⟨_,_,rfl⟩:=len2 hl;rfl) hm rfl
  | succ j ih=>exact Yn0 bl  ih (Nat.le_add_right _ _) F hm
 exact all 12
abbrev Ydv:Stmt:=top 33
theorem sc_small_groups:FnScope ["things","most","groups","count"] ["things","most"] (defScope Ydv):=⟨rfl,rfl,rfl,by decide +kernel,rfl,by decide +kernel,by decide +kernel⟩
def Yir:Ro→Option Out:=(sMut 2 (cC (Yg (getV 0) (Yg (getV 3) aNil)) Yb4) extD)
@[simp] def Yjl:Ro→Option Out:=(wF [2] (sRet (getV 2)))
@[simp] def Yjm:Ro→Option Out:=(sSeq (sFor (cF (Yg (b2 (getC 1) (kD (.int 1)) addI) aNil) rng1) (gSet 3) Yir) Yjl)
def Yl0:Ro→Option Out:=(sSeq (sOwn 2 (dLst aNil)) Yjm)
def Ybt:List D→Option D:=runB 2 4 Yl0
theorem Yla(bl:Bl K w mg)(uu:Okf P w K mg base 12 2 "groups_of" ["things","count"] Yb4){a:Addr}{fd:FuncData}(F:Fun K "small_groups" "small_groups" Ydv a fd)(hm:mg "small_groups"=some (.ref a)):Okf P w K mg base 13 2 "small_groups" ["things","most"] Ybt:=by
 refine Yal F (F.binds fun _ _ _ _ _ _ us hl=>by obtain⟨_,_,rfl⟩:=len2 hl;rfl) hm (Ys (k:=12) F sc_small_groups rfl rfl fun cdv A outer s H E hr=>?_)
 exact(Yi (Yb2 2 sc_small_groups.nd (Ybi Yk)) (Yi (Yb7 PassesOwn.never rfl (Ya6 rfl bl.Range (Yd (Yic (Yb 1) (Yc Yl)) Yk)) (Yx 3 sc_small_groups.nd) (Yj (Yid 2 (Yo uu hr rfl (Yd (Yh 0) (Yd (Yh 3) Yk)) (Ye (Ye (fun _ _ h=>Yt h))))))) (Yj (Ya5 [2] (Yq (Yh 2))))))
abbrev Ybn:Stmt:=top 34
theorem sc_eithers_over:FnScope ["beacons","sayings"] ["beacons"] (defScope Ybn):=⟨rfl,rfl,rfl,by decide +kernel,rfl,by decide +kernel,by decide +kernel⟩
theorem cs_eithers_over_0:CompSc ["beacons","sayings"] (defScope Ybn) ["beacon"] [none] (fsc [(".0",.local),("beacon",.local)]):=Yy (by decide +kernel)
theorem cs_eithers_over_1:CompSc ["beacons","sayings"] (defScope Ybn) ["beacon"] [none] (fsc [(".0",.local),("beacon",.local)]):=Yy (by decide +kernel)
def Yis:Ro→Option D:=(dTup (Yg (getV 0) (Yg (kD (.bl false)) aNil)))
def Yit:Ro→Option D:=(dTup (Yg (getV 0) (Yg (kD (.bl true)) aNil)))
def Yl1:Ro→Option Out:=(sSeq (sOwn 1 (b2 (lF (Yas (b1 (getV 0) Yn) [none] (gSet 0) tY (Yis))) (lF (Yas (b1 (getV 0) Yn) [none] (gSet 0) tY (Yit))) catD)) (wF [1] (sRet (cC (Yg (getV 1) (Yg (kD (.int 2)) aNil)) Ybt))))
def Yel:List D→Option D:=runB 1 2 Yl1
theorem Ylb(bl:Bl K w mg)(ug:Okf P w K mg base 13 2 "small_groups" ["things","most"] Ybt){a:Addr}{fd:FuncData}(F:Fun K "eithers_over" "eithers_over" Ybn a fd)(hm:mg "eithers_over"=some (.ref a)):Okf P w K mg base 14 1 "eithers_over" ["beacons"] Yel:=by
 refine Yal F (F.binds fun _ _ _ _ _ _ us hl=>by obtain⟨_,rfl⟩:=len1 hl;rfl) hm (Ys (k:=13) F sc_eithers_over rfl rfl fun cdv A outer s H E hr=>?_)
 exact(Yi (Yb2 1 sc_eithers_over.nd (Ykw (Yc (Yaj (Yah cs_eithers_over_0 rfl (Yad (Yh 0)) (fun _ _ _ _ _=>(Yx 0 cs_eithers_over_0.nd)) (fun _ _ _ _ _=>Yam) (fun _ _ _ _ _=>(Yb1 (Yd (Yh 0) (Yd Ya4 Yk)))) (Yag (i:=0) rfl)))) (Yc (Yaj (Yah cs_eithers_over_1 rfl (Yad (Yh 0)) (fun _ _ _ _ _=>(Yx 0 cs_eithers_over_1.nd)) (fun _ _ _ _ _=>Yam) (fun _ _ _ _ _=>(Yb1 (Yd (Yh 0) (Yd Ya4 Yk)))) (Yag (i:=0) rfl)))))) (Yj (Ya5 [1] (Yq (Yo ug hr rfl (Yd (Yh 1) (Yd Yl Yk)) (Ye (Ye (fun _ _ h=>Yt h))))))))
abbrev Ydg:Stmt:=top 35
theorem sc_rules_over:FnScope ["kind","length","beacons","ends","rules","body"] ["kind","length"] (defScope Ydg):=⟨rfl,rfl,rfl,by decide +kernel,rfl,by decide +kernel,by decide +kernel⟩
theorem cs_rules_over_0:CompSc ["kind","length","beacons","ends","rules","body"] (defScope Ydg) ["end","body"] [none,some 5] (fsc [(".0",.local),("end",.local),("body",.free)]):=Yy (by decide +kernel)
def Ylc:Ro→Option D:=(dTup (Yg (getV 1) (Yg (getV 0) aNil)))
def Yld:Ro→Option Out:=(sMut 4 (lF (Yas (b1 (getV 3) Yn) [none,some 5] (gSet 0) tY (Ylc))) extD)
@[simp] def Yl2:Ro→Option Out:=(wF [4] (sRet (getV 4)))
@[simp] def Yl3:Ro→Option Out:=(sSeq (wF [2] (sFor (b1 (cC (Yg (getV 2) (Yg (getV 1) aNil)) Ybt) Yn) (gSet 5) Yld)) Yl2)
@[simp] def Yl4:Ro→Option Out:=(sSeq (sOwn 4 (dLst aNil)) Yl3)
@[simp] def Yl5:Ro→Option Out:=(sSeq (sSet 3 (ifV (b2 (getC 0) (kD (.str "sums")) (eqM false)) (lF (dLst (Yg (kD (.bl false)) (Yg (kD (.bl true)) aNil)))) (lF (b2 (lF (dLst (Yg (kD .non) aNil))) (getC 2) catD)))) Yl4)
@[simp] def Yl6:Ro→Option Out:=(sSeq (sIf (b2 (getC 0) (kD (.str "eithers")) (eqM false)) (wF [2] (sRet (cC (Yg (getV 2) aNil) Yel))) sNil) Yl5)
def Yp6:Ro→Option Out:=(sSeq (sOwn 2 (cF (Yg (getV 1) aNil) rng1)) Yl6)
def Ya0:List D→Option D:=runB 2 6 Yp6
theorem Yn1(bl:Bl K w mg)(zn:Okf P w K mg base 14 1 "eithers_over" ["beacons"] Yel)(ug:Okf P w K mg base 13 2 "small_groups" ["things","most"] Ybt){a:Addr}{fd:FuncData}(F:Fun K "rules_over" "rules_over" Ydg a fd)(hm:mg "rules_over"=some (.ref a)):Okf P w K mg base 15 2 "rules_over" ["kind","length"] Ya0:=by
 refine Yal F (F.binds fun _ _ _ _ _ _ us hl=>by obtain⟨_,_,rfl⟩:=len2 hl;rfl) hm (Ys (k:=14) F sc_rules_over rfl rfl fun cdv A outer s H E hr=>?_)
 exact(Yi (Yb2 2 sc_rules_over.nd (Ynn rfl rfl bl.List rfl bl.Range (Yd (Yh 1) Yk))) (Yi (Yaf (Ycx hr.units (Yb 0) (Yc Yau)) (Yj (Ya5 [2] (Yq (Yo zn hr rfl (Yd (Yh 2) Yk) (Ye (fun _ _ h=>Yt h)))))) Yz) (Yi (Ybr 3 sc_rules_over.nd (y6q (Ycx hr.units (Yb 0) (Yc Yau)) (Yaj (Ybi (Yd Ya4 (Yd Ya4 Yk)))) (Yaj (Ykw (Yc (Yaj (Ybi (Yd Ye3 Yk)))) (Yb 2))))) (Yi (Yb2 4 sc_rules_over.nd (Ybi Yk)) (Yi (Ya5 [2] (Yb7 PassesOwn.never rfl (Yad (Yo ug hr rfl (Yd (Yh 2) (Yd (Yh 1) Yk)) (Ye (Ye (fun _ _ h=>Yt h))))) (Yx 5 sc_rules_over.nd) (Yj (Yid 4 (Yaj (Yah cs_rules_over_0 rfl (Yad (Yh 3)) (fun _ _ _ _ _=>(Yx 0 cs_rules_over_0.nd)) (fun _ _ _ _ _=>Yam) (fun _ _ _ _ _=>(Yb1 (Yd (Yh 1) (Yd (Yh 0) Yk)))) (Yag (i:=0) rfl))))))) (Yj (Ya5 [4] (Yq (Yh 4)))))))))
abbrev Ycb:Stmt:=top 36
theorem Yle:FnScope ["kind","rule","evenings"] ["kind","rule","evenings"] (defScope Ycb):=⟨rfl,rfl,rfl,by decide +kernel,rfl,by decide +kernel,by decide +kernel⟩
theorem cs_holds_on_all_0:CompSc ["kind","rule","evenings"] (defScope Ycb) ["evening","kind","rule"] [none,some 0,some 1] (fsc [(".0",.local),("evening",.local),("rule_holds",.globalImplicit),("kind",.free),("rule",.free)]):=Yy (by decide +kernel)
def Ycn:Ro→Option D:=(cC (Yg (getV 1) (Yg (getV 2) (Yg (getV 0) aNil))) Yar)
def Ygc:Ro→Option Out:=(sRet (cC (Yg (lF (Yas (b1 (getV 2) Yn) [none,some 0,some 1] (gSet 0) tY (Ycn))) aNil) allC))
def Ybu:List D→Option D:=runB 3 3 Ygc
theorem Ylf(bl:Bl K w mg)(uk:Okf P w K mg base 2 3 "rule_holds" ["kind","rule","evening"] Yar){a:Addr}{fd:FuncData}(F:Fun K "holds_on_all" "holds_on_all" Ycb a fd)(hm:mg "holds_on_all"=some (.ref a)):Okf P w K mg base 3 3 "holds_on_all" ["kind","rule","evenings"] Ybu:=by
 refine Yal F (F.binds fun _ _ _ _ _ _ us hl=>by obtain⟨_,_,_,rfl⟩:=len3 hl;rfl) hm (Ys (k:=2) F Yle rfl rfl fun cdv A outer s H E hr=>?_)
 exact(Yj (Yq (Yw (Yeq rfl) Yh7 rfl bl.All boot_all (Ym (Yc (Yaj (Yah cs_holds_on_all_0 rfl (Yad (Yh 2)) (fun _ _ _ _ _=>(Yx 0 cs_holds_on_all_0.nd)) (fun _ _ _ _ _=>Yam) (fun _ _ _ _ _=>(Yo uk hr rfl (Yd (Yh 1) (Yd (Yh 2) (Yd (Yh 0) Yk))) (Ye (Ye (Ye (fun _ _ h=>Yt h)))))) (Yag (i:=0) rfl)))) Yr))))
abbrev Yev:Stmt:=top 37
theorem sc_book_of:FnScope ["kind","length","table","lacking","rules","rule","still"] ["kind","length","table"] (defScope Yev):=⟨rfl,rfl,rfl,by decide +kernel,rfl,by decide +kernel,by decide +kernel⟩
theorem cs_book_of_0:CompSc ["kind","length","table","lacking","rules","rule","still"] (defScope Yev) ["evening","table"] [none,some 2] (fsc [(".0",.local),("evening",.local),("table",.free)]):=Yy (by decide +kernel)
theorem cs_book_of_1:CompSc ["kind","length","table","lacking","rules","rule","still"] (defScope Yev) ["evening","kind","rule"] [none,some 0,some 5] (fsc [(".0",.local),("evening",.local),("rule_holds",.globalImplicit),("kind",.free),("rule",.free)]):=Yy (by decide +kernel)
def Yeb:Ro→Option Bool:=(b2 (getC 0) (getC 1) (inM true))
def Yec:Ro→Option D:=(getV 0)
def Yed:Ro→Option Bool:=(b1 (cC (Yg (getV 1) (Yg (getV 2) (Yg (getV 0) aNil))) Yar) truD)
def Yee:Ro→Option D:=(getV 0)
def Yef:Ro→Option Out:=(sSeq (wF [3] (sOwn 6 (Yas (b1 (getV 3) Yn) [none,some 0,some 5] (gSet 0) (Yed) (Yee)))) (sIf (andT (b2 (cC (Yg (getC 6) aNil) lenC) (cC (Yg (getC 3) aNil) lenC) ltI) (b1 (cC (Yg (getV 0) (Yg (getV 5) (Yg (getV 2) aNil))) Ybu) truD)) (sSeq (sMut 4 (getV 5) appD) (wF [6] (sSet 3 (getV 6)))) sNil))
@[simp] def Ylg:Ro→Option Out:=(wF [4] (sRet (cC (Yg (getV 0) (Yg (getV 4) aNil)) Ydt)))
@[simp] def Ylh:Ro→Option Out:=(sSeq (sFor (b1 (cC (Yg (getV 0) (Yg (getV 1) aNil)) Ya0) Yn) (gSet 5) Yef) Ylg)
@[simp] def Yli:Ro→Option Out:=(sSeq (sOwn 4 (dLst aNil)) Ylh)
def Yp7:Ro→Option Out:=(sSeq (sOwn 3 (Yas (b1 (cC (Yg (getV 1) aNil) Ybc) Yn) [none,some 2] (gSet 0) (Yeb) (Yec))) Yli)
def Yfp:List D→Option D:=runB 3 7 Yp7
theorem Yuo(bl:Bl K w mg)(zo:Okf P w K mg base 1 1 "all_evenings" ["length"] Ybc)(ua6:Okf P w K mg base 15 2 "rules_over" ["kind","length"] Ya0)(uk:Okf P w K mg base 2 3 "rule_holds" ["kind","rule","evening"] Yar)(zp:Okf P w K mg base 3 3 "holds_on_all" ["kind","rule","evenings"] Ybu)(uca:Okf P w K mg base 6 2 "book_made" ["kind","rules"] Ydt){a:Addr}{fd:FuncData}(F:Fun K "book_of" "book_of" Yev a fd)(hm:mg "book_of"=some (.ref a)):Okf P w K mg base 16 3 "book_of" ["kind","length","table"] Yfp:=by
 refine Yal F (F.binds fun _ _ _ _ _ _ us hl=>by obtain⟨_,_,_,rfl⟩:=len3 hl;rfl) hm (Ys (k:=15) F sc_book_of rfl rfl fun cdv A outer s H E hr=>?_)
 exact(Yi (Yd6 3 sc_book_of.nd cs_book_of_0 rfl (Yad (Yo zo hr rfl (Yd (Yh 1) Yk) (Ye (fun _ _ h=>Yt h)))) (fun _ _ _ _ _=>(Yx 0 cs_book_of_0.nd)) (fun _ _ _ _ _=>(Yhh (Yrp hr.units (Yb 0) (Yb 1)))) (fun _ _ _ _ _=>(Yh 0)) (Yag (i:=0) rfl)) (Yi (Yb2 4 sc_book_of.nd (Ybi Yk)) (Yi (Yb7 PassesOwn.never rfl (Yad (Yo ua6 hr rfl (Yd (Yh 0) (Yd (Yh 1) Yk)) (Ye (Ye (fun _ _ h=>Yt h))))) (Yx 5 sc_book_of.nd) (Yi (Ya5 [3] (Yd6 6 sc_book_of.nd cs_book_of_1 rfl (Yad (Yh 3)) (fun _ _ _ _ _=>(Yx 0 cs_book_of_1.nd)) (fun _ _ _ _ _=>(Yhh (Yap (Yc (Yo uk hr rfl (Yd (Yh 1) (Yd (Yh 2) (Yd (Yh 0) Yk))) (Ye (Ye (Ye (fun _ _ h=>Yt h))))))))) (fun _ _ _ _ _=>(Yh 0)) (Yag (i:=0) rfl))) (Yj (Yaf (Ydr (Yrq (Yte (Yc (Yw Yu Yan rfl bl.Len PySem.boot_len (Ym (Yb 6) Yr))) (Yc (Yw Yu Yan rfl bl.Len PySem.boot_len (Ym (Yb 3) Yr)))) (Ynk (Yap (Yc (Yo zp hr rfl (Yd (Yh 0) (Yd (Yh 5) (Yd (Yh 2) Yk))) (Ye (Ye (Ye (fun _ _ h=>Yt h)))))))))) (Yi (Yib 4 (Yh 5)) (Yj (Ya5 [6] (Ybr 3 sc_book_of.nd (Yh 6))))) Yz)))) (Yj (Ya5 [4] (Yq (Yo uca hr rfl (Yd (Yh 0) (Yd (Yh 4) Yk)) (Ye (Ye (fun _ _ h=>Yt h))))))))))
abbrev Yda:Stmt:=top 38
theorem sc_lacking_blend:FnScope ["kind","table","group"] ["kind","table"] (defScope Yda):=⟨rfl,rfl,rfl,by decide +kernel,rfl,by decide +kernel,by decide +kernel⟩
def Yao:Ro→Option Out:=(sIf (b2 (cC (Yg (getV 0) (Yg (getV 2) aNil)) Yeu) (getC 1) (inM true)) (sRet (getV 2)) sNil)
def Yfq:Ro→Option Out:=(sSeq (sFor (b1 (cC (Yg (getV 1) (Yg (b1 (getC 0) (Yi3 gt_BLENDED_COUNTS)) aNil)) Yb4) Yn) (gSet 2) Yao) (sRet (kD .non)))
def Ybo:List D→Option D:=runB 2 3 Yfq
theorem Yjn(bl:Bl K w mg)(uu:Okf P w K mg base 12 2 "groups_of" ["things","count"] Yb4)(ueb:Okf P w K mg base 2 2 "blended" ["kind","evenings"] Yeu){a:Addr}{fd:FuncData}(F:Fun K "lacking_blend" "lacking_blend" Yda a fd)(hm:mg "lacking_blend"=some (.ref a)):Okf P w K mg base 13 2 "lacking_blend" ["kind","table"] Ybo:=by
 refine Yal F (F.binds fun _ _ _ _ _ _ us hl=>by obtain⟨_,_,rfl⟩:=len2 hl;rfl) hm (Ys (k:=12) F sc_lacking_blend rfl rfl fun cdv A outer s H E hr=>?_)
 exact(Yi (Yb7 PassesOwn.never rfl (Yad (Yo uu hr rfl (Yd (Yh 1) (Yd (Yuj bl.g_BLENDED_COUNTS rfl (Yb 0)) Yk)) (Ye (Ye (fun _ _ h=>Yt h))))) (Yx 2 sc_lacking_blend.nd) (Yj (Yaf (Yrp hr.units (Yc (Yo ueb hr rfl (Yd (Yh 0) (Yd (Yh 2) Yk)) (Ye (Ye (fun _ _ h=>Yt h))))) (Yb 1)) (Yj (Yq (Yh 2))) Yz))) (Yj (Yq Ye3)))
abbrev Ydh:Stmt:=top 39
theorem sc_table_told:FnScope ["kind","length","evenings","table","blend"] ["kind","length","evenings"] (defScope Ydh):=⟨rfl,rfl,rfl,by decide +kernel,rfl,by decide +kernel,by decide +kernel⟩
theorem cs_table_told_0:CompSc ["kind","length","evenings","table","blend"] (defScope Ydh) ["evening"] [none] (fsc [(".0",.local),("evening",.local),("tuple",.globalImplicit)]):=Yy (by decide +kernel)
def Ycc:Ro→Option D:=(cC (Yg (getC 0) aNil) tupC)
@[simp] def Yl7:Ro→Option Out:=(wF [3] (sRet (dTup (Yg (kD (.str "book")) (Yg (cC (Yg (getV 0) (Yg (getV 1) (Yg (getV 3) aNil))) Yfp) aNil)))))
@[simp] def Yl8:Ro→Option Out:=(sSeq (sIf (b2 (getC 4) (kD .non) (isN true)) (sRet (dTup (Yg (kD (.str "blend")) (Yg (getV 4) aNil)))) sNil) Yl7)
@[simp] def Yl9:Ro→Option Out:=(sSeq (wF [3] (sSet 4 (cC (Yg (getV 0) (Yg (getV 3) aNil)) Ybo))) Yl8)
@[simp] def Yem:Ro→Option Out:=(sSeq (sOwn 3 (Yf2 (lF (Yas (b1 (getV 2) Yn) [none] (gSet 0) tY (Ycc))))) Yl9)
def Yfr:Ro→Option Out:=(sSeq (sExp (cC (Yg (getV 1) (Yg (getV 2) aNil)) Ybb)) Yem)
def Ya1:List D→Option D:=runB 3 5 Yfr
theorem Yn2(bl:Bl K w mg)(uaq:Okf P w K mg base 2 2 "check_table" ["length","evenings"] Ybb)(xn:Okf P w K mg base 13 2 "lacking_blend" ["kind","table"] Ybo)(uec:Okf P w K mg base 16 3 "book_of" ["kind","length","table"] Yfp){a:Addr}{fd:FuncData}(F:Fun K "table_told" "table_told" Ydh a fd)(hm:mg "table_told"=some (.ref a)):Okf P w K mg base 17 3 "table_told" ["kind","length","evenings"] Ya1:=by
 refine Yal F (F.binds fun _ _ _ _ _ _ us hl=>by obtain⟨_,_,_,rfl⟩:=len3 hl;rfl) hm (Ys (k:=16) F sc_table_told rfl rfl fun cdv A outer s H E hr=>?_)
 exact(Yi (Yzq (Yo uaq hr rfl (Yd (Yh 1) (Yd (Yh 2) Yk)) (Ye (Ye (fun _ _ h=>Yt h))))) (Yi (Yb2 3 sc_table_told.nd (Yps rfl hr.units rfl bl.Sorted rfl bl.Set (Yc (Yaj (Yah cs_table_told_0 rfl (Yad (Yh 2)) (fun _ _ _ _ _=>(Yx 0 cs_table_told_0.nd)) (fun _ _ _ _ _=>Yam) (fun _ _ _ _ _=>(Yat Yaq Yeh rfl bl.Tuple boot_tuple (Ym (Yb 0) Yr))) (Yag (i:=0) rfl)))))) (Yi (Ya5 [3] (Ybr 4 sc_table_told.nd (Yo xn hr rfl (Yd (Yh 0) (Yd (Yh 3) Yk)) (Ye (Ye (fun _ _ h=>Yt h)))))) (Yi (Yaf (Ytg (Yb 4) (Yc Ye3)) (Yj (Yq (Yb1 (Yd Yau (Yd (Yh 4) Yk))))) Yz) (Yj (Ya5 [3] (Yq (Yb1 (Yd Yau (Yd (Yo uec hr rfl (Yd (Yh 0) (Yd (Yh 1) (Yd (Yh 3) Yk))) (Ye (Ye (Ye (fun _ _ h=>Yt h))))) Yk))))))))))
abbrev Ygt:Stmt:=top 41
theorem Yr2:FnScope ["script","k"] ["script","k"] (defScope Ygt):=⟨rfl,rfl,rfl,by decide +kernel,rfl,by decide +kernel,by decide +kernel⟩
def Yiu:Ro→Option Out:=(sSeq (sIf (b2 (getC 1) (cC (Yg (getC 0) aNil) lenC) ltI) (sRet (b2 (getC 0) (getC 1) ixD)) sNil) (sRet (kD (.int 0))))
def Yab:List D→Option D:=runB 2 2 Yiu
theorem Yr3(bl:Bl K w mg)  {a:Addr} {fd:FuncData} (F:Fun K "_law_cell" "_law_cell" Ygt a fd) (hm:mg "_law_cell"=some (.ref a)):Okf P w K mg base 1 2 "_law_cell" ["script","k"] Yab:=by
 refine Yal F (F.binds fun _ _ _ _ _ _ us hl=>by obtain⟨_,_,rfl⟩:=len2 hl;rfl) hm (Ys (k:=0) F Yr2 rfl rfl fun cdv A outer s H E hr=>?_)
 exact(Yi (Yaf (Yte (Yb 1) (Yc (Yw Yu Yan rfl bl.Len PySem.boot_len (Ym (Yb 0) Yr)))) (Yj (Yq (Yp (Yb 0) (Yb 1)))) Yz) (Yj (Yq Yl)))
abbrev Yfs:Stmt:=top 42
theorem Yp8:FnScope ["cell","by"] ["cell","by"] (defScope Yfs):=⟨rfl,rfl,rfl,by decide +kernel,rfl,by decide +kernel,by decide +kernel⟩
def Ylj:Ro→Option Out:=(sRet (b2 (b2 (b2 (getC 0) (kD (.int 2305843009213693951)) modI) (getC 1) mulI) (kD (.int 2305843009213693951)) modI))
def Ydw:List D→Option D:=runB 2 2 Ylj
theorem Yp9(bl:Bl K w mg)  {a:Addr} {fd:FuncData} (F:Fun K "_law_mixed" "_law_mixed" Yfs a fd) (hm:mg "_law_mixed"=some (.ref a)):Okf P w K mg base 1 2 "_law_mixed" ["cell","by"] Ydw:=by
 refine Yal F (F.binds fun _ _ _ _ _ _ us hl=>by obtain⟨_,_,rfl⟩:=len2 hl;rfl) hm (Ys (k:=0) F Yp8 rfl rfl fun cdv A outer s H E hr=>?_)
 exact(Yj (Yq (Ybf (Yc (y3b (Yc (Ybf (Yb 0) (Yc Yl))) (Yb 1))) (Yc Yl))))
abbrev Ygu:Stmt:=top 43
theorem Yr4:FnScope ["cell"] ["cell"] (defScope Ygu):=⟨rfl,rfl,rfl,by decide +kernel,rfl,by decide +kernel,by decide +kernel⟩
def Yew:Ro→Option Out:=(sRet (b2 (lF (dLst (Yg (kD (.str "eithers")) (Yg (kD (.str "sums")) (Yg (kD (.str "ifs")) (Yg (kD (.str "nots")) aNil)))))) (b2 (getC 0) (kD (.int 4)) modI) ixD))
def Ydk:List D→Option D:=runB 1 1 Yew
theorem Yr5(bl:Bl K w mg)  {a:Addr} {fd:FuncData} (F:Fun K "_law_kind" "_law_kind" Ygu a fd) (hm:mg "_law_kind"=some (.ref a)):Okf P w K mg base 1 1 "_law_kind" ["cell"] Ydk:=by
 refine Yal F (F.binds fun _ _ _ _ _ _ us hl=>by obtain⟨_,rfl⟩:=len1 hl;rfl) hm (Ys (k:=0) F Yr4 rfl rfl fun cdv A outer s H E hr=>?_)
 exact(Yj (Yq (Yp (Yc (Yaj (Ybi (Yd Yau (Yd Yau (Yd Yau (Yd Yau Yk))))))) (Yc (Ybf (Yb 0) (Yc Yl))))))
abbrev Yex:Stmt:=top 44
theorem sc_law_so:FnScope ["kind","rule","evening","way"] ["kind","rule","evening"] (defScope Yex):=⟨rfl,rfl,rfl,by decide +kernel,rfl,by decide +kernel,by decide +kernel⟩
theorem cs_law_so_0:CompSc ["kind","rule","evening","way"] (defScope Yex) ["saying","evening"] [none,some 2] (fsc [(".0",.local),("saying",.local),("evening",.free)]):=Yy (by decide +kernel)
theorem cs_law_so_1:CompSc ["kind","rule","evening","way"] (defScope Yex) ["beacon","evening"] [none,some 2] (fsc [(".0",.local),("beacon",.local),("int",.globalImplicit),("evening",.free)]):=Yy (by decide +kernel)
theorem cs_law_so_2:CompSc ["kind","rule","evening","way"] (defScope Yex) ["beacon","evening","way"] [none,some 2,some 3] (fsc [(".0",.local),("beacon",.local),("evening",.free),("way",.free)]):=Yy (by decide +kernel)
def Ygv:Ro→Option D:=(mB (b2 (b2 (getC 1) (b2 (getC 0) (kD (.int 0)) ixD) ixD) (b2 (getC 0) (kD (.int 1)) ixD) (eqM false)))
def Ygw:Ro→Option D:=(cC (Yg (b2 (getC 1) (getC 0) ixD) aNil) intC)
def Ygx:Ro→Option D:=(mB (b2 (b2 (getC 1) (getC 0) ixD) (getC 2) (eqM true)))
@[simp] def Yiv:Ro→Option Out:=(sRet (andV (mB (b2 (b2 (getC 1) (kD (.int 1)) ixD) (kD .non) (isN true))) (mB (b2 (b2 (getC 2) (b2 (getC 1) (kD (.int 1)) ixD) ixD) (getC 3) (eqM false)))))
@[simp] def Yf3:Ro→Option Out:=(sSeq (sIf (b1 (cC (Yg (lF (Yas (b1 (b2 (getC 1) (kD (.int 0)) ixD) Yn) [none,some 2,some 3] (gSet 0) tY (Ygx))) aNil) anyC) truD) (sRet (kD (.bl true))) sNil) Yiv)
@[simp] def Yup:Ro→Option Out:=(sSeq (sSet 3 (mB (b2 (getC 0) (kD (.str "ifs")) (eqM false)))) Yf3)
@[simp] def Yuq:Ro→Option Out:=(sSeq (sIf (b2 (getC 0) (kD (.str "sums")) (eqM false)) (sRet (mB (b2 (mB (b2 (b2 (cC (Yg (lF (Yas (b1 (b2 (getC 1) (kD (.int 0)) ixD) Yn) [none,some 2] (gSet 0) tY (Ygw))) aNil) sumC) (kD (.int 2)) modI) (kD (.int 1)) (eqM false))) (b2 (getC 1) (kD (.int 1)) ixD) (eqM false)))) sNil) Yup)
def Yhk:Ro→Option Out:=(sSeq (sIf (b2 (getC 0) (kD (.str "eithers")) (eqM false)) (sRet (cC (Yg (lF (Yas (b1 (getV 1) Yn) [none,some 2] (gSet 0) tY (Ygv))) aNil) anyC)) sNil) Yuq)
def Yhl:List D→Option D:=runB 3 4 Yhk
theorem Yxo(bl:Bl K w mg)  {a:Addr} {fd:FuncData} (F:Fun K "_law_so" "_law_so" Yex a fd) (hm:mg "_law_so"=some (.ref a)):Okf P w K mg base 1 3 "_law_so" ["kind","rule","evening"] Yhl:=by
 refine Yal F (F.binds fun _ _ _ _ _ _ us hl=>by obtain⟨_,_,_,rfl⟩:=len3 hl;rfl) hm (Ys (k:=0) F sc_law_so rfl rfl fun cdv A outer s H E hr=>?_)
 exact(Yi (Yaf (Ycx hr.units (Yb 0) (Yc Yau)) (Yj (Yq (Yw (Yhb rfl) Yna rfl bl.Any boot_any (Ym (Yc (Yaj (Yah cs_law_so_0 rfl (Yad (Yh 1)) (fun _ _ _ _ _=>(Yx 0 cs_law_so_0.nd)) (fun _ _ _ _ _=>Yam) (fun _ _ _ _ _=>(Ybg hr.units (Yc (Yp (Yb 1) (Yc (Yp (Yb 0) (Yc Yl))))) (Yc (Yp (Yb 0) (Yc Yl))))) (Yag (i:=0) rfl)))) Yr)))) Yz) (Yi (Yaf (Ycx hr.units (Yb 0) (Yc Yau)) (Yj (Yq (Ybg hr.units (Yc (Ybg hr.units (Yc (Ybf (Yc (Yw (Yo7 rfl) Yv2 rfl bl.Sum boot_sum (Ym (Yc (Yaj (Yah cs_law_so_1 rfl (Yad (Yp (Yb 1) (Yc Yl))) (fun _ _ _ _ _=>(Yx 0 cs_law_so_1.nd)) (fun _ _ _ _ _=>Yam) (fun _ _ _ _ _=>(Yat Yj2 Yq7 rfl bl.Int boot_int (Ym (Yc (Yp (Yb 1) (Yb 0))) Yr))) (Yag (i:=0) rfl)))) Yr))) (Yc Yl))) (Yc Yl))) (Yc (Yp (Yb 1) (Yc Yl)))))) Yz) (Yi (Ybr 3 sc_law_so.nd (Ybg hr.units (Yb 0) (Yc Yau))) (Yi (Yaf (Yap (Yc (Yw (Yhb rfl) Yna rfl bl.Any boot_any (Ym (Yc (Yaj (Yah cs_law_so_2 rfl (Yad (Yp (Yb 1) (Yc Yl))) (fun _ _ _ _ _=>(Yx 0 cs_law_so_2.nd)) (fun _ _ _ _ _=>Yam) (fun _ _ _ _ _=>(y03 hr.units (Yc (Yp (Yb 1) (Yb 0))) (Yb 2))) (Yag (i:=0) rfl)))) Yr)))) (Yj (Yq Ya4)) Yz) (Yj (Yq (Ybq (Ytf (Yc (Yp (Yb 1) (Yc Yl))) (Yc Ye3)) (Ycp (Ybg hr.units (Yc (Yp (Yb 2) (Yc (Yp (Yb 1) (Yc Yl))))) (Yb 3))))))))))
abbrev Ygy:Stmt:=top 45
theorem sc_law_bits:FnScope ["cell","many","left","bits","k"] ["cell","many"] (defScope Ygy):=⟨rfl,rfl,rfl,by decide +kernel,rfl,by decide +kernel,by decide +kernel⟩
def Ye7:Ro→Option Out:=(sSeq (sMut 3 (mB (b2 (b2 (getC 2) (kD (.int 2)) modI) (kD (.int 1)) (eqM false))) appD) (sSet 2 (b2 (getC 2) (kD (.int 2)) divI)))
@[simp] def Yqa:Ro→Option Out:=(wF [3] (sRet (getV 3)))
@[simp] def Yqb:Ro→Option Out:=(sSeq (sFor (cF (Yg (getV 1) aNil) rng1) (gSet 4) Ye7) Yqa)
@[simp] def Yqc:Ro→Option Out:=(sSeq (sOwn 3 (dLst aNil)) Yqb)
def Ymt:Ro→Option Out:=(sSeq (sSet 2 (cC (Yg (getV 0) (Yg (kD (.int 1442695040888963407)) aNil)) Ydw)) Yqc)
def Ydl:List D→Option D:=runB 2 5 Ymt
theorem Yr6(bl:Bl K w mg)(ucb:Okf P w K mg base 1 2 "_law_mixed" ["cell","by"] Ydw){a:Addr}{fd:FuncData}(F:Fun K "_law_bits" "_law_bits" Ygy a fd)(hm:mg "_law_bits"=some (.ref a)):Okf P w K mg base 2 2 "_law_bits" ["cell","many"] Ydl:=by
 refine Yal F (F.binds fun _ _ _ _ _ _ us hl=>by obtain⟨_,_,rfl⟩:=len2 hl;rfl) hm (Ys (k:=1) F sc_law_bits rfl rfl fun cdv A outer s H E hr=>?_)
 exact(Yi (Ybr 2 sc_law_bits.nd (Yo ucb hr rfl (Yd (Yh 0) (Yd Yl Yk)) (Ye (Ye (fun _ _ h=>Yt h))))) (Yi (Yb2 3 sc_law_bits.nd (Ybi Yk)) (Yi (Yb7 PassesOwn.never rfl (Ya6 rfl bl.Range (Yd (Yh 1) Yk)) (Yx 4 sc_law_bits.nd) (Yi (Yib 3 (Ybg hr.units (Yc (Ybf (Yb 2) (Yc Yl))) (Yc Yl))) (Yj (Ybr 2 sc_law_bits.nd (Ygj (Yb 2) (Yc Yl)))))) (Yj (Ya5 [3] (Yq (Yh 3)))))))
abbrev Ydx:Stmt:=top 46
theorem Yr7:FnScope ["found","due"] ["found","due"] (defScope Ydx):=⟨rfl,rfl,rfl,by decide +kernel,rfl,by decide +kernel,by decide +kernel⟩
theorem cs_law_same_0:CompSc ["found","due"] (defScope Ydx) ["k","found","due"] [none,some 0,some 1] (fsc [(".0",.local),("k",.local),("_law_same",.globalImplicit),("due",.free),("found",.free)]):=Yy (by decide +kernel)
def Yn3(rec:List D→Option D):Ro→Option D:=(cC (Yg (b2 (getC 1) (getC 0) ixD) (Yg (b2 (getC 2) (getC 0) ixD) aNil)) rec)
def Yur(rec:List D→Option D):Ro→Option Out:=(sSeq (sIf (b1 (mB (b1 (getC 1) (isiD "tuple"))) truD) (sSeq (sIf (orT (notT (b1 (mB (b1 (getC 0) (isiD "tuple"))) truD)) (b2 (cC (Yg (getC 0) aNil) lenC) (cC (Yg (getC 1) aNil) lenC) (eqM true))) (sRet (kD (.bl false))) sNil) (sRet (cC (Yg (lF (Yas (cF (Yg (cC (Yg (getC 1) aNil) lenC) aNil) rng1) [none,some 0,some 1] (gSet 0) tY (Yn3 rec))) aNil) allC))) sNil) (sSeq (sIf (b2 (getC 1) (kD .non) (isN false)) (sRet (mB (b2 (getC 0) (kD .non) (isN false)))) sNil) (sSeq (sIf (b1 (mB (b1 (getC 1) (isiD "bool"))) truD) (sRet (andV (mB (b1 (getC 0) (isiD "bool"))) (mB (b2 (getC 0) (getC 1) (eqM false))))) sNil) (sSeq (sIf (b1 (mB (b1 (getC 1) (isiD "str"))) truD) (sRet (andV (mB (b1 (getC 0) (isiD "str"))) (mB (b2 (getC 0) (getC 1) (eqM false))))) sNil) (sRet (andV (mB (b1 (getC 0) (isiD "int"))) (andV (notV (mB (b1 (getC 0) (isiD "bool")))) (mB (b2 (getC 0) (getC 1) (eqM false))))))))))
def Ydy:Nat→List D→Option D
 | 0=>fun _=>none
 | k+1=>runB 2 2 (Yur (Ydy k))
def Yey:List D→Option D:=Ydy 12
theorem Yqd(bl:Bl K w mg)  {k j:Nat} (rc:Okf P w K mg base k 2 "_law_same" ["found","due"] (Ydy j)) (hk:0≤k) {a:Addr} {fd:FuncData} (F:Fun K "_law_same" "_law_same" Ydx a fd) (hm:mg "_law_same"=some (.ref a)):Okf P w K mg base (k+1) 2 "_law_same" ["found","due"] (Ydy (j+1)):=by
 refine Yal F (F.binds fun _ _ _ _ _ _ us hl=>by obtain⟨_,_,rfl⟩:=len2 hl;rfl) hm (Ys (k:=k) F Yr7 rfl rfl fun cdv A outer s H E hr=>?_)
 exact(Yi (Yaf (Yap (Yc (Yav (Yb 1) rfl rfl bl.Isinstance bl.Tuple boot_tuple (Ycw)))) (Yi (Yaf (Ydr (Ydq (Ybh (Yap (Yc (Yav (Yb 0) rfl rfl bl.Isinstance bl.Tuple boot_tuple (Ycw))))) (Yc6 (Yhg hr.units (Yc (Yw Yu Yan rfl bl.Len PySem.boot_len (Ym (Yb 0) Yr))) (Yc (Yw Yu Yan rfl bl.Len PySem.boot_len (Ym (Yb 1) Yr))))))) (Yj (Yq Ya4)) Yz) (Yj (Yq (Yw (Yeq rfl) Yh7 rfl bl.All boot_all (Ym (Yc (Yaj (Yah cs_law_same_0 rfl (Ya6 rfl bl.Range (Yd (Yw Yu Yan rfl bl.Len PySem.boot_len (Ym (Yb 1) Yr)) Yk)) (fun _ _ _ _ _=>(Yx 0 cs_law_same_0.nd)) (fun _ _ _ _ _=>Yam) (fun _ _ _ _ _=>(Yo rc hr rfl (Yd (Yp (Yb 1) (Yb 0)) (Yd (Yp (Yb 2) (Yb 0)) Yk)) (Ye (Ye (fun _ _ h=>Yt h))))) (Yag (i:=0) rfl)))) Yr))))) Yz) (Yi (Yaf (y3d (Yb 1) (Yc Ye3)) (Yj (Yq (Yxa (Yb 0) (Yc Ye3)))) Yz) (Yi (Yaf (Yap (Yc (Yav (Yb 1) rfl rfl bl.Isinstance bl.Bool boot_bool (Yd5)))) (Yj (Yq (Ybq (Yav (Yb 0) rfl rfl bl.Isinstance bl.Bool boot_bool (Yd5)) (Ycp (Ybg hr.units (Yb 0) (Yb 1)))))) Yz) (Yi (Yaf (Yap (Yc (Yav (Yb 1) rfl rfl bl.Isinstance bl.Str boot_str (Ym8)))) (Yj (Yq (Ybq (Yav (Yb 0) rfl rfl bl.Isinstance bl.Str boot_str (Ym8)) (Ycp (Ybg hr.units (Yb 0) (Yb 1)))))) Yz) (Yj (Yq (Ybq (Yav (Yb 0) rfl rfl bl.Isinstance bl.Int boot_int (Ym7)) (Ybq (Ynl (Yav (Yb 0) rfl rfl bl.Isinstance bl.Bool boot_bool (Yd5))) (Ycp (Ybg hr.units (Yb 0) (Yb 1)))))))))))
theorem Yr8(bl:Bl K w mg)  {a:Addr} {fd:FuncData} (F:Fun K "_law_same" "_law_same" Ydx a fd) (hm:mg "_law_same"=some (.ref a)):Okf P w K mg base 12 2 "_law_same" ["found","due"] Yey:=by
 have all:∀j,Okf P w K mg base (0+j) 2 "_law_same" ["found","due"] (Ydy j):=fun j=>by
  induction j with
  | zero=>exact Ysz F (F.binds fun _ _ _ _ _ _ us hl=>by obtain⟨_,_,rfl⟩:=len2 hl;rfl) hm rfl
  | succ j ih=>exact Yqd bl  ih (Nat.le_add_right _ _) F hm
 exact all 12
abbrev Yez:Stmt:=top 47
theorem sc_law_all:FnScope ["length","evenings","k"] ["length"] (defScope Yez):=⟨rfl,rfl,rfl,by decide +kernel,rfl,by decide +kernel,by decide +kernel⟩
theorem cs_law_all_0:CompSc ["length","evenings","k"] (defScope Yez) ["evening"] [none] (fsc [(".0",.local),("evening",.local)]):=Yy (by decide +kernel)
theorem cs_law_all_1:CompSc ["length","evenings","k"] (defScope Yez) ["evening"] [none] (fsc [(".0",.local),("evening",.local)]):=Yy (by decide +kernel)
def Yqe:Ro→Option D:=(b2 (getC 0) (dTup (Yg (kD (.bl false)) aNil)) Yro)
def Yqf:Ro→Option D:=(b2 (getC 0) (dTup (Yg (kD (.bl true)) aNil)) Yro)
def Yqg:Ro→Option Out:=(wF [1] (sOwn 1 (b2 (lF (Yas (b1 (getV 1) Yn) [none] (gSet 0) tY (Yqe))) (lF (Yas (b1 (getV 1) Yn) [none] (gSet 0) tY (Yqf))) catD)))
@[simp] def Yr9:Ro→Option Out:=(wF [1] (sRet (getV 1)))
@[simp] def Ysa:Ro→Option Out:=(sSeq (sFor (cF (Yg (getV 0) aNil) rng1) (gSet 2) Yqg) Yr9)
def Yxp:Ro→Option Out:=(sSeq (sOwn 1 (dLst (Yg (dTup aNil) aNil))) Ysa)
def Ycd:List D→Option D:=runB 1 3 Yxp
theorem Yus(bl:Bl K w mg)  {a:Addr} {fd:FuncData} (F:Fun K "_law_all" "_law_all" Yez a fd) (hm:mg "_law_all"=some (.ref a)):Okf P w K mg base 1 1 "_law_all" ["length"] Ycd:=by
 refine Yal F (F.binds fun _ _ _ _ _ _ us hl=>by obtain⟨_,rfl⟩:=len1 hl;rfl) hm (Ys (k:=0) F sc_law_all rfl rfl fun cdv A outer s H E hr=>?_)
 exact(Yi (Yb2 1 sc_law_all.nd (Ybi (Yd (Yb1 Yk) Yk))) (Yi (Yb7 PassesOwn.never rfl (Ya6 rfl bl.Range (Yd (Yh 0) Yk)) (Yx 2 sc_law_all.nd) (Yj (Ya5 [1] (Yb2 1 sc_law_all.nd (Ykw (Yc (Yaj (Yah cs_law_all_0 rfl (Yad (Yh 1)) (fun _ _ _ _ _=>(Yx 0 cs_law_all_0.nd)) (fun _ _ _ _ _=>Yam) (fun _ _ _ _ _=>(Yjv (Yb 0) (Yc (Yb1 (Yd Ya4 Yk))))) (Yag (i:=0) rfl)))) (Yc (Yaj (Yah cs_law_all_1 rfl (Yad (Yh 1)) (fun _ _ _ _ _=>(Yx 0 cs_law_all_1.nd)) (fun _ _ _ _ _=>Yam) (fun _ _ _ _ _=>(Yjv (Yb 0) (Yc (Yb1 (Yd Ya4 Yk))))) (Yag (i:=0) rfl))))))))) (Yj (Ya5 [1] (Yq (Yh 1))))))
abbrev Ycz:Stmt:=top 48
theorem sc_law_table:FnScope ["script","length","every","bits","some","table","k","cell"] ["script","length"] (defScope Ycz):=⟨rfl,rfl,rfl,by decide +kernel,rfl,by decide +kernel,by decide +kernel⟩
theorem cs_law_table_0:CompSc ["script","length","every","bits","some","table","k","cell"] (defScope Ycz) ["k","every","bits"] [none,some 2,some 3] (fsc [(".0",.local),("k",.local),("bits",.free),("every",.free)]):=Yy (by decide +kernel)
theorem cs_law_table_1:CompSc ["script","length","every","bits","some","table","k","cell"] (defScope Ycz) ["k","table"] [none,some 5] (fsc [(".0",.local),("k",.local),("list",.globalImplicit),("table",.free)]):=Yy (by decide +kernel)
def Yct:Ro→Option Bool:=(b1 (b2 (getC 2) (getC 0) ixD) truD)
def Ycu:Ro→Option D:=(b2 (getC 1) (getC 0) ixD)
def Ybv:Ro→Option Out:=(Yt3 5 (b2 (cC (Yg (getV 0) (Yg (b2 (kD (.int 2)) (getC 6) addI) aNil)) Yab) (b2 (getC 6) (kD (.int 1)) addI) modI) (b2 (getC 4) (getC 6) ixD) insD)
def Ya3:Ro→Option Out:=(sIf (andT (b2 (cC (Yg (getC 4) aNil) lenC) (kD (.int 0)) gtI) (b2 (b2 (getC 7) (kD (.int 9)) modI) (kD (.int 1)) (eqM false))) (Yt3 5 (b2 (b2 (getC 7) (kD (.int 9)) divI) (b2 (cC (Yg (getC 5) aNil) lenC) (kD (.int 1)) addI) modI) (b2 (getC 4) (b2 (b2 (getC 7) (kD (.int 576)) divI) (cC (Yg (getC 4) aNil) lenC) modI) ixD) insD) sNil)
def Ybw:Ro→Option D:=(b2 (lF (dLst (Yg (lF (cF (Yg (b2 (getC 1) (getC 0) ixD) aNil) Yt0)) (Yg (b2 (getC 1) (getC 0) ixD) aNil)))) (b2 (getC 0) (kD (.int 2)) modI) ixD)
@[simp] def Yhm:Ro→Option Out:=(wF [5] (sRet (lF (Yas (cF (Yg (cC (Yg (getC 5) aNil) lenC) aNil) rng1) [none,some 5] (gSet 0) tY (Ybw)))))
@[simp] def Yhn:Ro→Option Out:=(sSeq (sFor (b1 (lF (slF (getC 0) (some (kD (.int 18))) (some (kD (.int 63))))) Yn) (gSet 7) Ya3) Yhm)
@[simp] def Yho:Ro→Option Out:=(sSeq (sFor (cF (Yg (cC (Yg (getC 4) aNil) lenC) aNil) rng1) (gSet 6) Ybv) Yhn)
@[simp] def Yhp:Ro→Option Out:=(sSeq (sOwn 5 (dLst aNil)) Yho)
@[simp] def Yhq:Ro→Option Out:=(sSeq (sIf (b2 (b2 (b2 (cC (Yg (getV 0) (Yg (kD (.int 0)) aNil)) Yab) (kD (.int 20)) divI) (kD (.int 2)) modI) (kD (.int 1)) (eqM false)) (sOwn 4 (slF (getC 4) none (some (b2 (b2 (cC (Yg (getV 0) (Yg (kD (.int 0)) aNil)) Yab) (kD (.int 40)) divI) (kD (.int 5)) modI)))) sNil) Yhp)
@[simp] def Yhr:Ro→Option Out:=(sSeq (sOwn 4 (Yas (cF (Yg (cC (Yg (getC 2) aNil) lenC) aNil) rng1) [none,some 2,some 3] (gSet 0) (Yct) (Ycu))) Yhq)
@[simp] def Yhs:Ro→Option Out:=(sSeq (sSet 3 (cC (Yg (cC (Yg (getV 0) (Yg (kD (.int 1)) aNil)) Yab) (Yg (cC (Yg (getC 2) aNil) lenC) aNil)) Ydl)) Yhr)
def Ylk:Ro→Option Out:=(sSeq (sSet 2 (cC (Yg (getV 1) aNil) Ycd)) Yhs)
def Yco:List D→Option D:=runB 2 8 Ylk
theorem Yqh(bl:Bl K w mg)(vh:Okf P w K mg base 1 1 "_law_all" ["length"] Ycd)(ub:Okf P w K mg base 1 2 "_law_cell" ["script","k"] Yab)(udd:Okf P w K mg base 2 2 "_law_bits" ["cell","many"] Ydl){a:Addr}{fd:FuncData}(F:Fun K "_law_table" "_law_table" Ycz a fd)(hm:mg "_law_table"=some (.ref a)):Okf P w K mg base 3 2 "_law_table" ["script","length"] Yco:=by
 refine Yal F (F.binds fun _ _ _ _ _ _ us hl=>by obtain⟨_,_,rfl⟩:=len2 hl;rfl) hm (Ys (k:=2) F sc_law_table rfl rfl fun cdv A outer s H E hr=>?_)
 exact(Yi (Ybr 2 sc_law_table.nd (Yo vh hr rfl (Yd (Yh 1) Yk) (Ye (fun _ _ h=>Yt h)))) (Yi (Ybr 3 sc_law_table.nd (Yo udd hr rfl (Yd (Yo ub hr rfl (Yd (Yh 0) (Yd Yl Yk)) (Ye (Ye (fun _ _ h=>Yt h)))) (Yd (Yw Yu Yan rfl bl.Len PySem.boot_len (Ym (Yb 2) Yr)) Yk)) (Ye (Ye (fun _ _ h=>Yt h))))) (Yi (Yd6 4 sc_law_table.nd cs_law_table_0 rfl (Ya6 rfl bl.Range (Yd (Yw Yu Yan rfl bl.Len PySem.boot_len (Ym (Yb 2) Yr)) Yk)) (fun _ _ _ _ _=>(Yx 0 cs_law_table_0.nd)) (fun _ _ _ _ _=>(Yhh (Yap (Yc (Yp (Yb 2) (Yb 0)))))) (fun _ _ _ _ _=>(Yp (Yb 1) (Yb 0))) (Yag (i:=0) rfl)) (Yi (Yaf (Ycx hr.units (Yc (Ybf (Yc (Ygj (Yc (Yo ub hr rfl (Yd (Yh 0) (Yd Yl Yk)) (Ye (Ye (fun _ _ h=>Yt h))))) (Yc Yl))) (Yc Yl))) (Yc Yl)) (Yj (Yb2 4 sc_law_table.nd (Ykv (fl:=none) (fh:=(some (b2 (b2 (cC (Yg (getV 0) (Yg (kD (.int 0)) aNil)) Yab) (kD (.int 40)) divI) (kD (.int 5)) modI))) (Yb 4) y05 (Yth (Yc (Ybf (Yc (Ygj (Yc (Yo ub hr rfl (Yd (Yh 0) (Yd Yl Yk)) (Ye (Ye (fun _ _ h=>Yt h))))) (Yc Yl))) (Yc Yl))))))) Yz) (Yi (Yb2 5 sc_law_table.nd (Ybi Yk)) (Yi (Yb7 PassesOwn.never rfl (Ya6 rfl bl.Range (Yd (Yw Yu Yan rfl bl.Len PySem.boot_len (Ym (Yb 4) Yr)) Yk)) (Yx 6 sc_law_table.nd) (Yj (Ymr 5 (Ybf (Yc (Yo ub hr rfl (Yd (Yh 0) (Yd (Yic (Yc Yl) (Yb 6)) Yk)) (Ye (Ye (fun _ _ h=>Yt h))))) (Yc (Yic (Yb 6) (Yc Yl)))) (Yp (Yb 4) (Yb 6))))) (Yi (Yb7 PassesOwn.never rfl (Yad (Yaj (Ykv (fl:=(some (kD (.int 18)))) (fh:=(some (kD (.int 63)))) (Yb 0) (Yth (Yc Yl)) (Yth (Yc Yl))))) (Yx 7 sc_law_table.nd) (Yj (Yaf (Ydr (Yrq (Ymp (Yc (Yw Yu Yan rfl bl.Len PySem.boot_len (Ym (Yb 4) Yr))) (Yc Yl)) (Ynk (Ycx hr.units (Yc (Ybf (Yb 7) (Yc Yl))) (Yc Yl))))) (Yj (Ymr 5 (Ybf (Yc (Ygj (Yb 7) (Yc Yl))) (Yc (Yic (Yc (Yw Yu Yan rfl bl.Len PySem.boot_len (Ym (Yb 5) Yr))) (Yc Yl)))) (Yp (Yb 4) (Yc (Ybf (Yc (Ygj (Yb 7) (Yc Yl))) (Yc (Yw Yu Yan rfl bl.Len PySem.boot_len (Ym (Yb 4) Yr)))))))) Yz))) (Yj (Ya5 [5] (Yq (Yaj (Yah cs_law_table_1 rfl (Ya6 rfl bl.Range (Yd (Yw Yu Yan rfl bl.Len PySem.boot_len (Ym (Yb 5) Yr)) Yk)) (fun _ _ _ _ _=>(Yx 0 cs_law_table_1.nd)) (fun _ _ _ _ _=>Yam) (fun _ _ _ _ _=>(Yp (Yc (Yaj (Ybi (Yd (Yaj (Ymq Yiy Ysy rfl bl.List boot_list (Ym (Yc (Yp (Yb 1) (Yb 0))) Yr))) (Yd (Yp (Yb 1) (Yb 0)) Yk))))) (Yc (Ybf (Yb 0) (Yc Yl))))) (Yag (i:=0) rfl)))))))))))))
abbrev Ye8:Stmt:=top 50
theorem Yn4:FnScope ["thing","length"] ["thing","length"] (defScope Ye8):=⟨rfl,rfl,rfl,by decide +kernel,rfl,by decide +kernel,by decide +kernel⟩
def Yi4:Ro→Option Out:=(sRet (andV (mB (b1 (getC 0) (isiD "int"))) (andV (notV (mB (b1 (getC 0) (isiD "bool")))) (andV (mB (b2 (kD (.int 0)) (getC 0) leI)) (mB (b2 (getC 0) (getC 1) ltI))))))
def Ya2:List D→Option D:=runB 2 2 Yi4
theorem Yn5(bl:Bl K w mg)  {a:Addr} {fd:FuncData} (F:Fun K "_law_beacon" "_law_beacon" Ye8 a fd) (hm:mg "_law_beacon"=some (.ref a)):Okf P w K mg base 1 2 "_law_beacon" ["thing","length"] Ya2:=by
 refine Yal F (F.binds fun _ _ _ _ _ _ us hl=>by obtain⟨_,_,rfl⟩:=len2 hl;rfl) hm (Ys (k:=0) F Yn4 rfl rfl fun cdv A outer s H E hr=>?_)
 exact(Yj (Yq (Ybq (Yav (Yb 0) rfl rfl bl.Isinstance bl.Int boot_int (Ym7)) (Ybq (Ynl (Yav (Yb 0) rfl rfl bl.Isinstance bl.Bool boot_bool (Yd5))) (Ybq (y6n (Yc Yl) (Yb 0)) (Ycp (y6m (Yb 0) (Yb 1))))))))
abbrev Ye9:Stmt:=top 49
theorem sc_law_rising:FnScope ["beacons","length","k"] ["beacons","length"] (defScope Ye9):=⟨rfl,rfl,rfl,by decide +kernel,rfl,by decide +kernel,by decide +kernel⟩
def Yce:Ro→Option Out:=(sIf (orT (notT (b1 (cC (Yg (b2 (getC 0) (getC 2) ixD) (Yg (getV 1) aNil)) Ya2) truD)) (andT (b2 (getC 2) (kD (.int 0)) gtI) (b2 (b2 (getC 0) (b2 (getC 2) (kD (.int 1)) subI) ixD) (b2 (getC 0) (getC 2) ixD) geI))) (sRet (kD (.bl false))) sNil)
@[simp] def Yma:Ro→Option Out:=(sRet (kD (.bl true)))
@[simp] def Ymb:Ro→Option Out:=(sSeq (sFor (cF (Yg (cC (Yg (getC 0) aNil) lenC) aNil) rng1) (gSet 2) Yce) Yma)
def Yi5:Ro→Option Out:=(sSeq (sIf (notT (b1 (mB (b1 (getC 0) (isiD "tuple"))) truD)) (sRet (kD (.bl false))) sNil) Ymb)
def Yc0:List D→Option D:=runB 2 3 Yi5
theorem Yn6(bl:Bl K w mg)(uc:Okf P w K mg base 1 2 "_law_beacon" ["thing","length"] Ya2){a:Addr}{fd:FuncData}(F:Fun K "_law_rising" "_law_rising" Ye9 a fd)(hm:mg "_law_rising"=some (.ref a)):Okf P w K mg base 2 2 "_law_rising" ["beacons","length"] Yc0:=by
 refine Yal F (F.binds fun _ _ _ _ _ _ us hl=>by obtain⟨_,_,rfl⟩:=len2 hl;rfl) hm (Ys (k:=1) F sc_law_rising rfl rfl fun cdv A outer s H E hr=>?_)
 exact(Yi (Yaf (Ybh (Yap (Yc (Yav (Yb 0) rfl rfl bl.Isinstance bl.Tuple boot_tuple (Ycw))))) (Yj (Yq Ya4)) Yz) (Yi (Yb7 PassesOwn.never rfl (Ya6 rfl bl.Range (Yd (Yw Yu Yan rfl bl.Len PySem.boot_len (Ym (Yb 0) Yr)) Yk)) (Yx 2 sc_law_rising.nd) (Yj (Yaf (Ydr (Ydq (Ybh (Yap (Yc (Yo uc hr rfl (Yd (Yp (Yb 0) (Yb 2)) (Yd (Yh 1) Yk)) (Ye (Ye (fun _ _ h=>Yt h))))))) (Yc6 (Ydr (Yrq (Ymp (Yb 2) (Yc Yl)) (Ynk (y6o (Yc (Yp (Yb 0) (Yc (Yw8 (Yb 2) (Yc Yl))))) (Yc (Yp (Yb 0) (Yb 2)))))))))) (Yj (Yq Ya4)) Yz))) (Yj (Yq Ya4))))
abbrev Yfa:Stmt:=top 51
theorem Yn7:FnScope ["thing","length"] ["thing","length"] (defScope Yfa):=⟨rfl,rfl,rfl,by decide +kernel,rfl,by decide +kernel,by decide +kernel⟩
def Yi6:Ro→Option Out:=(sSeq (sIf (orT (notT (b1 (mB (b1 (getC 0) (isiD "tuple"))) truD)) (b2 (cC (Yg (getC 0) aNil) lenC) (kD (.int 2)) (eqM true))) (sRet (kD (.bl false))) sNil) (sRet (andV (cC (Yg (b2 (getC 0) (kD (.int 0)) ixD) (Yg (getV 1) aNil)) Ya2) (mB (b1 (b2 (getC 0) (kD (.int 1)) ixD) (isiD "bool"))))))
def Yc1:List D→Option D:=runB 2 2 Yi6
theorem Yn8(bl:Bl K w mg)(uc:Okf P w K mg base 1 2 "_law_beacon" ["thing","length"] Ya2){a:Addr}{fd:FuncData}(F:Fun K "_law_saying" "_law_saying" Yfa a fd)(hm:mg "_law_saying"=some (.ref a)):Okf P w K mg base 2 2 "_law_saying" ["thing","length"] Yc1:=by
 refine Yal F (F.binds fun _ _ _ _ _ _ us hl=>by obtain⟨_,_,rfl⟩:=len2 hl;rfl) hm (Ys (k:=1) F Yn7 rfl rfl fun cdv A outer s H E hr=>?_)
 exact(Yi (Yaf (Ydr (Ydq (Ybh (Yap (Yc (Yav (Yb 0) rfl rfl bl.Isinstance bl.Tuple boot_tuple (Ycw))))) (Yc6 (Yhg hr.units (Yc (Yw Yu Yan rfl bl.Len PySem.boot_len (Ym (Yb 0) Yr))) (Yc Yl))))) (Yj (Yq Ya4)) Yz) (Yj (Yq (Ybq (Yo uc hr rfl (Yd (Yp (Yb 0) (Yc Yl)) (Yd (Yh 1) Yk)) (Ye (Ye (fun _ _ h=>Yt h)))) (Ycp (Yav (Yc (Yp (Yb 0) (Yc Yl))) rfl rfl bl.Isinstance bl.Bool boot_bool (Yd5)))))))
abbrev Ydi:Stmt:=top 52
theorem Yn9:FnScope ["kind","rule","length"] ["kind","rule","length"] (defScope Ydi):=⟨rfl,rfl,rfl,by decide +kernel,rfl,by decide +kernel,by decide +kernel⟩
theorem cs_law_formed_0:CompSc ["kind","rule","length"] (defScope Ydi) ["saying","length"] [none,some 2] (fsc [(".0",.local),("saying",.local),("_law_saying",.globalImplicit),("length",.free)]):=Yy (by decide +kernel)
def Ydz:Ro→Option D:=(cC (Yg (getV 0) (Yg (getV 1) aNil)) Yc1)
@[simp] def Ymc:Ro→Option Out:=(sRet (orV (mB (b2 (b2 (getC 1) (kD (.int 1)) ixD) (kD .non) (isN false))) (cC (Yg (b2 (getC 1) (kD (.int 1)) ixD) (Yg (getV 2) aNil)) Ya2)))
@[simp] def Ymd:Ro→Option Out:=(sSeq (sIf (b2 (getC 0) (kD (.str "sums")) (eqM false)) (sRet (mB (b1 (b2 (getC 1) (kD (.int 1)) ixD) (isiD "bool")))) sNil) Ymc)
@[simp] def Yme:Ro→Option Out:=(sSeq (sIf (orT (b2 (cC (Yg (getC 1) aNil) lenC) (kD (.int 2)) (eqM true)) (notT (b1 (cC (Yg (b2 (getC 1) (kD (.int 0)) ixD) (Yg (getV 2) aNil)) Yc0) truD))) (sRet (kD (.bl false))) sNil) Ymd)
@[simp] def Ymf:Ro→Option Out:=(sSeq (sIf (b2 (getC 0) (kD (.str "eithers")) (eqM false)) (sSeq (sIf (orT (b2 (cC (Yg (getC 1) aNil) lenC) (kD (.int 2)) gtI) (notT (b1 (cC (Yg (lF (Yas (b1 (getV 1) Yn) [none,some 2] (gSet 0) tY (Ydz))) aNil) allC) truD))) (sRet (kD (.bl false))) sNil) (sRet (mB (b2 (lF (cF (Yg (getC 1) aNil) Yt0)) (lF (Yfg (getC 1))) (eqM false))))) sNil) Yme)
def Yc2:Ro→Option Out:=(sSeq (sIf (notT (b1 (mB (b1 (getC 1) (isiD "tuple"))) truD)) (sRet (kD (.bl false))) sNil) Ymf)
def Yc3:List D→Option D:=runB 3 3 Yc2
theorem Yoa(bl:Bl K w mg)(ua7:Okf P w K mg base 2 2 "_law_saying" ["thing","length"] Yc1)(ua8:Okf P w K mg base 2 2 "_law_rising" ["beacons","length"] Yc0)(uc:Okf P w K mg base 1 2 "_law_beacon" ["thing","length"] Ya2){a:Addr}{fd:FuncData}(F:Fun K "_law_formed" "_law_formed" Ydi a fd)(hm:mg "_law_formed"=some (.ref a)):Okf P w K mg base 3 3 "_law_formed" ["kind","rule","length"] Yc3:=by
 refine Yal F (F.binds fun _ _ _ _ _ _ us hl=>by obtain⟨_,_,_,rfl⟩:=len3 hl;rfl) hm (Ys (k:=2) F Yn9 rfl rfl fun cdv A outer s H E hr=>?_)
 exact(Yi (Yaf (Ybh (Yap (Yc (Yav (Yb 1) rfl rfl bl.Isinstance bl.Tuple boot_tuple (Ycw))))) (Yj (Yq Ya4)) Yz) (Yi (Yaf (Ycx hr.units (Yb 0) (Yc Yau)) (Yi (Yaf (Ydr (Ydq (Ymp (Yc (Yw Yu Yan rfl bl.Len PySem.boot_len (Ym (Yb 1) Yr))) (Yc Yl)) (Yc6 (Ybh (Yap (Yc (Yw (Yeq rfl) Yh7 rfl bl.All boot_all (Ym (Yc (Yaj (Yah cs_law_formed_0 rfl (Yad (Yh 1)) (fun _ _ _ _ _=>(Yx 0 cs_law_formed_0.nd)) (fun _ _ _ _ _=>Yam) (fun _ _ _ _ _=>(Yo ua7 hr rfl (Yd (Yh 0) (Yd (Yh 1) Yk)) (Ye (Ye (fun _ _ h=>Yt h))))) (Yag (i:=0) rfl)))) Yr)))))))) (Yj (Yq Ya4)) Yz) (Yj (Yq (Ybg hr.units (Yc (Yaj (Ymq Yiy Ysy rfl bl.List boot_list (Ym (Yb 1) Yr)))) (Yc (Yaj (Ynr rfl hr.units rfl bl.Sorted rfl bl.Set (Yb 1)))))))) Yz) (Yi (Yaf (Ydr (Ydq (Yhg hr.units (Yc (Yw Yu Yan rfl bl.Len PySem.boot_len (Ym (Yb 1) Yr))) (Yc Yl)) (Yc6 (Ybh (Yap (Yc (Yo ua8 hr rfl (Yd (Yp (Yb 1) (Yc Yl)) (Yd (Yh 2) Yk)) (Ye (Ye (fun _ _ h=>Yt h)))))))))) (Yj (Yq Ya4)) Yz) (Yi (Yaf (Ycx hr.units (Yb 0) (Yc Yau)) (Yj (Yq (Yav (Yc (Yp (Yb 1) (Yc Yl))) rfl rfl bl.Isinstance bl.Bool boot_bool (Yd5)))) Yz) (Yj (Yq (y04 (Yxa (Yc (Yp (Yb 1) (Yc Yl))) (Yc Ye3)) (Yw9 (Yo uc hr rfl (Yd (Yp (Yb 1) (Yc Yl)) (Yd (Yh 2) Yk)) (Ye (Ye (fun _ _ h=>Yt h))))))))))))
abbrev Yd0:Stmt:=top 53
theorem sc_law_book:FnScope ["found","kind","length","table","evening"] ["found","kind","length","table"] (defScope Yd0):=⟨rfl,rfl,rfl,by decide +kernel,rfl,by decide +kernel,by decide +kernel⟩
theorem cs_law_book_0:CompSc ["found","kind","length","table","evening"] (defScope Yd0) ["rule","kind","length"] [none,some 1,some 2] (fsc [(".0",.local),("rule",.local),("_law_formed",.globalImplicit),("kind",.free),("length",.free)]):=Yy (by decide +kernel)
theorem cs_law_book_1:CompSc ["found","kind","length","table","evening"] (defScope Yd0) ["rule","kind","evening"] [none,some 1,some 4] (fsc [(".0",.local),("rule",.local),("_law_so",.globalImplicit),("evening",.free),("kind",.free)]):=Yy (by decide +kernel)
def Ydj:Ro→Option D:=(cC (Yg (getV 1) (Yg (getV 0) (Yg (getV 2) aNil))) Yc3)
def Ycf:Ro→Option D:=(cC (Yg (getV 1) (Yg (getV 0) (Yg (getV 2) aNil))) Yhl)
def Ycg:Ro→Option Out:=(sIf (b2 (cC (Yg (lF (Yas (b1 (b2 (getC 0) (kD (.int 1)) ixD) Yn) [none,some 1,some 4] (gSet 0) tY (Ycf))) aNil) allC) (mB (b2 (getC 4) (getC 3) (inM false))) (eqM true)) (sRet (kD (.bl false))) sNil)
@[simp] def Yi7:Ro→Option Out:=(sRet (kD (.bl true)))
@[simp] def Yi8:Ro→Option Out:=(sSeq (sFor (b1 (cC (Yg (getV 2) aNil) Ycd) Yn) (gSet 4) Ycg) Yi7)
@[simp] def Yi9:Ro→Option Out:=(sSeq (sIf (orT (b2 (cC (Yg (b2 (getC 0) (kD (.int 1)) ixD) aNil) lenC) (kD (.int 60)) gtI) (notT (b1 (cC (Yg (lF (Yas (b1 (b2 (getC 0) (kD (.int 1)) ixD) Yn) [none,some 1,some 2] (gSet 0) tY (Ydj))) aNil) allC) truD))) (sRet (kD (.bl false))) sNil) Yi8)
def Ymu:Ro→Option Out:=(sSeq (sIf (orT (notT (b1 (mB (b1 (getC 0) (isiD "tuple"))) truD)) (orT (b2 (cC (Yg (getC 0) aNil) lenC) (kD (.int 2)) (eqM true)) (orT (b2 (b2 (getC 0) (kD (.int 0)) ixD) (getC 1) (eqM true)) (notT (b1 (mB (b1 (b2 (getC 0) (kD (.int 1)) ixD) (isiD "tuple"))) truD))))) (sRet (kD (.bl false))) sNil) Yi9)
def Ydm:List D→Option D:=runB 4 5 Ymu
theorem Ysb(bl:Bl K w mg)(ua9:Okf P w K mg base 3 3 "_law_formed" ["kind","rule","length"] Yc3)(vh:Okf P w K mg base 1 1 "_law_all" ["length"] Ycd)(ueu:Okf P w K mg base 1 3 "_law_so" ["kind","rule","evening"] Yhl){a:Addr}{fd:FuncData}(F:Fun K "_law_book" "_law_book" Yd0 a fd)(hm:mg "_law_book"=some (.ref a)):Okf P w K mg base 4 4 "_law_book" ["found","kind","length","table"] Ydm:=by
 refine Yal F (F.binds fun _ _ _ _ _ _ us hl=>by obtain⟨_,_,_,_,rfl⟩:=len4 hl;rfl) hm (Ys (k:=3) F sc_law_book rfl rfl fun cdv A outer s H E hr=>?_)
 exact(Yi (Yaf (Ydr (Ydq (Ybh (Yap (Yc (Yav (Yb 0) rfl rfl bl.Isinstance bl.Tuple boot_tuple (Ycw))))) (Ydq (Yhg hr.units (Yc (Yw Yu Yan rfl bl.Len PySem.boot_len (Ym (Yb 0) Yr))) (Yc Yl)) (Ydq (Yhg hr.units (Yc (Yp (Yb 0) (Yc Yl))) (Yb 1)) (Yc6 (Ybh (Yap (Yc (Yav (Yc (Yp (Yb 0) (Yc Yl))) rfl rfl bl.Isinstance bl.Tuple boot_tuple (Ycw)))))))))) (Yj (Yq Ya4)) Yz) (Yi (Yaf (Ydr (Ydq (Ymp (Yc (Yw Yu Yan rfl bl.Len PySem.boot_len (Ym (Yc (Yp (Yb 0) (Yc Yl))) Yr))) (Yc Yl)) (Yc6 (Ybh (Yap (Yc (Yw (Yeq rfl) Yh7 rfl bl.All boot_all (Ym (Yc (Yaj (Yah cs_law_book_0 rfl (Yad (Yp (Yb 0) (Yc Yl))) (fun _ _ _ _ _=>(Yx 0 cs_law_book_0.nd)) (fun _ _ _ _ _=>Yam) (fun _ _ _ _ _=>(Yo ua9 hr rfl (Yd (Yh 1) (Yd (Yh 0) (Yd (Yh 2) Yk))) (Ye (Ye (Ye (fun _ _ h=>Yt h)))))) (Yag (i:=0) rfl)))) Yr)))))))) (Yj (Yq Ya4)) Yz) (Yi (Yb7 PassesOwn.never rfl (Yad (Yo vh hr rfl (Yd (Yh 2) Yk) (Ye (fun _ _ h=>Yt h)))) (Yx 4 sc_law_book.nd) (Yj (Yaf (Yhg hr.units (Yc (Yw (Yeq rfl) Yh7 rfl bl.All boot_all (Ym (Yc (Yaj (Yah cs_law_book_1 rfl (Yad (Yp (Yb 0) (Yc Yl))) (fun _ _ _ _ _=>(Yx 0 cs_law_book_1.nd)) (fun _ _ _ _ _=>Yam) (fun _ _ _ _ _=>(Yo ueu hr rfl (Yd (Yh 1) (Yd (Yh 0) (Yd (Yh 2) Yk))) (Ye (Ye (Ye (fun _ _ h=>Yt h)))))) (Yag (i:=0) rfl)))) Yr))) (Yc (y6p hr.units (Yb 4) (Yb 3)))) (Yj (Yq Ya4)) Yz))) (Yj (Yq Ya4)))))
abbrev Yc4:Stmt:=top 54
theorem sc_law_lacks:FnScope ["found","kind","length","table","many","evening","due","at","lit"] ["found","kind","length","table"] (defScope Yc4):=⟨rfl,rfl,rfl,by decide +kernel,rfl,by decide +kernel,by decide +kernel⟩
theorem cs_law_lacks_0:CompSc ["found","kind","length","table","many","evening","due","at","lit"] (defScope Yc4) ["lit"] [none] (fsc [(".0",.local),("lit",.local),("bool",.globalImplicit)]):=Yy (by decide +kernel)
theorem cs_law_lacks_1:CompSc ["found","kind","length","table","many","evening","due","at","lit"] (defScope Yc4) ["evening","at"] [none,some 7] (fsc [(".0",.local),("evening",.local),("int",.globalImplicit),("at",.free)]):=Yy (by decide +kernel)
def Yen:Ro→Option D:=(cC (Yg (getC 0) aNil) Yzw)
def Ybx:Ro→Option Out:=(sIf (orT (b2 (getC 5) (getC 3) (inM true)) (notT (b1 (cC (Yg (getV 5) (Yg (cC (Yg (lF (Yas (b1 (getV 5) Yn) [none] (gSet 0) tY (Yen))) aNil) tupC) aNil)) Yey) truD))) (sRet (kD (.bl false))) sNil)
def Yeo:Ro→Option D:=(cC (Yg (b2 (getC 0) (getC 1) ixD) aNil) intC)
def Yby:Ro→Option Out:=(sSeq (sSet 8 (cC (Yg (lF (Yas (b1 (getV 0) Yn) [none,some 7] (gSet 0) tY (Yeo))) aNil) sumC)) (sMut 6 (Yt6 ["eithers","sums","ifs","nots"] [(mB (b2 (getC 8) (kD (.int 1)) gtI)),(mB (b2 (b2 (getC 8) (kD (.int 2)) modI) (kD (.int 1)) (eqM false))),(mB (b2 (getC 8) (kD (.int 2)) (eqM false))),(mB (b2 (getC 8) (kD (.int 0)) gtI))] (getC 1)) appD))
@[simp] def Yht:Ro→Option Out:=(sRet (mB (b2 (cC (Yg (getC 6) aNil) tupC) (getC 3) (inM true))))
@[simp] def Yhu:Ro→Option Out:=(sSeq (sFor (cF (Yg (getV 2) aNil) rng1) (gSet 7) Yby) Yht)
@[simp] def Yhv:Ro→Option Out:=(sSeq (sOwn 6 (dLst aNil)) Yhu)
@[simp] def Yhw:Ro→Option Out:=(sSeq (sFor (b1 (getV 0) Yn) (gSet 5) Ybx) Yhv)
@[simp] def Yhx:Ro→Option Out:=(sSeq (sIf (orT (notT (b1 (mB (b1 (getC 0) (isiD "list"))) truD)) (b2 (cC (Yg (getC 0) aNil) lenC) (getC 4) (eqM true))) (sRet (kD (.bl false))) sNil) Yhw)
def Yll:Ro→Option Out:=(sSeq (sSet 4 (b2 (kD (.int 2)) (cC (Yg (orV (mB (b2 (getC 1) (kD (.str "eithers")) (eqM false))) (mB (b2 (getC 1) (kD (.str "sums")) (eqM false)))) aNil) intC) addI)) Yhx)
def Yd1:List D→Option D:=runB 4 9 Yll
theorem Yqi(bl:Bl K w mg)(ude:Okf P w K mg base 12 2 "_law_same" ["found","due"] Yey){a:Addr}{fd:FuncData}(F:Fun K "_law_lacks" "_law_lacks" Yc4 a fd)(hm:mg "_law_lacks"=some (.ref a)):Okf P w K mg base 13 4 "_law_lacks" ["found","kind","length","table"] Yd1:=by
 refine Yal F (F.binds fun _ _ _ _ _ _ us hl=>by obtain⟨_,_,_,_,rfl⟩:=len4 hl;rfl) hm (Ys (k:=12) F sc_law_lacks rfl rfl fun cdv A outer s H E hr=>?_)
 exact(Yi (Ybr 4 sc_law_lacks.nd (Yic (Yc Yl) (Yc (Yat Yj2 Yq7 rfl bl.Int boot_int (Ym (Yc (y04 (Ybg hr.units (Yb 1) (Yc Yau)) (Yw9 (Ybg hr.units (Yb 1) (Yc Yau))))) Yr))))) (Yi (Yaf (Ydr (Ydq (Ybh (Yap (Yc (Yav (Yb 0) rfl rfl bl.Isinstance bl.List boot_list (Yy2))))) (Yc6 (Yhg hr.units (Yc (Yw Yu Yan rfl bl.Len PySem.boot_len (Ym (Yb 0) Yr))) (Yb 4))))) (Yj (Yq Ya4)) Yz) (Yi (Yb7 PassesOwn.never rfl (Yad (Yh 0)) (Yx 5 sc_law_lacks.nd) (Yj (Yaf (Ydr (Ydq (Yrp hr.units (Yb 5) (Yb 3)) (Yc6 (Ybh (Yap (Yc (Yo ude hr rfl (Yd (Yh 5) (Yd (Yat Yaq Yeh rfl bl.Tuple boot_tuple (Ym (Yc (Yaj (Yah cs_law_lacks_0 rfl (Yad (Yh 5)) (fun _ _ _ _ _=>(Yx 0 cs_law_lacks_0.nd)) (fun _ _ _ _ _=>Yam) (fun _ _ _ _ _=>(Yat Ytw Yzx rfl bl.Bool boot_bool (Ym (Yb 0) Yr))) (Yag (i:=0) rfl)))) Yr)) Yk)) (Ye (Ye (fun _ _ h=>Yt h)))))))))) (Yj (Yq Ya4)) Yz))) (Yi (Yb2 6 sc_law_lacks.nd (Ybi Yk)) (Yi (Yb7 PassesOwn.never rfl (Ya6 rfl bl.Range (Yd (Yh 2) Yk)) (Yx 7 sc_law_lacks.nd) (Yi (Ybr 8 sc_law_lacks.nd (Yw (Yo7 rfl) Yv2 rfl bl.Sum boot_sum (Ym (Yc (Yaj (Yah cs_law_lacks_1 rfl (Yad (Yh 0)) (fun _ _ _ _ _=>(Yx 0 cs_law_lacks_1.nd)) (fun _ _ _ _ _=>Yam) (fun _ _ _ _ _=>(Yat Yj2 Yq7 rfl bl.Int boot_int (Ym (Yc (Yp (Yb 0) (Yb 1))) Yr))) (Yag (i:=0) rfl)))) Yr))) (Yj (Yib 6 (Yzo hr.units [(Str.ofString "eithers"),(Str.ofString "sums"),(Str.ofString "ifs"),(Str.ofString "nots")] [(mB (b2 (getC 8) (kD (.int 1)) gtI)),(mB (b2 (b2 (getC 8) (kD (.int 2)) modI) (kD (.int 1)) (eqM false))),(mB (b2 (getC 8) (kD (.int 2)) (eqM false))),(mB (b2 (getC 8) (kD (.int 0)) gtI))] (by decide +kernel) (by decide) (by decide) (Yju (y01 (Yb 8) (Yc Yl)) (Yju (Ybg hr.units (Yc (Ybf (Yb 8) (Yc Yl))) (Yc Yl)) (Yju (Ybg hr.units (Yb 8) (Yc Yl)) (Yju (y01 (Yb 8) (Yc Yl)) y3e)))) (Yb 1)))))) (Yj (Yq (y3c hr.units (Yc (Yat Yaq Yeh rfl bl.Tuple boot_tuple (Ym (Yb 6) Yr))) (Yb 3)))))))))
abbrev Yft:Stmt:=top 55
theorem sc_law:FnScope ["script","kind","length","handed","table","found"] ["script"] (defScope Yft):=⟨rfl,rfl,rfl,by decide +kernel,rfl,by decide +kernel,by decide +kernel⟩
theorem cs_law_0:CompSc ["script","kind","length","handed","table","found"] (defScope Yft) ["evening"] [none] (fsc [(".0",.local),("evening",.local),("tuple",.globalImplicit)]):=Yy (by decide +kernel)
theorem cs_law_1:CompSc ["script","kind","length","handed","table","found"] (defScope Yft) ["evening"] [none] (fsc [(".0",.local),("evening",.local),("tuple",.globalImplicit)]):=Yy (by decide +kernel)
def Yob:Ro→Option D:=(cC (Yg (getC 0) aNil) tupC)
def Yjy:Ro→Option D:=(cC (Yg (getC 0) aNil) tupC)
def Ysc:Ro→Option Out:=(wF [4] (sRet (andV (mB (b1 (b2 (getC 5) (kD (.int 0)) ixD) (isiD "str"))) (andV (mB (b2 (b2 (getC 5) (kD (.int 0)) ixD) (kD (.str "blend")) (eqM false))) (cC (Yg (b2 (getC 5) (kD (.int 1)) ixD) (Yg (getV 1) (Yg (getV 2) (Yg (getV 4) aNil)))) Yd1)))))
def Yoc:Ro→Option Out:=(sSeq (sIf (b2 (b2 (getC 5) (kD (.int 0)) ixD) (kD (.str "book")) (eqM false)) (wF [4] (sRet (cC (Yg (b2 (getC 5) (kD (.int 1)) ixD) (Yg (getV 1) (Yg (getV 2) (Yg (getV 4) aNil)))) Ydm))) sNil) Ysc)
def Yxq:Ro→Option Out:=(sSeq (sIf (orT (b2 (lF (Yas (b1 (getV 3) Yn) [none] (gSet 0) tY (Yjy))) (getC 4) (eqM true)) (orT (notT (b1 (mB (b1 (getC 5) (isiD "tuple"))) truD)) (b2 (cC (Yg (getC 5) aNil) lenC) (kD (.int 2)) (eqM true)))) (sRet (kD (.bl false))) sNil) Yoc)
def Yxr:Ro→Option Out:=(sSeq (sSet 5 (cC (Yg (getV 1) (Yg (getV 2) (Yg (b2 (lF (dLst (Yg (getV 3) (Yg (cC (Yg (getC 3) aNil) tupC) aNil)))) (b2 (b2 (cC (Yg (getV 0) (Yg (kD (.int 0)) aNil)) Yab) (kD (.int 200)) divI) (kD (.int 2)) modI) ixD) aNil))) Ya1)) Yxq)
def Yxs:Ro→Option Out:=(sSeq (sOwn 4 (Yas (b1 (getV 3) Yn) [none] (gSet 0) tY (Yob))) Yxr)
def Yxt:Ro→Option Out:=(sSeq (sSet 3 (cC (Yg (getV 0) (Yg (getV 2) aNil)) Yco)) Yxs)
def Yxu:Ro→Option Out:=(sSeq (sSet 2 (b2 (b2 (cC (Yg (getV 0) (Yg (kD (.int 0)) aNil)) Yab) (kD (.int 4)) divI) (kD (.int 5)) modI)) Yxt)
def Yzy:Ro→Option Out:=(sSeq (sSet 1 (cC (Yg (cC (Yg (getV 0) (Yg (kD (.int 0)) aNil)) Yab) aNil) Ydk)) Yxu)
def Ysd:List D→Option D:=runB 1 6 Yzy
theorem y6x(bl:Bl K w mg)(ub:Okf P w K mg base 1 2 "_law_cell" ["script","k"] Yab)(udf:Okf P w K mg base 1 1 "_law_kind" ["cell"] Ydk)(ucc:Okf P w K mg base 3 2 "_law_table" ["script","length"] Yco)(uba:Okf P w K mg base 17 3 "table_told" ["kind","length","evenings"] Ya1)(udg:Okf P w K mg base 4 4 "_law_book" ["found","kind","length","table"] Ydm)(ucd:Okf P w K mg base 13 4 "_law_lacks" ["found","kind","length","table"] Yd1){a:Addr}{fd:FuncData}(F:Fun K "law" "law" Yft a fd):FnOk P w K mg base CX0 18 a fd ["script"] (spOf K 1 Ysd):=by
 refine Ys (k:=17) F sc_law rfl rfl fun cdv A outer s H E hr=>?_
 exact(Yi (Ybr 1 sc_law.nd (Yo udf hr rfl (Yd (Yo ub hr rfl (Yd (Yh 0) (Yd Yl Yk)) (Ye (Ye (fun _ _ h=>Yt h)))) Yk) (Ye (fun _ _ h=>Yt h)))) (Yi (Ybr 2 sc_law.nd (Ybf (Yc (Ygj (Yc (Yo ub hr rfl (Yd (Yh 0) (Yd Yl Yk)) (Ye (Ye (fun _ _ h=>Yt h))))) (Yc Yl))) (Yc Yl))) (Yi (Ybr 3 sc_law.nd (Yo ucc hr rfl (Yd (Yh 0) (Yd (Yh 2) Yk)) (Ye (Ye (fun _ _ h=>Yt h))))) (Yi (Yd6 4 sc_law.nd cs_law_0 rfl (Yad (Yh 3)) (fun _ _ _ _ _=>(Yx 0 cs_law_0.nd)) (fun _ _ _ _ _=>Yam) (fun _ _ _ _ _=>(Yat Yaq Yeh rfl bl.Tuple boot_tuple (Ym (Yb 0) Yr))) (Yag (i:=0) rfl)) (Yi (Ybr 5 sc_law.nd (Yo uba hr rfl (Yd (Yh 1) (Yd (Yh 2) (Yd (Yp (Yc (Yaj (Ybi (Yd (Yh 3) (Yd (Yat Yaq Yeh rfl bl.Tuple boot_tuple (Ym (Yb 3) Yr)) Yk))))) (Yc (Ybf (Yc (Ygj (Yc (Yo ub hr rfl (Yd (Yh 0) (Yd Yl Yk)) (Ye (Ye (fun _ _ h=>Yt h))))) (Yc Yl))) (Yc Yl)))) Yk))) (Ye (Ye (Ye (fun _ _ h=>Yt h)))))) (Yi (Yaf (Ydr (Ydq (Yhg hr.units (Yc (Yaj (Yah cs_law_1 rfl (Yad (Yh 3)) (fun _ _ _ _ _=>(Yx 0 cs_law_1.nd)) (fun _ _ _ _ _=>Yam) (fun _ _ _ _ _=>(Yat Yaq Yeh rfl bl.Tuple boot_tuple (Ym (Yb 0) Yr))) (Yag (i:=0) rfl)))) (Yb 4)) (Ydq (Ybh (Yap (Yc (Yav (Yb 5) rfl rfl bl.Isinstance bl.Tuple boot_tuple (Ycw))))) (Yc6 (Yhg hr.units (Yc (Yw Yu Yan rfl bl.Len PySem.boot_len (Ym (Yb 5) Yr))) (Yc Yl)))))) (Yj (Yq Ya4)) Yz) (Yi (Yaf (Ycx hr.units (Yc (Yp (Yb 5) (Yc Yl))) (Yc Yau)) (Yj (Ya5 [4] (Yq (Yo udg hr rfl (Yd (Yp (Yb 5) (Yc Yl)) (Yd (Yh 1) (Yd (Yh 2) (Yd (Yh 4) Yk)))) (Ye (Ye (Ye (Ye (fun _ _ h=>Yt h))))))))) Yz) (Yj (Ya5 [4] (Yq (Ybq (Yav (Yc (Yp (Yb 5) (Yc Yl))) rfl rfl bl.Isinstance bl.Str boot_str (Ym8)) (Ybq (Ybg hr.units (Yc (Yp (Yb 5) (Yc Yl))) (Yc Yau)) (Ycp (Yo ucd hr rfl (Yd (Yp (Yb 5) (Yc Yl)) (Yd (Yh 1) (Yd (Yh 2) (Yd (Yh 4) Yk)))) (Ye (Ye (Ye (Ye (fun _ _ h=>Yt h)))))))))))))))))))
end
abbrev Yod:Nat:=18
theorem all_mk{l:W.OpenLaw}{w:World}{K:W.Frag}{h:Heap}{mg:Str→Option Value}{fa uo uv uak v5 ul up uh u5 xo ual v6 v7 uw v8 xp vi v9 u6 ux xa uy uz vj u0 uam uq vk xq xb xt ubb xu xw uan xc vm vn vo vp xx xf udh:Addr}(X:K.In h)(G:h.Ns mainGlobals mg)(hfa:mg "law"=some (.ref fa))
 {ue3 ued:Option Addr} {ue4:Array (Option Value)} {ue5 uee uef ueg ubc ueh:Value} {xh xy udi ubd vv xi vq zq uce udj ube ubf xz ubg ucf uar ubh zr x3 ubi x4 x5 uas x6 udk xj uat ucg ubj uch uei uci ucj udl ubk uau uav uaw uax uck ubl:FuncData}
 (x8:W.nsIn K mainGlobals "blended_light"=some (some (.ref uo))) (x9:Fun K "blended_light" "blended_light" Yc7 uo xh)
 (zt:W.nsIn K mainGlobals "lit_count_at"=some (some (.ref uv))) (zu:Fun K "lit_count_at" "lit_count_at" Yb9 uv xy)
 (uej:W.nsIn K mainGlobals "blended"=some (some (.ref uak))) (uek:Fun K "blended" "blended" Yet uak udi)
 (ucl:W.nsIn K mainGlobals "is_beacon"=some (some (.ref v5))) (ucm:Fun K "is_beacon" "is_beacon" Yfm v5 ubd)
 (xk:W.nsIn K mainGlobals "checked_beacon"=some (some (.ref ul))) (xl:Fun K "checked_beacon" "checked_beacon" Ycm ul vv)
 (za:W.nsIn K mainGlobals "checked_truth"=some (some (.ref up))) (zb:Fun K "checked_truth" "checked_truth" Yc8 up xi)
 (vw:W.nsIn K mainGlobals "checked_beacons"=some (some (.ref uh))) (vy:Fun K "checked_beacons" "checked_beacons" Ybe uh vq)
 (uay:W.nsIn K mainGlobals "either_made"=some (some (.ref u5))) (uaz:Fun K "either_made" "either_made" Ycq u5 zq)
 (udm:W.nsIn K mainGlobals "sum_made"=some (some (.ref xo))) (udn:Fun K "sum_made" "sum_made" Ygq xo uce)
 (uel:W.nsIn K mainGlobals "if_made"=some (some (.ref ual))) (uem:Fun K "if_made" "if_made" Yil ual udj)
 (ucn:W.nsIn K mainGlobals "rule_made"=some (some (.ref v6))) (uco:Fun K "rule_made" "rule_made" Yfn v6 ube)
 (ucp:W.nsIn K mainGlobals "book_made"=some (some (.ref v7))) (ucq:Fun K "book_made" "book_made" Yd9 v7 ubf)
 (zv:W.nsIn K mainGlobals "either_holds"=some (some (.ref uw))) (zw:Fun K "either_holds" "either_holds" Yca uw xz)
 (ucr:W.nsIn K mainGlobals "sum_holds"=some (some (.ref v8))) (ucs:Fun K "sum_holds" "sum_holds" Yea v8 ubg)
 (udo:W.nsIn K mainGlobals "if_holds"=some (some (.ref xp))) (udp:Fun K "if_holds" "if_holds" Ye5 xp ucf)
 (ubm:W.nsIn K mainGlobals "rule_holds"=some (some (.ref vi))) (ubn:Fun K "rule_holds" "rule_holds" Ye6 vi uar)
 (uct:W.nsIn K mainGlobals "is_length"=some (some (.ref v9))) (ucu:Fun K "is_length" "is_length" Yfo v9 ubh)
 (ua0:W.nsIn K mainGlobals "check_table"=some (some (.ref u6))) (ua1:Fun K "check_table" "check_table" Ycr u6 zr)
 (zx:W.nsIn K mainGlobals "all_evenings"=some (some (.ref ux))) (zy:Fun K "all_evenings" "all_evenings" Ybm ux x3)
 (ucv:W.nsIn K mainGlobals "groups_of"=some (some (.ref xa))) (ucw:Fun K "groups_of" "groups_of" Ycy xa ubi)
 (zz:W.nsIn K mainGlobals "small_groups"=some (some (.ref uy))) (z0:Fun K "small_groups" "small_groups" Ydv uy x4)
 (z9:W.nsIn K mainGlobals "eithers_over"=some (some (.ref uz))) (uaa:Fun K "eithers_over" "eithers_over" Ybn uz x5)
 (ubo:W.nsIn K mainGlobals "rules_over"=some (some (.ref vj))) (ubp:Fun K "rules_over" "rules_over" Ydg vj uas)
 (uab:W.nsIn K mainGlobals "holds_on_all"=some (some (.ref u0))) (uac:Fun K "holds_on_all" "holds_on_all" Ycb u0 x6)
 (uen:W.nsIn K mainGlobals "book_of"=some (some (.ref uam))) (ueo:Fun K "book_of" "book_of" Yev uam udk)
 (zc:W.nsIn K mainGlobals "lacking_blend"=some (some (.ref uq))) (zd:Fun K "lacking_blend" "lacking_blend" Yda uq xj)
 (ubq:W.nsIn K mainGlobals "table_told"=some (some (.ref vk))) (ubr:Fun K "table_told" "table_told" Ydh vk uat)
 (udq:W.nsIn K mainGlobals "_law_cell"=some (some (.ref xq))) (udr:Fun K "_law_cell" "_law_cell" Ygt xq ucg)
 (ucx:W.nsIn K mainGlobals "_law_mixed"=some (some (.ref xb))) (ucy:Fun K "_law_mixed" "_law_mixed" Yfs xb ubj)
 (uds:W.nsIn K mainGlobals "_law_kind"=some (some (.ref xt))) (udt:Fun K "_law_kind" "_law_kind" Ygu xt uch)
 (uev:W.nsIn K mainGlobals "_law_so"=some (some (.ref ubb))) (uew:Fun K "_law_so" "_law_so" Yex ubb uei)
 (udu:W.nsIn K mainGlobals "_law_bits"=some (some (.ref xu))) (udv:Fun K "_law_bits" "_law_bits" Ygy xu uci)
 (udw:W.nsIn K mainGlobals "_law_same"=some (some (.ref xw))) (udx:Fun K "_law_same" "_law_same" Ydx xw ucj)
 (uep:W.nsIn K mainGlobals "_law_all"=some (some (.ref uan))) (ueq:Fun K "_law_all" "_law_all" Yez uan udl)
 (ucz:W.nsIn K mainGlobals "_law_table"=some (some (.ref xc))) (uc0:Fun K "_law_table" "_law_table" Ycz xc ubk)
 (ubs:W.nsIn K mainGlobals "_law_beacon"=some (some (.ref vm))) (ubt:Fun K "_law_beacon" "_law_beacon" Ye8 vm uau)
 (ubu:W.nsIn K mainGlobals "_law_rising"=some (some (.ref vn))) (ubv:Fun K "_law_rising" "_law_rising" Ye9 vn uav)
 (ubw:W.nsIn K mainGlobals "_law_saying"=some (some (.ref vo))) (ubx:Fun K "_law_saying" "_law_saying" Yfa vo uaw)
 (uby:W.nsIn K mainGlobals "_law_formed"=some (some (.ref vp))) (ubz:Fun K "_law_formed" "_law_formed" Ydi vp uax)
 (udy:W.nsIn K mainGlobals "_law_book"=some (some (.ref xx))) (udz:Fun K "_law_book" "_law_book" Yd0 xx uck)
 (uc1:W.nsIn K mainGlobals "_law_lacks"=some (some (.ref xf))) (uc2:Fun K "_law_lacks" "_law_lacks" Yc4 xf ubl)
 (ue6:W.nsIn K mainGlobals "law"=some (some (.ref udh))) (ue7:K.lookup udh=some ⟨ue5,ue3,.func (W.fnOf "law" "law" (defArgs Yft) (defBody Yft) (defScope Yft) .none uee uef ueg ued ubc ueh),ue4⟩) (ue8:W.codeIn K ubc "law"=true) (ue9:W.keepIn K (.ref udh)=true)
 {ze:Tok} (zf:W.nsIn K mainGlobals "BEACON_COUNT"=some (some (.int 60 ze)))
 {ui:Addr} {vz:_} {u7 u8 u9 va vd ve vf vg:_} (v0:W.nsIn K mainGlobals "BLENDED_COUNTS"=some (some (.ref ui))) (v4:K.lookup ui=some ⟨.type "dict",none,.dict #[⟨PyData.keyHash w.params (Str.ofString "eithers"),.str "eithers" u7,.int 3 u8⟩,⟨PyData.keyHash w.params (Str.ofString "sums"),.str "sums" u9,.int 3 va⟩,⟨PyData.keyHash w.params (Str.ofString "ifs"),.str "ifs" vd,.int 2 ve⟩,⟨PyData.keyHash w.params (Str.ofString "nots"),.str "nots" vf,.int 2 vg⟩] vz,#[]⟩)
 {ub0:Addr} {uex:_} {uey:_} {uez:_} {ud6 ud7 ud8 ud9:_} (ue0:W.nsIn K mainGlobals "KINDS"=some (some (.ref ub0))) (ue1:K.lookup ub0=some ⟨.type "tuple",uex,.seq #[.str "eithers" ud6,.str "sums" ud7,.str "ifs" ud8,.str "nots" ud9] uey,uez⟩)
 {uad:Tok} (uae:W.nsIn K mainGlobals "MOST_LENGTH"=some (some (.int 4 uad)))
 {ua2:Tok} (ua3:W.nsIn K mainGlobals "MOST_RULES"=some (some (.int 60 ua2)))
 {zg:Tok} (zh:W.nsIn K mainGlobals "MOST_SAYINGS"=some (some (.int 2 zg)))
 (z_len:W.nsIn K mainGlobals "len"=some none)
 (z_range:W.nsIn K mainGlobals "range"=some none)
 (z_list:W.nsIn K mainGlobals "list"=some none)
 (z_tuple:W.nsIn K mainGlobals "tuple"=some none)
 (z_int:W.nsIn K mainGlobals "int"=some none)
 (z_bool:W.nsIn K mainGlobals "bool"=some none)
 (z_str:W.nsIn K mainGlobals "str"=some none)
 (z_sorted:W.nsIn K mainGlobals "sorted"=some none)
 (z_any:W.nsIn K mainGlobals "any"=some none)
 (z_all:W.nsIn K mainGlobals "all"=some none)
 (z_sum:W.nsIn K mainGlobals "sum"=some none)
 (z_isinstance:W.nsIn K mainGlobals "isinstance"=some none)
 (z_enumerate:W.nsIn K mainGlobals "enumerate"=some none)
 (z_set:W.nsIn K mainGlobals "set"=some none)
 : ∃fd:FuncData,(∀(s:Shared) (v:Value),BindsTo s fd ⟨[v],[]⟩ [("script",v)])∧∀base:Heap,K.In base→base.Ns mainGlobals mg→FnOk l.prog w K mg base CX0 Yod fa fd ["script"] (spOf K 1 Ysd):=by
 have e:=hfa.symm.trans (W.mg_of X G ue6)
 cases e
 have bl:Bl K w mg:=⟨W.mg_none_of X G z_len,W.mg_none_of X G z_range,W.mg_none_of X G z_list,W.mg_none_of X G z_tuple,W.mg_none_of X G z_int,W.mg_none_of X G z_bool,W.mg_none_of X G z_str,W.mg_none_of X G z_sorted,W.mg_none_of X G z_any,W.mg_none_of X G z_all,W.mg_none_of X G z_sum,W.mg_none_of X G z_isinstance,W.mg_none_of X G z_enumerate,W.mg_none_of X G z_set,⟨_,W.mg_of X G zf⟩,⟨_,_,_,_,W.mg_of X G v0,v4,⟨rfl,rfl,rfl⟩,rfl,(.cons ⟨rfl,⟨_,rfl⟩,⟨_,rfl⟩⟩ (.cons ⟨rfl,⟨_,rfl⟩,⟨_,rfl⟩⟩ (.cons ⟨rfl,⟨_,rfl⟩,⟨_,rfl⟩⟩ (.cons ⟨rfl,⟨_,rfl⟩,⟨_,rfl⟩⟩ .nil))))⟩,⟨_,_,_,_,W.mg_of X G ue0,ue1,rfl,rfl,(.cons ⟨⟨_,rfl⟩,by decide +kernel⟩ (.cons ⟨⟨_,rfl⟩,by decide +kernel⟩ (.cons ⟨⟨_,rfl⟩,by decide +kernel⟩ (.cons ⟨⟨_,rfl⟩,by decide +kernel⟩ .nil))))⟩,⟨_,W.mg_of X G uae⟩,⟨_,W.mg_of X G ua3⟩,⟨_,W.mg_of X G zh⟩⟩
 have ufa:=fun_mk (st:=Yft) ue7 ue8 ue9
 refine⟨W.fnOf "law" "law" (defArgs Yft) (defBody Yft) (defScope Yft) .none uee uef ueg ued ubc ueh,fun s v=>.of_eq rfl,fun base _ _=>?_⟩
 have zi:=Yje (P:=l.prog) (w:=w) (base:=base) bl  x9 (W.mg_of X G x8)
 have uaf:=Ykz (P:=l.prog) (w:=w) (base:=base) bl  zu (W.mg_of X G zt)
 have uer:=Yuk (P:=l.prog) (w:=w) (base:=base) bl uaf zi uek (W.mg_of X G uej)
 have uc3:=Ypw (P:=l.prog) (w:=w) (base:=base) bl  ucm (W.mg_of X G ucl)
 have ue:=Yii (P:=l.prog) (w:=w) (base:=base) bl uc3 xl (W.mg_of X G xk)
 have ut:=Yjh (P:=l.prog) (w:=w) (base:=base) bl  zb (W.mg_of X G za)
 have uj:=Yhi (P:=l.prog) (w:=w) (base:=base) bl ue vy (W.mg_of X G vw)
 have ua4:=Ylr (P:=l.prog) (w:=w) (base:=base) bl ut ue uaz (W.mg_of X G uay)
 have ud0:=Yrv (P:=l.prog) (w:=w) (base:=base) bl ut uj udn (W.mg_of X G udm)
 have ues:=Yum (P:=l.prog) (w:=w) (base:=base) bl ue uj uem (W.mg_of X G uel)
 have uc4:=Ypy (P:=l.prog) (w:=w) (base:=base) bl ua4 ud0 ues uco (W.mg_of X G ucn)
 have uc5:=Yp0 (P:=l.prog) (w:=w) (base:=base) bl uc4 ucq (W.mg_of X G ucp)
 have uag:=Yk7 (P:=l.prog) (w:=w) (base:=base) bl  zw (W.mg_of X G zv)
 have uc6:=Yp1 (P:=l.prog) (w:=w) (base:=base) bl  ucs (W.mg_of X G ucr)
 have ud1:=Yr1 (P:=l.prog) (w:=w) (base:=base) bl  udp (W.mg_of X G udo)
 have vt:=Ynz (P:=l.prog) (w:=w) (base:=base) bl uag uc6 ud1 ubn (W.mg_of X G ubm)
 have uc7:=Yp4 (P:=l.prog) (w:=w) (base:=base) bl  ucu (W.mg_of X G uct)
 have ua5:=Yly (P:=l.prog) (w:=w) (base:=base) bl uc7 ua1 (W.mg_of X G ua0)
 have uah:=Yk9 (P:=l.prog) (w:=w) (base:=base) bl  zy (W.mg_of X G zx)
 have xg:=Yp5 (P:=l.prog) (w:=w) (base:=base) bl  ucw (W.mg_of X G ucv)
 have u4:=Yla (P:=l.prog) (w:=w) (base:=base) bl xg z0 (W.mg_of X G zz)
 have uai:=Ylb (P:=l.prog) (w:=w) (base:=base) bl u4 uaa (W.mg_of X G z9)
 have ub1:=Yn1 (P:=l.prog) (w:=w) (base:=base) bl uai u4 ubp (W.mg_of X G ubo)
 have uaj:=Ylf (P:=l.prog) (w:=w) (base:=base) bl vt uac (W.mg_of X G uab)
 have uet:=Yuo (P:=l.prog) (w:=w) (base:=base) bl uah ub1 vt uaj uc5 ueo (W.mg_of X G uen)
 have zj:=Yjn (P:=l.prog) (w:=w) (base:=base) bl xg uer zd (W.mg_of X G zc)
 have ub2:=Yn2 (P:=l.prog) (w:=w) (base:=base) bl ua5 zj uet ubr (W.mg_of X G ubq)
 have zk:=Yr3 (P:=l.prog) (w:=w) (base:=base) bl  udr (W.mg_of X G udq)
 have uc8:=Yp9 (P:=l.prog) (w:=w) (base:=base) bl  ucy (W.mg_of X G ucx)
 have ud2:=Yr5 (P:=l.prog) (w:=w) (base:=base) bl  udt (W.mg_of X G uds)
 have ue2:=Yxo (P:=l.prog) (w:=w) (base:=base) bl  uew (W.mg_of X G uev)
 have ud3:=Yr6 (P:=l.prog) (w:=w) (base:=base) bl uc8 udv (W.mg_of X G udu)
 have ud4:=Yr8 (P:=l.prog) (w:=w) (base:=base) bl  udx (W.mg_of X G udw)
 have uao:=Yus (P:=l.prog) (w:=w) (base:=base) bl  ueq (W.mg_of X G uep)
 have uc9:=Yqh (P:=l.prog) (w:=w) (base:=base) bl uao zk ud3 uc0 (W.mg_of X G ucz)
 have um:=Yn5 (P:=l.prog) (w:=w) (base:=base) bl  ubt (W.mg_of X G ubs)
 have ub3:=Yn6 (P:=l.prog) (w:=w) (base:=base) bl um ubv (W.mg_of X G ubu)
 have ub4:=Yn8 (P:=l.prog) (w:=w) (base:=base) bl um ubx (W.mg_of X G ubw)
 have ub5:=Yoa (P:=l.prog) (w:=w) (base:=base) bl ub4 ub3 um ubz (W.mg_of X G uby)
 have ud5:=Ysb (P:=l.prog) (w:=w) (base:=base) bl ub5 uao ue2 udz (W.mg_of X G udy)
 have uda:=Yqi (P:=l.prog) (w:=w) (base:=base) bl ud4 uc2 (W.mg_of X G uc1)
 exact y6x bl zk ud2 uc9 ub2 ud5 uda ufa
theorem walk(hlaw:∀ns:List Int,ns.length≤63→Ysd [.scr ns]=some (.bl true)){l:W.OpenLaw}{q:Program}{loose:List Str}{XP:(Str→Option Value)→Heap→Prop}{YP:World→Heap→Prop}{d:DefRec}{K:Params→W.Frag}(hn:l.most=some 63)(hdf:d.params.defaults=[])
 (hY:∀(w:World) (h:Heap),YP w h→(K w.params).In h)
 (F:∀(w:World) (mg:Str→Option Value) (fa:Addr) (h:Heap),(K w.params).In h→h.Ns mainGlobals mg→mg d.name=some (.ref fa)→
  ∃fd:FuncData,(∀(s:Shared) (u:Value),BindsTo s fd ⟨[u],[]⟩ [("script",u)])∧∀base:Heap,(K w.params).In base→base.Ns mainGlobals mg→FnOk l.prog w (K w.params) mg base CX0 Yod fa fd ["script"] (spOf (K w.params) 1 Ysd)) :
 W.WalkO q loose XP YP l.row.toRowW d [] (fun f vs=>PySem.call f vs):=
 L2.walk_of (n:=63) (k:=Yod) (x:="script") (CX:=fun _=>CX0) (sp:=fun w=>spOf (K w.params) 1 Ysd) hn (by decide) hdf ⟨rfl,by decide,by decide⟩ hY F
  (fun w H a ns hl _ hS=>⟨rfl,[.scr ns],.bl true,H,Same.refl H,.one (by rw[Rp];exact⟨a,rfl,hS⟩),hlaw ns hl,fun v H' G' g r=>by rw[Rp]at r;exact r⟩) fun _ _ _ _ _ z=>z
end Lw
end
namespace Lw
open PySem L2 M Bk
theorem Ytm(ns:List Int)(k:Nat):Yab [.scr ns,.int k]=some (.int (ns.getD k 0)):=by
 rw[Yab,Ya8 (by rfl)]
 by_cases h:k < ns.length
 ·have e:atI (ns.map D.int) (k:Int)=some (.int ns[k]):=by
   rw[Yfh,Yd8 h]
   rfl
  simp[Yiu,Yai,h,e]
 ·simp[Yiu,Yai,h]
theorem Yzz(ns:List Int)(k:Nat)(i:Int)(hi:i=(k:Int)):Yab [.scr ns,.int i]=some (.int (ns.getD k 0)):=by
 subst hi
 exact Ytm ns k
end Lw
namespace Lw
open PySem L2 M Bk
theorem y3p(ns:List Int)(a b:Nat):cutD (ns.map D.int) (some (a:Int)) (some (b:Int))=((ns.drop (min a ns.length)).take (min b ns.length - min a ns.length)).map D.int:=by
 unfold cutD
 rw[HT.sIx_nat,HT.sIx_nat]
 simp
end Lw
namespace Lw
open PySem L2 M Bk
theorem y3q(c m:Int):∃v:Int,0≤v∧Ydw [.int c,.int m]=some (.int v):=by
 refine⟨c % 2305843009213693951 * m % 2305843009213693951,Int.emod_nonneg _ (by decide),?_⟩
 rw[Ydw,Ya8 (by rfl)]
 have h1:0≤c % 2305843009213693951:=Int.emod_nonneg _ (by decide)
 have h2:c % 2305843009213693951 < 2305843009213693951:=Int.emod_lt_of_pos _ (by decide)
 have h3:mulI (.int (c % 2305843009213693951)) (.int m)=some (.int (c % 2305843009213693951 * m)):=Yzt ⟨by lia,by lia⟩
 simp[Ylj,Yai,h3]
end Lw
namespace Lw
open PySem L2 M Bk
theorem y6y(c:Int):∃k:Kd,Ydk [.int c]=some (kdD k):=by
 have h0:0≤c % 4:=Int.emod_nonneg _ (by decide)
 have h4:c % 4 < 4:=Int.emod_lt_of_pos _ (by decide)
 rw[Ydk,Ya8 (by rfl)]
 have e:c % 4=0∨c % 4=1∨c % 4=2∨c % 4=3:=by lia
 rcases e with e | e | e | e
 ·exact⟨.e,by simp[Yew,Yai,e];rfl⟩
 ·exact⟨.s,by simp[Yew,Yai,e];rfl⟩
 ·exact⟨.i,by simp[Yew,Yai,e];rfl⟩
 ·exact⟨.n,by simp[Yew,Yai,e];rfl⟩
end Lw
namespace Lw
open PySem L2 M Bk
theorem y6z(c:Int)(n:Nat)(hn:n≤1000):∃ev:List Bool,ev.length=n∧Ydl [.int c,.int n]=some (.lst (ev.map D.bl)):=by
 obtain⟨v,_,hv⟩:=y3q c 1442695040888963407
 obtain⟨ρ',e1,bs,left,y,hl,rfl⟩:=Ydf (gt:=gSet 4) (fb:=Ye7) (fun i:Nat=>D.int (0+(i:Nat))) (fun pre ρ=>∃(bs:List Bool) (left:Int) (y:Option B),bs.length=pre.length∧
  ρ=[some (.sh (.int c)),some (.sh (.int n)),some (.sh (.int left)),some (.ow (bs.map D.bl)),y]) (List.range n) []
  [some (.sh (.int c)),some (.sh (.int n)),some (.sh (.int v)),some (.ow []),none] ⟨[],v,none,rfl,rfl⟩ (by
   rintro q a r ρ e ⟨bs,left,y,hl,rfl⟩
   have hq:q.length < n:=by have:=congrArg List.length e;simp at this;lia
   have hcap:bs.length < 1000000:=by lia
   refine⟨_,_,rfl,by simp[Ye7,appD,hcap];rfl,bs++[decide (left % 2=1)],left / 2,some (.sh (.int (0+(a:Int)))),by simp[hl],by simp⟩)
 refine⟨bs,by simpa using hl,?_⟩
 rw[Ydl,Ya8 (by rfl)]
 have hr:=Ygm (n:=(n:Int)) (by lia) (by lia)
 rw[Ygl]at hr
 simp[Ymt,Yai,hv,hr]at e1 ⊢
 rw[e1]
 simp
end Lw
namespace Lw
open PySem L2 M Bk
theorem Yz0(ev:List Bool)(b:List Nat):(b.map fun x=>if at' ev x=true then (1:Int)else 0).sum=((b.filter (at' ev)).length:Int):=by
 induction b with
 | nil=>rfl
 | cons a b ih=>
   rw[Qc,List.sum_cons,ih]
   cases h:at' ev a with
   | true=>rw[List.filter_cons_of_pos h,qq];simp;lia
   | false=>rw[List.filter_cons_of_neg (by simp[h])];simp
theorem e_so{c:D}{ev:List Bool}(hc:Yn c=some (ev.map D.bl)){k:Kd}{r:Rl}(hr:In k ev.length r):Yhl [kdD k,rlD r,c]=some (.bl (so k ev r)):=by
 rw[Yhl,Ya8 (by rfl)]
 cases r with
 | ei l=>
   obtain⟨rfl,hl⟩:=hr
   have h:=Yfi (fe:=Ygv) (r:=[some (.sh c)]) (enc:=sayD) (fun s=>.bl (at' ev s.1==s.2)) (l:=l) (fun s hs=>by
    simp[Ygv,hc,Yrs (hl s hs)])
   simp[Yhk,Yai,capR,h,so,Function.comp_def]
 | su b o=>
   obtain⟨rfl,hl⟩:=hr
   have h:=Yfi (fe:=Ygw) (r:=[some (.sh c)]) (enc:=nD) (fun x=>.int (if at' ev x=true then 1 else 0)) (l:=b) (fun s hs=>by
    simp[Ygw,hc,nD,Yrs (hl s hs)])
   have e:∀n:Nat,decide (((n:Nat):Int) % 2=1)=decide (n % 2=1):=fun n=>by
    by_cases z:n % 2=1
    ·have:((n:Nat):Int) % 2=1:=by lia
     simp[z,this]
    ·have:¬((n:Nat):Int) % 2=1:=by lia
     simp[z,this]
   simp[Yhk,Yai,capR,h,so,Yz0,e]
 | im b h=>
   obtain⟨hk,hl,hh⟩:=hr
   generalize hw:decide (k=Kd.i)=w
   have h1:=Yfi (fe:=Ygx) (r:=[some (.sh c),some (.sh (.bl w))]) (enc:=nD) (fun x=>.bl (at' ev x != w)) (l:=b) (fun s hs=>by
    simp[Ygx,hc,nD,Yrs (hl s hs),bne])
   have hke:¬k=.e:=by rcases hk with rfl | rfl<;>decide
   have hks:¬k=.s:=by rcases hk with rfl | rfl<;>decide
   have pre:Yhk (Yai 4 [kdD k,rlD (.im b h),c])=Yf3 [some (.sh (kdD k)),some (.sh (rlD (.im b h))),some (.sh c),some (.sh (.bl w))]:=by
    simp[Yhk,Yai,hke,hks,hw,-Yf3]
   have p3:Yf3 [some (.sh (kdD k)),some (.sh (rlD (.im b h))),some (.sh c),some (.sh (.bl w))]=if (b.any fun x=>at' ev x != w)=true then some (.rt (.bl true))else Yiv [some (.sh (kdD k)),some (.sh (rlD (.im b h))),some (.sh c),some (.sh (.bl w))]:=by
    cases hb:(b.any fun x=>at' ev x != w)<;>simp[capR,h1,Function.comp_def,hb,rlD,-Yiv]
   rw[pre,p3]
   clear pre p3 h1
   cases hb:(b.any fun x=>at' ev x != w)with
   | true=>simp[hb,so,hw]
   | false=>
     cases h with
     | none=>simp[hb,so,hw,rlD,optD,hd]
     | some x=>simp[hb,so,hw,rlD,optD,hd,hc,Yrs (hh x rfl)]
end Lw
namespace Lw
open PySem L2 M Bk
section
variable {c:D} {ev:List Bool} (hc:Yn c=some (ev.map D.bl))
include hc
end
end Lw
namespace Lw
open PySem L2 M Bk
end Lw
namespace Lw
open PySem L2 M Bk
noncomputable def blL:Kd→Nat→Bool
 | .e,c=>decide (2≤c)
 | .s,c=>decide (c % 2=1)
 | .i,c=>decide (c=2)
 | .n,c=>decide (1≤c)
noncomputable abbrev evD(ev:List Bool):D:=.tup (ev.map D.bl)
noncomputable def cntE(evs:List (List Bool))(b:Nat):Nat:=(evs.filter fun ev=>at' ev b).length
theorem Ylm(k:Kd)(c:Nat):Ybj [kdD k,.int (c:Int)]=some (.bl (blL k c)):=by
 rw[Ybj,Ya8 (by rfl)]
 have e1:((c:Int) % 2=1)↔(c % 2=1):=by lia
 have e2:((c:Int)=2)↔(c=2):=by lia
 have e3:(2≤(c:Int))↔(2≤c):=by lia
 have e4:(1≤(c:Int))↔(1≤c):=by lia
 cases k<;>simp[Yfj,Yai,blL,e1,e2,e3,e4]
theorem Yse{c:D}{evs:List (List Bool)}(hc:Yn c=some (evs.map evD)){b:Nat}(hb:∀ev∈evs,b < ev.length):Ybs [c,.int (b:Int)]=some (.int ((cntE evs b:Nat):Int)):=by
 have h:=Ytk (fc:=Yck) (fe:=Ycl) (r:=[some (.sh (.int (b:Int)))]) (enc:=evD) (fun ev=>at' ev b) evD (l:=evs) (fun ev hev=>by
  simp[Yck,Yrs (hb ev hev)]) (fun s _ _=>by simp[Ycl])
 rw[Ybs,Ya8 (by rfl)]
 simp[Ygb,Yai,capR,hc,h,cntE]
theorem Yxv{c:D}{ev:List Bool}{evs:List (List Bool)}(hc:Yn c=some ((ev::evs).map evD)){n:Nat}(hn:n≤1000)(hl:∀e∈ev::evs,e.length=n)(k:Kd) :
 Yeu [kdD k,c]=some (evD ((List.range n).map fun b=>blL k (cntE (ev::evs) b))):=by
 rw[Yeu,Ya8 (by rfl)]
 have hrg:=Ygm (n:=(n:Int)) (by lia) (by lia)
 rw[Ygl]at hrg
 have h1:=Yfi (fe:=Yfk) (r:=[some (.sh c)]) (enc:=fun i:Nat=>D.int (0+(i:Nat))) (fun b=>.int ((cntE (ev::evs) b:Nat):Int)) (l:=List.range n) (fun b hb=>by
  have hb':=Qa hb
  have:=Yse hc (b:=b) fun e he=>by rw[hl e he];exact hb'
  simp[Yfk,this])
 have h2:=Yfi (fe:=Yfl) (r:=[some (.sh (kdD k))]) (enc:=fun b:Nat=>D.int ((cntE (ev::evs) b:Nat):Int)) (fun b=>.bl (blL k (cntE (ev::evs) b))) (l:=List.range n) (fun b _=>by
  simp[Yfl,Ylm])
 have hl0:ev.length=n:=hl ev qg
 have hrg':rng1 [.int (ev.length:Int)]=rng1 [.int (n:Int)]:=by rw[hl0]
 rw[Qc]at hc
 simp[Ypu,Yai,capR,hc,hl0]at hrg h1 h2 ⊢
 simp[hrg,h1]
 simp[capR,h2,Function.comp_def]
end Lw
namespace Lw
open PySem L2 M Bk
end Lw
namespace Lw
open PySem L2 M Bk
noncomputable def tabH:List Int:=(List.range 120).map fun i=>pH (((i / 2:Nat):Int),decide (i % 2=1))
noncomputable def Yoe:List Int→Bool
 | []=>true
 | a::l=>!(l.contains a)&&Yoe l
set_option maxRecDepth 100000 in
theorem y60:Yoe tabH=true:=by decide +kernel
theorem Yhy:∀{l:List Int},Yoe l=true→l.Nodup
 | [],_=>.nil
 | a::l,h=>by
   rw[Yoe,Qi]at h
   refine List.nodup_cons.mpr ⟨fun hm=>?_,Yhy h.2⟩
   have:l.contains a=true:=by simpa using hm
   rw[this]at h
   exact Bool.noConfusion h.1
noncomputable def sIdx(s:Say):Nat:=2 * s.1+if s.2 then 1 else 0
theorem y08(s:Say)(h:s.1 < 60):tabH[sIdx s]?=some (pH ((s.1:Int),s.2)):=by
 obtain⟨b,l⟩:=s
 have hi:sIdx (b,l) < 120:=by cases l<;>simp[sIdx]at *<;>lia
 unfold tabH
 rw[Qh,List.getElem?_range hi,Option.map_some]
 cases l
 ·have e1:sIdx (b,false) / 2=b:=by simp[sIdx]
  have e2:sIdx (b,false) % 2=0:=by simp[sIdx]
  dsimp only
  rw[e1,e2]
  rfl
 ·have e1:sIdx (b,true) / 2=b:=by simp only[sIdx,if_true];lia
  have e2:sIdx (b,true) % 2=1:=by simp only[sIdx,if_true];lia
  dsimp only
  rw[e1,e2]
  rfl
theorem y61{T:List Int}(hn:T.Nodup){i j:Nat}{x:Int}(h1:T[i]?=some x)(h2:T[j]?=some x):i=j:=by
 obtain⟨hi,a1⟩:=qm h1
 obtain⟨hj,a2⟩:=qm h2
 exact(List.getElem_inj hn).mp (a1.trans a2.symm)
theorem Yut{s t:Say}(h:sIdx s=sIdx t):s=t:=by
 obtain⟨b,l⟩:=s
 obtain⟨c,m⟩:=t
 cases l<;>cases m<;>simp[sIdx]at h ⊢<;>lia
theorem y8f{s t:Say}(hs:s.1 < 60)(ht:t.1 < 60)(hst:s≠t):pH ((s.1:Int),s.2)≠pH ((t.1:Int),t.2):=fun e=>by
 have h1:=y08 s hs
 have h2:=y08 t ht
 rw[←e]at h2
 exact hst (Yut (y61 (Yhy y60) h1 h2))
theorem Yz1(k:Kd):kS k∈Yjx:=by cases k<;>simp[Yjx,kS]
end Lw
namespace Lw
open PySem L2 M Bk
noncomputable def allE:Nat→List (List Bool)
 | 0=>[[]]
 | n+1=>(allE n).map (·++[false])++(allE n).map (·++[true])
theorem Yhz:∀(n:Nat) {x:List Bool},x∈allE n→x.length=n
 | 0,x,h=>by rw[List.mem_singleton.mp h];rfl
 | n+1,x,h=>by
   rcases qu h with h | h
   ·obtain⟨y,hy,rfl⟩:=qw h
    rw[qy,Yhz n hy]
    rfl
   ·obtain⟨y,hy,rfl⟩:=qw h
    rw[qy,Yhz n hy]
    rfl
theorem Yln:∀n,(allE n).length=2 ^ n
 | 0=>rfl
 | n+1=>by rw[allE,qy,qe,qe,Yln n,Nat.pow_succ];lia
theorem Yjz:∀(n:Nat) {x:List Bool},x.length=n→x∈allE n
 | 0,x,h=>by rw[List.eq_nil_of_length_eq_zero h];exact qg
 | n+1,x,h=>by
   have hne:x≠[]:=fun z=>by rw[z]at h;cases h
   have hd:=List.dropLast_concat_getLast hne
   have ih:=Yjz n (x:=x.dropLast) (by rw[List.length_dropLast,h];rfl)
   rw[←hd]
   refine List.mem_append.mpr ?_
   cases x.getLast hne
   ·exact .inl (List.mem_map_of_mem (f:=(·++[false])) ih)
   ·exact .inr (List.mem_map_of_mem (f:=(·++[true])) ih)
theorem y3r(a b:List D):catD (.lst a) (.lst b)=if a.length+b.length≤cap6 then some (a++b)else none:=nr rfl
theorem y3s(a b:List Bool):eqD (tpB a) (tpB b)=decide (a=b):=by
 rw[tpB,tpB,Yxg,Yxm y3o]
theorem Yof(a:List Bool):dep (tpB a)≤1:=by
 rw[tpB,y3l]
 have:=Ynp (enc:=D.bl) (n:=0) (fun b=>by simp) a
 lia
theorem Yxw{c:D}(s:List Bool)(l:List (List Bool))(neg:Bool)(hc:Yn c=some (l.map tpB)):inM neg (tpB s) c=some (if neg then !decide (s∈l)else decide (s∈l)):=by
 rw[y6t hc (by have:=Yof s;lia) (by have:=Ynp (enc:=tpB) (n:=1) Yof l;lia),Yxk y3s]
 by_cases hm:s∈l<;>simp[hm]
theorem le4{P:Nat→Prop}(h0:P 0)(h1:P 1)(h2:P 2)(h3:P 3)(h4:P 4){n:Nat}(hn:n≤4):P n:=by
 rcases n with _ | _ | _ | _ | _ | n
 ·exact h0
 ·exact h1
 ·exact h2
 ·exact h3
 ·exact h4
 ·lia
end Lw
namespace Lw
open PySem L2 M Bk
theorem Ymg{n:Nat}(hn:n≤4):Ybc [.int (n:Int)]=some (.lst ((allE n).map tpB)):=
 le4 (P:=fun n=>Ybc [.int (n:Int)]=some (.lst ((allE n).map tpB))) (by kernel_rfl) (by kernel_rfl) (by kernel_rfl) (by kernel_rfl) (by kernel_rfl) hn
end Lw
namespace Lw
open PySem L2 M Bk
theorem Yqj{n:Nat}(hn:n≤4):Ycd [.int (n:Int)]=some (.lst ((allE n).map tpB)):=
 le4 (P:=fun n=>Ycd [.int (n:Int)]=some (.lst ((allE n).map tpB))) (by kernel_rfl) (by kernel_rfl) (by kernel_rfl) (by kernel_rfl) (by kernel_rfl) hn
end Lw
namespace Lw
open PySem L2 M Bk
noncomputable def grp{α:Type}:Nat→List α→List (List α)
 | 0,_=>[[]]
 | _+1,[]=>[]
 | c+1,x::l=>(grp c l).map (x::·)++grp (c+1) l
theorem Yj0{α:Type}(l:List α):grp 0 l=[[]]:=by cases l<;>rfl
theorem Ysf{α:Type}:∀(c:Nat) (l:List α),(grp c l).length≤(l.length+1) ^ c
 | 0,l=>by rw[Yj0];exact qt _
 | c+1,[]=>by simp[grp]
 | c+1,x::l=>by
   have h1:=Ysf c l
   have h2:=Ysf (c+1) l
   rw[grp,qy,qe,qq]
   have h3:(l.length+1) ^ (c+1)=(l.length+1) * (l.length+1) ^ c:=by rw[Nat.pow_succ,Nat.mul_comm]
   have h4:(l.length+1) ^ c≤(l.length+1+1) ^ c:=Nat.pow_le_pow_left (by lia) c
   have h5:(l.length+1+1) ^ (c+1)=(l.length+1+1) * (l.length+1+1) ^ c:=by rw[Nat.pow_succ,Nat.mul_comm]
   have h6:(l.length+1) * (l.length+1) ^ c≤(l.length+1) * (l.length+1+1) ^ c:=Nat.mul_le_mul_left _ h4
   rw[h5,Nat.add_mul,Nat.one_mul]
   rw[h3]at h2
   lia
theorem Yiw{α:Type}:∀(c:Nat) (l:List α) {g:List α},g∈grp c l→g.length=c∧g.Sublist l
 | 0,l,g,h=>by
   rw[Yj0]at h
   rw[List.mem_singleton.mp h]
   exact⟨rfl,List.nil_sublist l⟩
 | c+1,[],g,h=>nomatch h
 | c+1,x::l,g,h=>by
   rw[grp]at h
   rcases qu h with h | h
   ·obtain⟨g',hg,rfl⟩:=qw h
    obtain⟨h1,h2⟩:=Yiw c l hg
    exact⟨by rw[qq,h1],h2.cons_cons x⟩
   ·obtain⟨h1,h2⟩:=Yiw (c+1) l h
    exact⟨h1,h2.cons x⟩
theorem Yxx{α:Type}{g l:List α}(h:g.Sublist l):g∈grp g.length l:=by
 induction h with
 | slnil=>exact qg
 | @cons g' l' a h ih=>
   cases g' with
   | nil=>
     show[]∈grp 0 (a::l')
     rw[Yj0]
     exact qg
   | cons y g'=>
     rw[qq,grp]
     exact Qj _ ih
 | @cons_cons g' l' a h ih=>
   rw[qq,grp]
   exact List.mem_append_left _ (List.mem_map_of_mem ih)
noncomputable abbrev grD{α:Type}(enc:α→D)(g:List α):D:=.lst (g.map enc)
theorem Yxy(l:List D)(i:Nat)(h:i≤l.length):cutD l (some (i:Int)) none=l.drop i:=by
 unfold cutD
 rw[HT.sIx_nat,HT.sIx_none,Nat.min_eq_left h]
 exact List.take_of_length_le (by simp)
theorem Ytn{α:Type}(enc:α→D)(df:α):∀(c j:Nat) (l:List α) {cd:D},cd=.lst (l.map enc)→c≤4→c < j→l.length≤20→Yay j [cd,.int (c:Int)]=some (.lst ((grp c l).map (grD enc)))
 | 0,j+1,l,cd,hcd,_,_,_=>by
   subst hcd
   rw[Yay,Ya8 (by rfl)]
   have hst:Yai 5 [D.lst (l.map enc),.int ((0:Nat):Int)]=[some (.sh (.lst (l.map enc))),some (.sh (.int ((0:Nat):Int))),none,none,none]:=rfl
   rw[hst]
   rw[Yj0]
   generalize l.map enc=L
   simp[Ygs]
 | c,0,l,cd,_,_,h,_=>absurd h (Nat.not_lt_zero _)
 | c+1,j+1,l,cd,hcd,hc4,hcj,hl=>by
   subst hcd
   rw[Yay,Ya8 (by rfl)]
   have hsplit:∀q:Nat,q < l.length→grp (c+1) (l.drop q)=(grp c (l.drop (q+1))).map (l.getD q df::·)++grp (c+1) (l.drop (q+1)):=fun q hq=>by
    have e:=List.drop_eq_getElem_cons hq
    rw[e,grp]
    simp[hq]
   have hpow:∀m:List α,m.length≤20→∀d,d≤4→(grp d m).length≤194481:=fun m hm d hd=>by
    refine Nat.le_trans (Ysf d m) ?_
    refine Nat.le_trans (Nat.pow_le_pow_left (show m.length+1≤21 by lia) d) ?_
    exact Nat.le_trans (Nat.pow_le_pow_right (by decide) hd) (by decide)
   obtain⟨ρ1,e1,acc,y3,y4,hacc,rfl⟩:=Ydf (gt:=Yyz 3 4) (fb:=Yek (Yay j)) (fun i:Nat=>D.tup [.int (i:Int),enc (l.getD i df)]) (fun pre ρ=>∃(acc:List (List α)) (y3 y4:Option B),acc++grp (c+1) (l.drop pre.length)=grp (c+1) l∧
    ρ=[some (.sh (.lst (l.map enc))),some (.sh (.int ((c+1:Nat):Int))),some (.ow (acc.map (grD enc))),y3,y4]) (List.range l.length) []
    [some (.sh (.lst (l.map enc))),some (.sh (.int ((c+1:Nat):Int))),some (.ow []),none,none] ⟨[],none,none,rfl,rfl⟩ (by
     rintro q a r ρ e ⟨acc,y3,y4,hacc,rfl⟩
     have hq:q.length < l.length:=by have:=congrArg List.length e;simp at this;lia
     have ha:a=q.length:=by
      rw[List.nil_append]at e
      have h1:(q++a::r)[q.length]?=some a:=by simp
      rw[←e,List.getElem?_range hq]at h1
      exact(Option.some.inj h1).symm
     subst ha
     have hrec:=Ytn enc df c j (l.drop (q.length+1)) (cd:=.lst ((l.drop (q.length+1)).map enc)) rfl (by lia) (by lia) (by rw[List.length_drop];lia)
     have hcut:cutD (l.map enc) (some ((q.length:Int)+1)) none=(l.drop (q.length+1)).map enc:=by
      have:=Yxy (l.map enc) (q.length+1) (by rw[qe];lia)
      rw[List.map_drop]
      simpa using this
     have hcm:=Yfi (fe:=Ycs (Yay j)) (r:=[some (.sh (enc (l.getD q.length df)))]) (enc:=grD enc) (fun g=>grD enc (l.getD q.length df::g)) (l:=grp c (l.drop (q.length+1))) (fun g hg=>by
      have hgl:=(Yiw c _ hg).1
      have hcat:catD (.lst [enc (l.getD q.length df)]) (.lst (g.map enc))=some (enc (l.getD q.length df)::g.map enc):=by
       rw[y3r,if_pos (by rw[qe,hgl];show 1+c≤1000000;lia)]
       rfl
      show Ycs _ [some (.sh (.lst (g.map enc))),some (.sh (enc (l.getD q.length df)))]=some (D.lst (enc (l.getD q.length df)::g.map enc))
      generalize enc (l.getD q.length df)=EE at *
      generalize g.map enc=GE at *
      simp[Ycs,hcat])
     have hg1:=hpow l hl (c+1) hc4
     have hacl:(acc++(grp c (l.drop (q.length+1))).map (l.getD q.length df::·)).length≤194481:=by
      have:=congrArg List.length hacc
      rw[hsplit q.length hq,←List.append_assoc,qy]at this
      lia
     have hext:extD (acc.map (grD enc)) (.lst ((grp c (l.drop (q.length+1))).map fun g=>grD enc (l.getD q.length df::g)))=some ((acc++(grp c (l.drop (q.length+1))).map (l.getD q.length df::·)).map (grD enc)):=by
      unfold extD
      rw[qy,qe]at hacl
      simp only[Yds,qc]
      rw[if_pos (by rw[qe,qe];show _≤1000000;lia),List.map_append,List.map_map]
      rfl
     refine⟨_,[some (.sh (.lst (l.map enc))),some (.sh (.int ((c+1:Nat):Int))),some (.ow ((acc++(grp c (l.drop (q.length+1))).map (l.getD q.length df::·)).map (grD enc))),some (.sh (.int (q.length:Int))),some (.sh (enc (l.getD q.length df)))],rfl,?_,_,_,_,?_,rfl⟩
     ·have hc1:((c+1:Nat):Int) - 1=(c:Int):=by lia
      generalize (acc++(grp c (l.drop (q.length+1))).map (l.getD q.length df::·)).map (grD enc)=R2 at *
      generalize (grp c (l.drop (q.length+1))).map (fun g=>grD enc (l.getD q.length df::g))=R1 at *
      generalize (grp c (l.drop (q.length+1))).map (grD enc)=R0 at *
      generalize acc.map (grD enc)=R3 at *
      generalize enc (l.getD q.length df)=EE at *
      generalize (l.drop (q.length+1)).map enc=LD at *
      generalize l.map enc=LL at *
      simp[Yek,hcut,hc1,hrec,capR,hcm,hext]
     ·rw[qy]
      show _++grp (c+1) (l.drop (q.length+1))=_
      rw[List.append_assoc,←hsplit q.length hq]
      exact hacc)
   have hfin:acc=grp (c+1) l:=by
    rw[List.nil_append,List.length_range,List.drop_length,grp,List.append_nil]at hacc
    exact hacc
   subst hfin
   have hen:Ynb (l.map enc)=(List.range l.length).map fun i:Nat=>D.tup [.int (i:Int),enc (l.getD i df)]:=Yxi enc df l
   have hst:Yai 5 [D.lst (l.map enc),.int ((c+1:Nat):Int)]=[some (.sh (.lst (l.map enc))),some (.sh (.int ((c+1:Nat):Int))),none,none,none]:=rfl
   have hc0:¬((c+1:Nat):Int)=0:=by lia
   rw[hst]
   rw[←hen]at e1
   generalize (grp (c+1) l).map (grD enc)=GG at *
   generalize l.map enc=LL at *
   generalize ((c+1:Nat):Int)=ci at *
   simp[Ygs,hc0]at e1 ⊢
   rw[e1]
   simp
theorem Ysg{α:Type}(enc:α→D)(df:α){c:Nat}{l:List α}(hc:c≤4)(hl:l.length≤20):Yb4 [.lst (l.map enc),.int (c:Int)]=some (.lst ((grp c l).map (grD enc))):=Ytn enc df c 12 l rfl hc (by lia) hl
end Lw
namespace Lw
open PySem L2 M Bk
noncomputable def smg{α:Type}(m:Nat)(l:List α):List (List α):=(List.range (m+1)).flatMap fun c=>grp c l
theorem mem_smg{α:Type}{m:Nat}{l g:List α}:g∈smg m l↔g.length≤m∧g.Sublist l:=by
 unfold smg
 rw[List.mem_flatMap]
 constructor
 ·rintro⟨c,hc,hg⟩
  obtain⟨h1,h2⟩:=Yiw c l hg
  have:=Qa hc
  exact⟨by lia,h2⟩
 ·rintro⟨h1,h2⟩
  exact⟨g.length,List.mem_range.mpr (by lia),Yxx h2⟩
noncomputable def sayN(n:Nat):List Say:=(List.range n).map (·,false)++(List.range n).map (·,true)
noncomputable def hdD:Rl→D
 | .ei l=>.lst (l.map sayD)
 | .su b o=>.tup [.lst (b.map nD),.bl o]
 | .im b h=>.tup [.lst (b.map nD),optD h]
noncomputable def RO:Kd→Nat→List Rl
 | .e,n=>(smg 2 (sayN n)).map .ei
 | .s,n=>(smg n (List.range n)).flatMap fun b=>[false,true].map (.su b)
 | .i,n=>(smg n (List.range n)).flatMap fun b=>(none::(List.range n).map some).map (.im b)
 | .n,n=>(smg n (List.range n)).flatMap fun b=>(none::(List.range n).map some).map (.im b)
theorem Yqk(k:Kd){n:Nat}(hn:n≤4):Ya0 [kdD k,.int (n:Int)]=some (.lst ((RO k n).map hdD)):=by
 cases k
 ·exact le4 (P:=fun n=>Ya0 [kdD .e,.int (n:Int)]=some (.lst ((RO .e n).map hdD))) (by kernel_rfl) (by kernel_rfl) (by kernel_rfl) (by kernel_rfl) (by kernel_rfl) hn
 ·exact le4 (P:=fun n=>Ya0 [kdD .s,.int (n:Int)]=some (.lst ((RO .s n).map hdD))) (by kernel_rfl) (by kernel_rfl) (by kernel_rfl) (by kernel_rfl) (by kernel_rfl) hn
 ·exact le4 (P:=fun n=>Ya0 [kdD .i,.int (n:Int)]=some (.lst ((RO .i n).map hdD))) (by kernel_rfl) (by kernel_rfl) (by kernel_rfl) (by kernel_rfl) (by kernel_rfl) hn
 ·exact le4 (P:=fun n=>Ya0 [kdD .n,.int (n:Int)]=some (.lst ((RO .n n).map hdD))) (by kernel_rfl) (by kernel_rfl) (by kernel_rfl) (by kernel_rfl) (by kernel_rfl) hn
end Lw
namespace Lw
open PySem L2 M Bk
theorem Yz2(k:Kd){n:Nat}(hn:n≤4):(RO k n).map (fun r=>(allE n).map fun ev=>Yar [kdD k,hdD r,tpB ev])=(RO k n).map fun r=>(allE n).map fun ev=>some (.bl (so k ev r)):=by
 cases k
 ·exact le4 (P:=fun n=>(RO .e n).map (fun r=>(allE n).map fun ev=>Yar [kdD .e,hdD r,tpB ev])=(RO .e n).map fun r=>(allE n).map fun ev=>some (.bl (so .e ev r))) (by kernel_rfl) (by kernel_rfl) (by kernel_rfl) (by kernel_rfl) (by kernel_rfl) hn
 ·exact le4 (P:=fun n=>(RO .s n).map (fun r=>(allE n).map fun ev=>Yar [kdD .s,hdD r,tpB ev])=(RO .s n).map fun r=>(allE n).map fun ev=>some (.bl (so .s ev r))) (by kernel_rfl) (by kernel_rfl) (by kernel_rfl) (by kernel_rfl) (by kernel_rfl) hn
 ·exact le4 (P:=fun n=>(RO .i n).map (fun r=>(allE n).map fun ev=>Yar [kdD .i,hdD r,tpB ev])=(RO .i n).map fun r=>(allE n).map fun ev=>some (.bl (so .i ev r))) (by kernel_rfl) (by kernel_rfl) (by kernel_rfl) (by kernel_rfl) (by kernel_rfl) hn
 ·exact le4 (P:=fun n=>(RO .n n).map (fun r=>(allE n).map fun ev=>Yar [kdD .n,hdD r,tpB ev])=(RO .n n).map fun r=>(allE n).map fun ev=>some (.bl (so .n ev r))) (by kernel_rfl) (by kernel_rfl) (by kernel_rfl) (by kernel_rfl) (by kernel_rfl) hn
theorem Yxz{k:Kd}{n:Nat}(hn:n≤4){r:Rl}(hr:r∈RO k n){ev:List Bool}(hl:ev.length=n):Yar [kdD k,hdD r,tpB ev]=some (.bl (so k ev r)):=
 List.map_inj_left.mp (List.map_inj_left.mp (Yz2 k hn) r hr) ev (Yjz n hl)
theorem Ymh{k:Kd}{n:Nat}{r:Rl}(hn:n≤4)(hr:r∈RO k n){T:List (List Bool)}(hT:∀ev∈T,ev.length=n){c:D}(hc:Yn c=some (T.map tpB)):Ybu [kdD k,hdD r,c]=some (.bl (T.all fun ev=>so k ev r)):=by
 have h:=Yfi (fe:=Ycn) (r:=[some (.sh (kdD k)),some (.sh (hdD r))]) (enc:=tpB) (fun ev=>.bl (so k ev r)) (l:=T) (fun ev hev=>by
  have:=Yxz hn hr (hT ev hev)
  generalize hdD r=R at *
  generalize tpB ev=E at *
  simp[Ycn,this])
 have hm:(T.map fun ev=>D.bl (so k ev r))=(T.map fun ev=>so k ev r).map D.bl:=by rw[List.map_map];rfl
 rw[hm]at h
 have hall:(T.map fun ev=>so k ev r).all id=T.all fun ev=>so k ev r:=by rw[List.all_map];rfl
 rw[Ybu,Ya8 (by rfl)]
 have hst:Yai 3 [kdD k,hdD r,c]=[some (.sh (kdD k)),some (.sh (hdD r)),some (.sh c)]:=rfl
 rw[hst,←hall]
 generalize (T.map fun ev=>so k ev r)=bs at *
 generalize T.map tpB=TT at *
 generalize hdD r=R at *
 simp[Ygc,hc,capR,h]
end Lw
namespace Lw
open PySem L2 M Bk
noncomputable def cntK:Kd→Nat
 | .e=>3
 | .s=>3
 | .i=>2
 | .n=>2
noncomputable def blE(k:Kd)(n:Nat)(g:List (List Bool)):List Bool:=(List.range n).map fun b=>blL k (cntE g b)
noncomputable def Yql(k:Kd)(n:Nat)(T:List (List Bool)):Option (List (List Bool)):=(grp (cntK k) T).find? fun g=>!decide (blE k n g∈T)
noncomputable def y3t:Option (List (List Bool))→D
 | none=>.non
 | some g=>grD tpB g
theorem Yqm{k:Kd}{n:Nat}(hn:n≤4){T:List (List Bool)}(hT:∀ev∈T,ev.length=n):∀(gs:List (List (List Bool))) (y:Option B),(∀g∈gs,g≠[]∧∀ev∈g,ev∈T)→
 (∃y',M.forM (gSet 2) Yao (gs.map (grD tpB)) [some (.sh (kdD k)),some (.sh (.lst (T.map tpB))),y]=some (.nx [some (.sh (kdD k)),some (.sh (.lst (T.map tpB))),y'])∧gs.find? (fun g=>!decide (blE k n g∈T))=none)∨
 (∃g,M.forM (gSet 2) Yao (gs.map (grD tpB)) [some (.sh (kdD k)),some (.sh (.lst (T.map tpB))),y]=some (.rt (grD tpB g))∧gs.find? (fun g=>!decide (blE k n g∈T))=some g)
 | [],y,_=>.inl ⟨y,by simp,rfl⟩
 | g::gs,y,h=>by
   obtain⟨hne,hg⟩:=h g qg
   have hb:Yeu [kdD k,grD tpB g]=some (tpB (blE k n g)):=by
    cases g with
    | nil=>exact absurd rfl hne
    | cons e g=>exact Yxv (c:=grD tpB (e::g)) rfl (by lia) (fun x hx=>hT x (hg x hx)) k
   have hin:=Yxw (c:=.lst (T.map tpB)) (blE k n g) T true rfl
   have hgs:gSet 2 (grD tpB g) [some (.sh (kdD k)),some (.sh (.lst (T.map tpB))),y]=some [some (.sh (kdD k)),some (.sh (.lst (T.map tpB))),some (.sh (grD tpB g))]:=rfl
   rw[Qc,M.forM,hgs,qc,List.find?_cons]
   by_cases hm:blE k n g∈T
   ·have hst:Yao [some (.sh (kdD k)),some (.sh (.lst (T.map tpB))),some (.sh (grD tpB g))]=some (.nx [some (.sh (kdD k)),some (.sh (.lst (T.map tpB))),some (.sh (grD tpB g))]):=by
     rw[decide_eq_true hm]at hin
     generalize tpB (blE k n g)=BE at *
     generalize D.lst (T.map tpB)=TT at *
     generalize grD tpB g=GG at *
     simp[Yao,hb,hin]
    rw[hst,qc]
    have hd:(!decide (blE k n g∈T))=false:=by simp[hm]
    rw[hd]
    exact Yqm hn hT gs _ fun x hx=>h x (qf _ hx)
   ·right
    have hst:Yao [some (.sh (kdD k)),some (.sh (.lst (T.map tpB))),some (.sh (grD tpB g))]=some (.rt (grD tpB g)):=by
     rw[decide_eq_false hm]at hin
     generalize tpB (blE k n g)=BE at *
     generalize D.lst (T.map tpB)=TT at *
     generalize grD tpB g=GG at *
     simp[Yao,hb,hin]
    have hd:(!decide (blE k n g∈T))=true:=by simp[hm]
    rw[hst,qc,hd]
    exact⟨g,rfl,rfl⟩
theorem Ylo{k:Kd}{n:Nat}(hn:n≤4){T:List (List Bool)}(hT:∀ev∈T,ev.length=n)(hl:T.length≤20):Ybo [kdD k,.lst (T.map tpB)]=some (y3t (Yql k n T)):=by
 rw[Ybo,Ya8 (by rfl)]
 have hg:=Ysg tpB [] (c:=cntK k) (l:=T) (by cases k<;>decide) hl
 have hck:Yi3 gt_BLENDED_COUNTS (kdD k)=some (.int ((cntK k:Nat):Int)):=by
  have h:gt_BLENDED_COUNTS.lookup (kS k)=some ((cntK k:Nat):Int):=by cases k<;>decide +kernel
  show(gt_BLENDED_COUNTS.lookup (kS k)).map D.int=_
  rw[h]
  rfl
 have hgs:∀g∈grp (cntK k) T,g≠[]∧∀ev∈g,ev∈T:=fun g hg=>by
  obtain⟨h1,h2⟩:=Yiw _ _ hg
  refine⟨fun z=>?_,fun ev hev=>h2.subset hev⟩
  rw[z]at h1
  cases k<;>cases h1
 have hst:Yai 3 [kdD k,.lst (T.map tpB)]=[some (.sh (kdD k)),some (.sh (.lst (T.map tpB))),none]:=rfl
 rw[hst,Yfq,Yak]
 have h1:b1 (cC (Yg (getV 1) (Yg (b1 (getC 0) (Yi3 gt_BLENDED_COUNTS)) aNil)) Yb4) Yn [some (.sh (kdD k)),some (.sh (.lst (T.map tpB))),none]=some ((grp (cntK k) T).map (grD tpB)):=by
  have h2:Yg (getV 1) (Yg (b1 (getC 0) (Yi3 gt_BLENDED_COUNTS)) aNil) [some (.sh (kdD k)),some (.sh (.lst (T.map tpB))),none]=some [.lst (T.map tpB),.int ((cntK k:Nat):Int)]:=by
   generalize T.map tpB=TT
   simp[hck,-Yug]
  rw[Yzr,Yno,h2,qc,hg,qc,Yds]
 rw[Ygk,h1,qc]
 rcases Yqm hn hT (grp (cntK k) T) none hgs with⟨y',hw,hf⟩ | ⟨g,hw,hf⟩
 ·rw[hw,qc,Yac]
  unfold Yql
  rw[hf]
  rfl
 ·rw[hw,qc]
  unfold Yql
  rw[hf]
  rfl
end Lw
namespace Lw
open PySem L2 M Bk
theorem Yqn{b:List Nat}{n:Nat}(h:b.Sublist (List.range n)):b.Pairwise (· < ·)∧∀x∈b,x < n:=⟨List.pairwise_lt_range.sublist h,fun x hx=>Qa (h.subset hx)⟩
theorem Yx0(n:Nat):(sayN n).Nodup:=by
 unfold sayN
 refine List.nodup_append.mpr ⟨?_,?_,fun x hx y hy z=>?_⟩
 ·rw[List.nodup_iff_pairwise_ne,List.pairwise_map]
  exact List.nodup_range.imp fun h z=>h (by simpa using z)
 ·rw[List.nodup_iff_pairwise_ne,List.pairwise_map]
  exact List.nodup_range.imp fun h z=>h (by simpa using z)
 ·obtain⟨a,_,rfl⟩:=qw hx
  obtain⟨b,_,rfl⟩:=qw hy
  cases z
theorem y3u{n:Nat}{s:Say}(h:s∈sayN n):s.1 < n:=by
 rcases qu h with h | h
 ·obtain⟨a,ha,rfl⟩:=qw h
  exact Qa ha
 ·obtain⟨a,ha,rfl⟩:=qw h
  exact Qa ha
noncomputable def mkR:Rl→Rl
 | .ei [a,b]=>if plt (b.1:Int) b.2 (a.1:Int) a.2=true then .ei [b,a]else .ei [a,b]
 | r=>r
theorem Yz3(k:Kd){n:Nat}(hn:n≤4):(RO k n).map (fun r=>Ybl [kdD k,hdD r])=(RO k n).map fun r=>some (rlD (mkR r)):=by
 cases k
 ·exact le4 (P:=fun n=>(RO .e n).map (fun r=>Ybl [kdD .e,hdD r])=(RO .e n).map fun r=>some (rlD (mkR r))) (by kernel_rfl) (by kernel_rfl) (by kernel_rfl) (by kernel_rfl) (by kernel_rfl) hn
 ·exact le4 (P:=fun n=>(RO .s n).map (fun r=>Ybl [kdD .s,hdD r])=(RO .s n).map fun r=>some (rlD (mkR r))) (by kernel_rfl) (by kernel_rfl) (by kernel_rfl) (by kernel_rfl) (by kernel_rfl) hn
 ·exact le4 (P:=fun n=>(RO .i n).map (fun r=>Ybl [kdD .i,hdD r])=(RO .i n).map fun r=>some (rlD (mkR r))) (by kernel_rfl) (by kernel_rfl) (by kernel_rfl) (by kernel_rfl) (by kernel_rfl) hn
 ·exact le4 (P:=fun n=>(RO .n n).map (fun r=>Ybl [kdD .n,hdD r])=(RO .n n).map fun r=>some (rlD (mkR r))) (by kernel_rfl) (by kernel_rfl) (by kernel_rfl) (by kernel_rfl) (by kernel_rfl) hn
theorem y3v{a b:Say}(h:plt (b.1:Int) b.2 (a.1:Int) a.2=true):slt b a:=by
 unfold plt at h
 by_cases z:(b.1:Int)=(a.1:Int)
 ·rw[if_pos z,Qi,Bool.not_eq_true']at h
  exact .inr ⟨by lia,h.1,h.2⟩
 ·rw[if_neg z]at h
  have:=of_decide_eq_true h
  exact .inl (by lia)
theorem y3w{a b:Say}(hab:a≠b)(h:plt (b.1:Int) b.2 (a.1:Int) a.2=false):slt a b:=by
 unfold plt at h
 by_cases z:(b.1:Int)=(a.1:Int)
 ·rw[if_pos z]at h
  obtain⟨x,p⟩:=a
  obtain⟨y,q⟩:=b
  have hxy:x=y:=by simp only at z;lia
  subst hxy
  refine .inr ⟨rfl,?_⟩
  cases p<;>cases q<;>simp at h hab ⊢
 ·rw[if_neg z]at h
  have:=of_decide_eq_false h
  exact .inl (by lia)
theorem mk_e{l:List Say}(h2:l.length≤2)(hn:l.Nodup):∃l',mkR (.ei l)=.ei l'∧l'.Perm l∧l'.Pairwise slt:=by
 rcases l with _ | ⟨a,_ | ⟨b,_ | ⟨c,r⟩⟩⟩
 ·exact⟨[],rfl,.refl _,.nil⟩
 ·exact⟨[a],rfl,.refl _,by simp⟩
 ·have hab:a≠b:=by simpa using hn
  cases hp:plt (b.1:Int) b.2 (a.1:Int) a.2 with
  | true=>exact⟨[b,a],by show(if _=true then _ else _)=_;rw[if_pos hp],.swap _ _ _,by simpa using y3v hp⟩
  | false=>exact⟨[a,b],by show(if _=true then _ else _)=_;rw[if_neg (by rw[hp];decide)],.refl _,by simpa using y3w hab hp⟩
 ·simp at h2
theorem Yx1{k:Kd}{n:Nat}(hn:n≤4){r:Rl}(hr:r∈RO k n):In k n r∧∃r',In k n r'∧In k 60 r'∧Srt r'∧mkR r=r'∧∀ev,so k ev r'=so k ev r:=by
 have him:∀k',(k'=.i∨k'=.n)→r∈((smg n (List.range n)).flatMap fun b=>(none::(List.range n).map some).map (Rl.im b))→In k' n r∧∃r',In k' n r'∧In k' 60 r'∧Srt r'∧mkR r=r'∧∀ev,so k' ev r'=so k' ev r:=fun k' hk' h=>by
  obtain⟨b,hb,h⟩:=List.mem_flatMap.mp h
  obtain⟨h1,h2⟩:=mem_smg.mp hb
  obtain⟨p1,p2⟩:=Yqn h2
  obtain⟨o,ho,rfl⟩:=qw h
  have ho':∀x,o=some x→x < n:=fun x hx=>by
   subst hx
   rcases qr ho with z | z
   ·cases z
   ·obtain⟨y,hy,e⟩:=qw z
    cases e
    exact Qa hy
  have hin:In k' n (.im b o):=⟨hk',p2,ho'⟩
  exact⟨hin,.im b o,hin,⟨hk',fun x hx=>Qd (p2 x hx) (by lia),fun x hx=>Qd (ho' x hx) (by lia)⟩,p1,rfl,fun _=>rfl⟩
 cases k with
 | e=>
   obtain⟨l,hl,rfl⟩:=qw hr
   obtain⟨h1,h2⟩:=mem_smg.mp hl
   have hlt:∀s∈l,s.1 < n:=fun s hs=>y3u (h2.subset hs)
   obtain⟨l',q0,q1,q2⟩:=mk_e h1 ((Yx0 n).sublist h2)
   have hlt':∀s∈l',s.1 < n:=fun s hs=>hlt s (q1.mem_iff.mp hs)
   refine⟨⟨rfl,hlt⟩,.ei l',⟨rfl,hlt'⟩,⟨rfl,fun s hs=>Qd (hlt' s hs) (by lia)⟩,⟨by rw[q1.length_eq];exact h1,q2⟩,q0,fun ev=>?_⟩
   show l'.any _=l.any _
   rw[Bool.eq_iff_iff,List.any_eq_true,List.any_eq_true]
   constructor
   ·rintro⟨x,hx,e⟩;exact⟨x,q1.mem_iff.mp hx,e⟩
   ·rintro⟨x,hx,e⟩;exact⟨x,q1.mem_iff.mpr hx,e⟩
 | s=>
   obtain⟨b,hb,h⟩:=List.mem_flatMap.mp hr
   obtain⟨h1,h2⟩:=mem_smg.mp hb
   obtain⟨p1,p2⟩:=Yqn h2
   obtain⟨o,ho,rfl⟩:=qw h
   exact⟨⟨rfl,p2⟩,.su b o,⟨rfl,p2⟩,⟨rfl,fun x hx=>Qd (p2 x hx) (by lia)⟩,p1,rfl,fun _=>rfl⟩
 | i=>exact him .i (.inl rfl) hr
 | n=>exact him .n (.inr rfl) hr
theorem Yto{k:Kd}{n:Nat}(hn:n≤4):∀{acc:List Rl},(∀r∈acc,r∈RO k n)→∃R':List Rl,(∀r∈R',In k n r∧In k 60 r∧Srt r)∧acc.map mkR=R'∧R'.length=acc.length∧∀ev,(R'.all fun r=>so k ev r)=acc.all fun r=>so k ev r
 | [],_=>⟨[],fun _ h=>(nomatch h),rfl,rfl,fun _=>rfl⟩
 | r::acc,h=>by
   obtain⟨R',h1,h2,h3,h4⟩:=Yto hn (acc:=acc) fun x hx=>h x (qf _ hx)
   obtain⟨_,r',a1,a2,a3,a4,a5⟩:=Yx1 hn (h r qg)
   refine⟨r'::R',fun x hx=>?_,by rw[Qc,a4,h2],by simp[h3],fun ev=>by rw[List.all_cons,List.all_cons,a5,h4]⟩
   rcases qr hx with rfl | hx
   ·exact⟨a1,a2,a3⟩
   ·exact h1 x hx
theorem Yqo{k:Kd}{n:Nat}(hn:n≤4){acc:List Rl}(h:∀r∈acc,r∈RO k n)(hl:acc.length≤60):Ydt [kdD k,.lst (acc.map hdD)]=some (Yb3 k (acc.map mkR)):=by
 rw[Ydt,Ya8 (by rfl)]
 have hcm:=Yfi (fe:=Yei) (r:=[some (.sh (kdD k))]) (enc:=hdD) (fun r=>rlD (mkR r)) (l:=acc) (fun r hr=>by
  have h1:=List.map_inj_left.mp (Yz3 k hn) r (h r hr)
  generalize hdD r=HR at *
  generalize rlD (mkR r)=RR at *
  simp[Yei,h1])
 have hm:(acc.map fun r=>rlD (mkR r))=(acc.map mkR).map rlD:=by rw[List.map_map];rfl
 rw[hm]at hcm
 have hle:¬(60:Int) < ((acc.map hdD).length:Int):=by rw[qe];lia
 have hk:=Yz1 k
 unfold Yb3
 generalize (acc.map mkR).map rlD=RR at *
 generalize acc.map hdD=HH at *
 simp[Yk5,Yai,kdD,isiD,Yy1,Yha,hk,hle,capR]
 simp only[kdD]at hcm
 rw[hcm]
 simp
noncomputable def Yeg(k:Kd)(T:List (List Bool))(st:List Rl × List (List Bool))(r:Rl):List Rl × List (List Bool):=
 if (st.2.filter fun ev=>so k ev r).length < st.2.length∧(T.all fun ev=>so k ev r)=true then (st.1++[r],st.2.filter fun ev=>so k ev r)else st
theorem Ysh{k:Kd}{n:Nat}(hn:n≤4){T:List (List Bool)}(hT:∀ev∈T,ev.length=n)(d1:Option B):∀(rs acc:List Rl) (L:List (List Bool)) (b3 y5 y6:Option B),(∀r∈rs,r∈RO k n)→(∀ev∈L,ev.length=n)→acc.length+L.length≤16→(b3=some (.ow (L.map tpB))∨b3=some (.sh (.lst (L.map tpB))))→
 ∃b3' y5' y6':Option B,M.forM (gSet 5) Yef (rs.map hdD) [some (.sh (kdD k)),d1,some (.sh (.lst (T.map tpB))),b3,some (.ow (acc.map hdD)),y5,y6] =
  some (.nx [some (.sh (kdD k)),d1,some (.sh (.lst (T.map tpB))),b3',some (.ow ((rs.foldl (Yeg k T) (acc,L)).1.map hdD)),y5',y6'])
 | [],acc,L,b3,y5,y6,_,_,_,_=>⟨b3,y5,y6,by simp⟩
 | r::rs,acc,L,b3,y5,y6,hrs,hL,h16,hb3=>by
   have hrin:=(Yx1 hn (hrs r qg)).1
   have hcm:=Ytk (fc:=Yed) (fe:=Yee) (r:=[some (.sh (kdD k)),some (.sh (hdD r))]) (enc:=tpB) (fun ev=>so k ev r) tpB (l:=L) (fun ev hev=>by
    have:=Yxz hn (hrs r qg) (hL ev hev)
    generalize hdD r=R at *
    generalize tpB ev=E at *
    simp[Yed,this]) (fun ev _ _=>by simp[Yee])
   have hall:=Ymh hn (hrs r qg) hT (c:=.lst (T.map tpB)) rfl
   have hl1:(L.map tpB).length=L.length:=qe _
   have hl2:((L.filter fun ev=>so k ev r).map tpB).length=(L.filter fun ev=>so k ev r).length:=qe _
   have hgs:gSet 5 (hdD r) [some (.sh (kdD k)),d1,some (.sh (.lst (T.map tpB))),b3,some (.ow (acc.map hdD)),y5,y6]=some [some (.sh (kdD k)),d1,some (.sh (.lst (T.map tpB))),b3,some (.ow (acc.map hdD)),some (.sh (hdD r)),y6]:=rfl
   rw[Qc,M.forM,hgs,qc,List.foldl_cons]
   have hfz:frz [3] [some (.sh (kdD k)),d1,some (.sh (.lst (T.map tpB))),b3,some (.ow (acc.map hdD)),some (.sh (hdD r)),y6]=[some (.sh (kdD k)),d1,some (.sh (.lst (T.map tpB))),some (.sh (.lst (L.map tpB))),some (.ow (acc.map hdD)),some (.sh (hdD r)),y6]:=by
    rcases hb3 with rfl | rfl<;>rfl
   have s1:wF [3] (sOwn 6 (Yas (b1 (getV 3) Yn) [none,some 0,some 5] (gSet 0) (Yed) (Yee))) [some (.sh (kdD k)),d1,some (.sh (.lst (T.map tpB))),b3,some (.ow (acc.map hdD)),some (.sh (hdD r)),y6]=some (.nx [some (.sh (kdD k)),d1,some (.sh (.lst (T.map tpB))),some (.sh (.lst (L.map tpB))),some (.ow (acc.map hdD)),some (.sh (hdD r)),some (.ow ((L.filter fun ev=>so k ev r).map tpB))]):=by
    rw[Yxf,hfz]
    generalize (L.filter fun ev=>so k ev r).map tpB=L2 at *
    generalize L.map tpB=L1 at *
    generalize T.map tpB=TT at *
    generalize acc.map hdD=AA at *
    generalize hdD r=R at *
    simp[capR,hcm]
   rw[Yef,Yak,s1,qc,Yac]
   by_cases hc:(L.filter fun ev=>so k ev r).length < L.length∧(T.all fun ev=>so k ev r)=true
   ·have hst:Yeg k T (acc,L) r=(acc++[r],L.filter fun ev=>so k ev r):=if_pos hc
    rw[hst]
    have happ:appD (acc.map hdD) (hdD r)=some ((acc++[r]).map hdD):=by
     rw[y3n (by rw[qe];lia)]
     simp
    obtain⟨c3,c5,c6,ih⟩:=Ysh hn hT d1 rs (acc++[r]) (L.filter fun ev=>so k ev r) (some (.sh (.lst ((L.filter fun ev=>so k ev r).map tpB)))) (some (.sh (hdD r))) (some (.sh (.lst ((L.filter fun ev=>so k ev r).map tpB)))) (fun x hx=>hrs x (qf _ hx)) (fun ev hev=>hL ev (Qb hev).1) (by
     rw[qy]
     have:=hc.1
     simp only[qq,List.length_nil]
     lia) (.inr rfl)
    refine⟨c3,c5,c6,?_⟩
    have h1:(((L.filter fun ev=>so k ev r).map tpB).length:Int) < ((L.map tpB).length:Int):=by rw[hl1,hl2];lia
    rw[hc.2]at hall
    generalize (L.filter fun ev=>so k ev r).map tpB=L2 at *
    generalize L.map tpB=L1 at *
    generalize D.lst (T.map tpB)=TT at *
    generalize (acc++[r]).map hdD=A2 at *
    generalize acc.map hdD=AA at *
    generalize hdD r=R at *
    simp[h1,hall,happ]
    exact ih
   ·have hst:Yeg k T (acc,L) r=(acc,L):=if_neg hc
    rw[hst]
    obtain⟨c3,c5,c6,ih⟩:=Ysh hn hT d1 rs acc L (some (.sh (.lst (L.map tpB)))) (some (.sh (hdD r))) (some (.ow ((L.filter fun ev=>so k ev r).map tpB))) (fun x hx=>hrs x (qf _ hx)) hL h16 (.inr rfl)
    refine⟨c3,c5,c6,?_⟩
    by_cases h1:(L.filter fun ev=>so k ev r).length < L.length
    ·have h1':(((L.filter fun ev=>so k ev r).map tpB).length:Int) < ((L.map tpB).length:Int):=by rw[hl1,hl2];lia
     have h2:(T.all fun ev=>so k ev r)=false:=by
      cases h:(T.all fun ev=>so k ev r)
      ·rfl
      ·exact absurd ⟨h1,h⟩ hc
     rw[h2]at hall
     generalize (L.filter fun ev=>so k ev r).map tpB=L2 at *
     generalize L.map tpB=L1 at *
     generalize D.lst (T.map tpB)=TT at *
     generalize acc.map hdD=AA at *
     generalize hdD r=R at *
     simp[h1',hall]
     exact ih
    ·have h1':¬(((L.filter fun ev=>so k ev r).map tpB).length:Int) < ((L.map tpB).length:Int):=by rw[hl1,hl2];lia
     generalize (L.filter fun ev=>so k ev r).map tpB=L2 at *
     generalize L.map tpB=L1 at *
     generalize D.lst (T.map tpB)=TT at *
     generalize acc.map hdD=AA at *
     generalize hdD r=R at *
     simp[h1']
     exact ih
theorem Ysi{k:Kd}{T:List (List Bool)}:∀(rs acc:List Rl) (L:List (List Bool)),(∀r∈(rs.foldl (Yeg k T) (acc,L)).1,r∈acc∨r∈rs)∧(rs.foldl (Yeg k T) (acc,L)).1.length+(rs.foldl (Yeg k T) (acc,L)).2.length≤acc.length+L.length∧
 (∀r∈(rs.foldl (Yeg k T) (acc,L)).1,r∈acc∨(T.all fun ev=>so k ev r)=true)∧(∀r∈acc,r∈(rs.foldl (Yeg k T) (acc,L)).1)∧
 (∀ev∈L,(∀r∈(rs.foldl (Yeg k T) (acc,L)).1,so k ev r=true)→ev∈(rs.foldl (Yeg k T) (acc,L)).2)∧
 (∀ev∈(rs.foldl (Yeg k T) (acc,L)).2,ev∈L∧∀r∈rs,(T.all fun ev=>so k ev r)=true→so k ev r=true)
 | [],acc,L=>⟨fun r h=>.inl h,qt _,fun r h=>.inl h,fun r h=>h,fun ev h _=>h,fun ev h=>⟨h,fun r hr=>nomatch hr⟩⟩
 | r::rs,acc,L=>by
   rw[List.foldl_cons]
   by_cases hc:(L.filter fun ev=>so k ev r).length < L.length∧(T.all fun ev=>so k ev r)=true
   ·have hst:Yeg k T (acc,L) r=(acc++[r],L.filter fun ev=>so k ev r):=if_pos hc
    rw[hst]
    obtain⟨h1,h2,h3,h4,h5,h6⟩:=Ysi (k:=k) (T:=T) rs (acc++[r]) (L.filter fun ev=>so k ev r)
    refine⟨fun x hx=>?_,?_,fun x hx=>?_,fun x hx=>h4 x (List.mem_append_left _ hx),fun ev hev hall=>?_,fun ev hev=>?_⟩
    ·rcases h1 x hx with z | z
     ·rcases qu z with z | z
      ·exact .inl z
      ·rw[List.mem_singleton.mp z];exact .inr qg
     ·exact .inr (qf _ z)
    ·rw[qy]at h2
     have:=hc.1
     simp only[qq,List.length_nil]at h2
     lia
    ·rcases h3 x hx with z | z
     ·rcases qu z with z | z
      ·exact .inl z
      ·rw[List.mem_singleton.mp z];exact .inr hc.2
     ·exact .inr z
    ·exact h5 ev (List.mem_filter.mpr ⟨hev,hall r (h4 r (by simp))⟩) hall
    ·obtain⟨z1,z2⟩:=h6 ev hev
     obtain⟨z3,z4⟩:=Qb z1
     refine⟨z3,fun x hx hT=>?_⟩
     rcases qr hx with rfl | hx
     ·exact z4
     ·exact z2 x hx hT
   ·have hst:Yeg k T (acc,L) r=(acc,L):=if_neg hc
    rw[hst]
    obtain⟨h1,h2,h3,h4,h5,h6⟩:=Ysi (k:=k) (T:=T) rs acc L
    refine⟨fun x hx=>?_,h2,h3,h4,h5,fun ev hev=>?_⟩
    ·rcases h1 x hx with z | z
     ·exact .inl z
     ·exact .inr (qf _ z)
    ·obtain⟨z1,z2⟩:=h6 ev hev
     refine⟨z1,fun x hx hT=>?_⟩
     rcases qr hx with rfl | hx
     ·have hnl:¬(L.filter fun ev=>so k ev x).length < L.length:=fun z=>hc ⟨z,hT⟩
      have hle:=List.length_filter_le (fun ev=>so k ev x) L
      have heq:=List.length_filter_eq_length_iff.mp (show(L.filter fun ev=>so k ev x).length=L.length by lia)
      exact heq ev z1
     ·exact z2 x hx hT
noncomputable def Yix(n:Nat)(T:List (List Bool)):List (List Bool):=(allE n).filter fun ev=>!decide (ev∈T)
theorem Yx2{k:Kd}{n:Nat}(hn:n≤4){T:List (List Bool)}(hT:∀ev∈T,ev.length=n):∃R':List Rl,Yfp [kdD k,.int (n:Int),.lst (T.map tpB)]=some (Yb3 k R')∧R'.length≤16∧(∀r∈R',In k n r∧In k 60 r∧Srt r)∧
 (∀ev∈T,(R'.all fun r=>so k ev r)=true)∧(∀ev,ev.length=n→ev∉T→(∃r∈RO k n,(T.all fun e=>so k e r)=true∧so k ev r=false)→(R'.all fun r=>so k ev r)=false):=by
 have hal:=Ymg hn
 have hro:=Yqk k hn
 have hL:∀ev∈Yix n T,ev.length=n:=fun ev h=>Yhz n (Qb h).1
 have hL16:(Yix n T).length≤16:=by
  have h1:=List.length_filter_le (fun ev=>!decide (ev∈T)) (allE n)
  rw[Yln]at h1
  have h2:2 ^ n≤2 ^ 4:=Nat.pow_le_pow_right (by decide) hn
  unfold Yix
  lia
 obtain⟨b3,y5,y6,hw⟩:=Ysh hn hT (some (.sh (.int (n:Int)))) (RO k n) [] (Yix n T) (some (.ow ((Yix n T).map tpB))) none none (fun r h=>h) hL (by simpa using hL16) (.inl rfl)
 obtain⟨f1,f2,f3,f4,f5,f6⟩:=Ysi (k:=k) (T:=T) (RO k n) [] (Yix n T)
 generalize (RO k n).foldl (Yeg k T) ([],Yix n T)=fin at *
 have hfin:∀r∈fin.1,r∈RO k n:=fun r hr=>by
  rcases f1 r hr with z | z
  ·exact nomatch z
  ·exact z
 obtain⟨R',m1,m2,m3,m4⟩:=Yto hn hfin
 have hlen:R'.length≤16:=by rw[m3];simp only[List.length_nil]at f2;lia
 have hbm:=Yqo hn hfin (by rw[←m3];lia)
 rw[m2]at hbm
 refine⟨R',?_,hlen,m1,fun ev hev=>?_,fun ev hl hnt ⟨r,hr,hrT,hre⟩=>?_⟩
 ·rw[Yfp,Ya8 (by rfl)]
  have hcm:=Ytk (fc:=Yeb) (fe:=Yec) (r:=[some (.sh (.lst (T.map tpB)))]) (enc:=tpB) (fun ev=>!decide (ev∈T)) tpB (l:=allE n) (fun ev _=>by
   have hin:=Yxw (c:=.lst (T.map tpB)) ev T true rfl
   generalize D.lst (T.map tpB)=TT at *
   generalize tpB ev=E at *
   simp[Yeb,hin]) (fun ev _ _=>by simp[Yec])
  have hst:Yai 7 [kdD k,.int (n:Int),.lst (T.map tpB)]=[some (.sh (kdD k)),some (.sh (.int (n:Int))),some (.sh (.lst (T.map tpB))),none,none,none,none]:=rfl
  have s0:sOwn 3 (Yas (b1 (cC (Yg (getV 1) aNil) Ybc) Yn) [none,some 2] (gSet 0) (Yeb) (Yec)) [some (.sh (kdD k)),some (.sh (.int (n:Int))),some (.sh (.lst (T.map tpB))),none,none,none,none]=some (.nx [some (.sh (kdD k)),some (.sh (.int (n:Int))),some (.sh (.lst (T.map tpB))),some (.ow ((Yix n T).map tpB)),none,none,none]):=by
   have h1:Yg (getV 1) aNil [some (.sh (kdD k)),some (.sh (.int (n:Int))),some (.sh (.lst (T.map tpB))),none,none,none,none]=some [.int (n:Int)]:=by simp
   rw[Yxc,Yjw,Yzr,Yno,h1,qc,hal,qc,Yds,qc]
   have h2:capR [none,some 2] [some (.sh (kdD k)),some (.sh (.int (n:Int))),some (.sh (.lst (T.map tpB))),none,none,none,none]=[none,some (.sh (.lst (T.map tpB)))]:=rfl
   rw[h2,hcm]
   rfl
  have s1:sOwn 4 (dLst aNil) [some (.sh (kdD k)),some (.sh (.int (n:Int))),some (.sh (.lst (T.map tpB))),some (.ow ((Yix n T).map tpB)),none,none,none]=some (.nx [some (.sh (kdD k)),some (.sh (.int (n:Int))),some (.sh (.lst (T.map tpB))),some (.ow ((Yix n T).map tpB)),some (.ow []),none,none]):=by simp
  have s2:sFor (b1 (cC (Yg (getV 0) (Yg (getV 1) aNil)) Ya0) Yn) (gSet 5) Yef [some (.sh (kdD k)),some (.sh (.int (n:Int))),some (.sh (.lst (T.map tpB))),some (.ow ((Yix n T).map tpB)),some (.ow []),none,none]=some (.nx [some (.sh (kdD k)),some (.sh (.int (n:Int))),some (.sh (.lst (T.map tpB))),b3,some (.ow (fin.1.map hdD)),y5,y6]):=by
   have h1:Yg (getV 0) (Yg (getV 1) aNil) [some (.sh (kdD k)),some (.sh (.int (n:Int))),some (.sh (.lst (T.map tpB))),some (.ow ((Yix n T).map tpB)),some (.ow []),none,none]=some [kdD k,.int (n:Int)]:=by simp
   rw[Ygk,Yzr,Yno,h1,qc,hro,qc,Yds,qc]
   exact hw
  rw[hst,Yp7,Yak,s0,qc,Yac,Yli,Yak,s1,qc,Yac,Ylh,Yak,s2,qc,Yac,Ylg,Yxf]
  have fz:frz [4] [some (.sh (kdD k)),some (.sh (.int (n:Int))),some (.sh (.lst (T.map tpB))),b3,some (.ow (fin.1.map hdD)),y5,y6]=[some (.sh (kdD k)),some (.sh (.int (n:Int))),some (.sh (.lst (T.map tpB))),b3,some (.sh (.lst (fin.1.map hdD))),y5,y6]:=rfl
  rw[fz]
  have h1:Yg (getV 0) (Yg (getV 4) aNil) [some (.sh (kdD k)),some (.sh (.int (n:Int))),some (.sh (.lst (T.map tpB))),b3,some (.sh (.lst (fin.1.map hdD))),y5,y6]=some [kdD k,.lst (fin.1.map hdD)]:=by simp
  rw[Yxd,Yno,h1,qc,hbm]
  rfl
 ·rw[m4,List.all_eq_true]
  intro r hr
  rcases f3 r hr with z | z
  ·exact nomatch z
  ·exact List.all_eq_true.mp z ev hev
 ·rw[m4]
  cases h:(fin.1.all fun r=>so k ev r)
  ·rfl
  ·exfalso
   have hmem:ev∈Yix n T:=List.mem_filter.mpr ⟨Yjz n hl,by simpa using hnt⟩
   have h5:=f5 ev hmem fun r hr=>List.all_eq_true.mp h r hr
   have:=(f6 ev h5).2 r hr hrT
   rw[hre]at this
   exact nomatch this
end Lw
namespace Lw
open PySem L2 M Bk
noncomputable abbrev lsB(x:List Bool):D:=.lst (x.map D.bl)
theorem Ysj{n:Nat}(hn:n≤4):Ydu [.int (n:Int)]=some (.bl true):=by
 rw[Ydu,Ya8 (by rfl)]
 have h:(n:Int)≤4:=by lia
 have h1:isiD "int" (D.int (n:Int))=some true:=rfl
 have h2:isiD "bool" (D.int (n:Int))=some false:=rfl
 simp[Yk8,Yai,h,h1,h2]
theorem Yog{n:Nat}(hn:n≤4){α:Type}{evo:α→List Bool}{Y:List α}(hX:∀y∈Y,(evo y).length=n){enc:α→D}(he:∀x,lenC [enc x]=some (.int ((evo x).length:Int))){c:D}(hc:Yn c=some (Y.map enc)):Ybb [.int (n:Int),c]=some .non:=by
 have h:=Yfi (fe:=Yc9) (r:=[some (.sh (.int (n:Int)))]) (enc:=enc) (fun ev=>.bl true) (l:=Y) (fun ev hev=>by
  have:=hX ev hev
  have he':=he ev
  generalize enc ev=E at *
  simp[Yc9,this,he'])
 have hm:(Y.map fun ev=>D.bl true)=(Y.map fun _=>true).map D.bl:=by rw[List.map_map];rfl
 rw[hm]at h
 have hall:(Y.map fun _=>true).all id=true:=by simp
 rw[Ybb,Ya8 (by rfl)]
 have hst:Yai 2 [.int (n:Int),c]=[some (.sh (.int (n:Int))),some (.sh c)]:=rfl
 rw[hst]
 have hl:=Ysj hn
 generalize (Y.map fun _=>true)=bs at *
 generalize Y.map enc=XX at *
 simp[Yhj,hl,capR,hc,h,Function.comp_def,-List.all_map,-List.map_map]
 have hnf:¬false∈bs:=by simpa using hall
 simp[hnf]
noncomputable def tabE(n:Nat)(X:List (List Bool)):List (List Bool):=(allB n).filter fun x=>decide (x∈X)
theorem Yh0{n:Nat}{X:List (List Bool)}(hX:∀ev∈X,ev.length=n){x:List Bool}:x∈tabE n X↔x∈X:=by
 unfold tabE
 rw[List.mem_filter]
 constructor
 ·rintro⟨_,h⟩;simpa using h
 ·exact fun h=>⟨by have:=Yjs x;rwa [hX x h]at this,by simpa using h⟩
theorem Yoh{n:Nat}{X:List (List Bool)}:∀ev∈tabE n X,ev.length=n:=fun ev h=>Ye2 n (Qb h).1
theorem y3x{n:Nat}(hn:n≤4)(X:List (List Bool)):(tabE n X).length≤16:=by
 have h1:=List.length_filter_le (fun x=>decide (x∈X)) (allB n)
 rw[Yks]at h1
 have h2:2 ^ n≤2 ^ 4:=Nat.pow_le_pow_right (by decide) hn
 unfold tabE
 lia
theorem y3y(n:Nat)(X:List (List Bool)):(tabE n X).Nodup:=by
 have h:(tabE n X).Pairwise fun x y=>bV x < bV y:=(Yrl n).filter _
 exact h.imp fun h z=>by rw[z]at h;lia
theorem y62{n:Nat}(hn:n≤4){X:List (List Bool)}(hX:∀ev∈X,ev.length=n):Yw6 (X.map tpB)=some ((tabE n X).map tpB):=by
 unfold Yw6
 rw[Yta,qc]
 cases X with
 | nil=>
   have:tabE n []=[]:=by unfold tabE;simp
   rw[this]
   rfl
 | cons x X=>
   have hx:x.length=n:=hX x qg
   have hc:x.length≤4∧((x::X).all fun y=>y.length==x.length)=true:=⟨by lia,List.all_eq_true.mpr fun y hy=>by rw[hX y hy,hx];simp⟩
   show(if x.length≤4∧((x::X).all fun y=>y.length==x.length)=true then _ else _)=_
   rw[if_pos hc,hx]
   rfl
theorem Yoi{k:Kd}{n:Nat}(hn:n≤4){X:List (List Bool)}(hX:∀ev∈X,ev.length=n){α:Type}{evo:α→List Bool}{Y:List α}(hY:Y.map evo=X){enc:α→D}(he:∀x,lenC [enc x]=some (.int ((evo x).length:Int)))(he2:∀x,tupC [enc x]=some (tpB (evo x))){c:D}(hc:Yn c=some (Y.map enc)) :
 (∃g,Yql k n (tabE n X)=some g∧Ya1 [kdD k,.int (n:Int),c]=some (.tup [.str "blend",grD tpB g]))∨
 (Yql k n (tabE n X)=none∧∃R':List Rl,Ya1 [kdD k,.int (n:Int),c]=some (.tup [.str "book",Yb3 k R'])∧R'.length≤16∧(∀r∈R',In k n r∧In k 60 r∧Srt r)∧
 (∀ev∈tabE n X,(R'.all fun r=>so k ev r)=true)∧(∀ev,ev.length=n→ev∉tabE n X→(∃r∈RO k n,((tabE n X).all fun e=>so k e r)=true∧so k ev r=false)→(R'.all fun r=>so k ev r)=false)):=by
 have hT:∀ev∈tabE n X,ev.length=n:=Yoh
 have h16:=y3x hn X
 have hck:=Yog hn (fun y hy=>hX _ (by rw[←hY];exact List.mem_map_of_mem hy)) he hc
 have hlb:=Ylo (k:=k) hn hT (by lia)
 obtain⟨R',hb,hrest⟩:=Yx2 (k:=k) hn hT
 have hss:=y62 hn hX
 have hcm:=Yfi (fe:=Ycc) (r:=[]) (enc:=enc) (fun y=>tpB (evo y)) (l:=Y) (fun y _=>by
  have h2:=he2 y
  generalize tpB (evo y)=TE at *
  generalize enc y=E at *
  simp[Ycc,h2])
 have hmY:(Y.map fun y=>tpB (evo y))=X.map tpB:=by rw[←hY,List.map_map];rfl
 rw[hmY]at hcm
 have hst:Yai 5 [kdD k,.int (n:Int),c]=[some (.sh (kdD k)),some (.sh (.int (n:Int))),some (.sh c),none,none]:=rfl
 have s1:sOwn 3 (Yf2 (lF (Yas (b1 (getV 2) Yn) [none] (gSet 0) tY (Ycc)))) [some (.sh (kdD k)),some (.sh (.int (n:Int))),some (.sh c),none,none]=some (.nx [some (.sh (kdD k)),some (.sh (.int (n:Int))),some (.sh c),some (.ow ((tabE n X).map tpB)),none]):=by
  generalize (tabE n X).map tpB=TT at *
  generalize X.map tpB=XT at *
  generalize Y.map enc=XX at *
  simp[capR,hc,hcm,hss]
 cases hlk:Yql k n (tabE n X)with
 | some g=>
   left
   refine⟨g,rfl,?_⟩
   rw[hlk]at hlb
   rw[Ya1,Ya8 (by rfl),hst,Yfr,Yak]
   have s0:sExp (cC (Yg (getV 1) (Yg (getV 2) aNil)) Ybb) [some (.sh (kdD k)),some (.sh (.int (n:Int))),some (.sh c),none,none]=some (.nx [some (.sh (kdD k)),some (.sh (.int (n:Int))),some (.sh c),none,none]):=by
    simp[hck]
   rw[s0,qc,Yac,Yem,Yak,s1,qc,Yac]
   have hd:y3t (some g)=grD tpB g:=rfl
   rw[hd]at hlb
   have hnn:∃l,grD tpB g=.lst l:=⟨_,rfl⟩
   generalize (tabE n X).map tpB=TT at *
   generalize grD tpB g=GG at *
   obtain⟨gl,rfl⟩:=hnn
   simp[hlb]
 | none=>
   right
   refine⟨rfl,R',?_,hrest⟩
   rw[hlk]at hlb
   rw[Ya1,Ya8 (by rfl),hst,Yfr,Yak]
   have s0:sExp (cC (Yg (getV 1) (Yg (getV 2) aNil)) Ybb) [some (.sh (kdD k)),some (.sh (.int (n:Int))),some (.sh c),none,none]=some (.nx [some (.sh (kdD k)),some (.sh (.int (n:Int))),some (.sh c),none,none]):=by
    simp[hck]
   rw[s0,qc,Yac,Yem,Yak,s1,qc,Yac]
   have hd:y3t none=.non:=rfl
   rw[hd]at hlb
   generalize (tabE n X).map tpB=TT at *
   generalize Yb3 k R'=BB at *
   simp[hlb,hb]
end Lw
namespace Lw
open PySem L2 M Bk
theorem Ysk(k:Kd)(n:Nat)(g:List (List Bool)):(blE k n g).length=n:=by simp[blE]
theorem Yqp(k:Kd){n:Nat}(g:List (List Bool)){j:Nat}(hj:j < n):at' (blE k n g) j=blL k (cntE g j):=by
 unfold blE at'
 simp[hj]
theorem Yqq{n:Nat}{a b:List Bool}(ha:a.length=n)(hb:b.length=n)(h:∀j,j < n→at' a j=at' b j):a=b:=by
 refine List.ext_getElem (by rw[ha,hb]) fun j h1 h2=>?_
 have:=h j (by lia)
 unfold at' at this
 simpa [h1,h2]using this
theorem Yx3{g h:List (List Bool)}(p:g.Perm h)(j:Nat):cntE g j=cntE h j:=(p.filter _).length_eq
theorem Yoj{g h:List (List Bool)}(p:g.Perm h)(k:Kd)(n:Nat):blE k n g=blE k n h:=by
 unfold blE
 refine List.map_congr_left fun j _=>?_
 rw[Yx3 p]
theorem Yfu(a:List Bool)(g:List (List Bool))(j:Nat):cntE (a::g) j=cntE g j+if at' a j=true then 1 else 0:=by
 unfold cntE
 rw[List.filter_cons]
 by_cases h:at' a j=true
 ·rw[if_pos h,if_pos h,qq]
 ·rw[if_neg h,if_neg h];rfl
theorem Ytp(j:Nat):cntE [] j=0:=rfl
theorem bl2{k:Kd}(hk:cntK k=2)(a:List Bool)(j:Nat):blL k (cntE [a,a] j)=at' a j:=by
 rw[Yfu,Yfu,Ytp]
 cases k<;>first | (cases hk;done) | (cases at' a j<;>rfl)
theorem bl3{k:Kd}(hk:cntK k=3){a b:List Bool}(j:Nat):blL k (cntE [a,a,b] j)=if k=.e then at' a j else at' b j:=by
 rw[Yfu,Yfu,Yfu,Ytp]
 cases k<;>first | (cases hk;done) | (cases at' a j<;>cases at' b j<;>rfl)
theorem y3z{k:Kd}{n:Nat}{S:List (List Bool)}(hl:S.length=cntK k)(hS:∀ev∈S,ev.length=n)(hd:¬S.Nodup):blE k n S∈S:=by
 have two:∀a,S.Perm [a,a]→cntK k=2→blE k n S∈S:=fun a p hk=>by
  have ha:a∈S:=p.mem_iff.mpr (by simp)
  have:blE k n S=a:=by
   rw[Yoj p]
   exact Yqq (Ysk _ _ _) (hS a ha) fun j hj=>by rw[Yqp k _ hj,bl2 hk]
  rw[this];exact ha
 have three:∀a b,S.Perm [a,a,b]→cntK k=3→blE k n S∈S:=fun a b p hk=>by
  have ha:a∈S:=p.mem_iff.mpr (by simp)
  have hb:b∈S:=p.mem_iff.mpr (by simp)
  have:blE k n S=if k=.e then a else b:=by
   rw[Yoj p]
   refine Yqq (Ysk _ _ _) (by split;exact hS a ha;exact hS b hb) fun j hj=>?_
   rw[Yqp k _ hj,bl3 hk]
   by_cases he:k=.e
   ·rw[if_pos he,if_pos he]
   ·rw[if_neg he,if_neg he]
  rw[this]
  split
  ·exact ha
  ·exact hb
 have hk:cntK k=2∨cntK k=3:=by cases k<;>simp[cntK]
 rcases hk with hk | hk
 ·rw[hk]at hl
  match S,hl with
  | [a,b],_=>
    have:a=b:=by
     by_cases h:a=b
     ·exact h
     ·exact absurd (by simp[h]) hd
    subst this
    exact two a (.refl _) hk
 ·rw[hk]at hl
  match S,hl with
  | [a,b,c],_=>
    by_cases h1:a=b
    ·subst h1;exact three a c (.refl _) hk
    ·by_cases h2:a=c
     ·subst h2;exact three a b ((List.Perm.swap a b []).cons a) hk
     ·by_cases h3:b=c
      ·subst h3
       exact three b a ((List.Perm.swap b a [b]).trans ((List.Perm.swap b a []).cons b)) hk
      ·exact absurd (by simp[h1,h2,h3]) hd
theorem Yx4{k:Kd}{n:Nat}{T:List (List Bool)}(hT:∀ev∈T,ev.length=n)(hnd:T.Nodup)(h:Yql k n T=none){S:List (List Bool)}(hl:S.length=cntK k)(hS:∀ev∈S,ev∈T):blE k n S∈T:=by
 by_cases hd:S.Nodup
 ·have hg:(T.filter fun x=>decide (x∈S)).Perm S:=(List.perm_ext_iff_of_nodup (hnd.filter _) hd).mpr fun x=>by
   rw[List.mem_filter]
   constructor
   ·rintro⟨_,h⟩;simpa using h
   ·exact fun hx=>⟨hS x hx,by simpa using hx⟩
  have hmem:(T.filter fun x=>decide (x∈S))∈grp (cntK k) T:=by
   have:=Yxx (List.filter_sublist (p:=fun x=>decide (x∈S)) (l:=T))
   rwa [hg.length_eq,hl]at this
  have h2:=List.find?_eq_none.mp h _ hmem
  rw[←Yoj hg]
  simpa using h2
 ·exact hS _ (y3z hl (fun ev hev=>hT ev (hS ev hev)) hd)
theorem Yx5{k:Kd}{n:Nat}{T g:List (List Bool)}(h:Yql k n T=some g):g.length=cntK k∧(∀ev∈g,ev∈T)∧blE k n g∉T:=by
 have h1:=List.find?_some h
 have h2:=Yiw _ _ (List.mem_of_find?_eq_some h)
 exact⟨h2.1,fun ev hev=>h2.2.subset hev,by simpa using h1⟩
end Lw
namespace Lw
open PySem L2 M Bk
def Cl(k:Kd)(n:Nat)(T:List (List Bool)):Prop:=∀S:List (List Bool),S.length=cntK k→(∀ev∈S,ev∈T)→blE k n S∈T
noncomputable def majT(a b c:Bool):Bool:=(a&&b)||(a&&c)||(b&&c)
theorem bT_e(a b c:List Bool)(x:Nat):blL .e (cntE [a,b,c] x)=majT (at' a x) (at' b x) (at' c x):=by
 unfold cntE
 cases h1:at' a x<;>cases h2:at' b x<;>cases h3:at' c x<;>simp[h1,h2,h3,blL,majT]
theorem bT_s(a b c:List Bool)(x:Nat):blL .s (cntE [a,b,c] x)=((at' a x != at' b x) != at' c x):=by
 unfold cntE
 cases h1:at' a x<;>cases h2:at' b x<;>cases h3:at' c x<;>simp[h1,h2,h3,blL]
theorem bT_w{k:Kd}(hk:k=.i∨k=.n)(a b:List Bool)(x:Nat):(blL k (cntE [a,b] x)==decide (k=.i))=((at' a x==decide (k=.i))&&(at' b x==decide (k=.i))):=by
 unfold cntE
 rcases hk with rfl | rfl<;>cases h1:at' a x<;>cases h2:at' b x<;>simp[h1,h2,blL]
theorem pix{n:Nat}{T:List (List Bool)}(hc:Cl .e n T){ev:List Bool}(h2:∀J:List Nat,J.length≤2→(∀j∈J,j < n)→∃t∈T,∀j∈J,at' t j=at' ev j):∀(m:Nat) (J:List Nat),J.length≤m→(∀j∈J,j < n)→∃t∈T,∀j∈J,at' t j=at' ev j
 | 0,J,hm,hJ=>h2 J (by lia) hJ
 | m+1,J,hm,hJ=>by
   match J,hm,hJ with
   | [],_,hJ=>exact h2 [] (by simp) hJ
   | [a],_,hJ=>exact h2 [a] (by simp) hJ
   | [a,b],_,hJ=>exact h2 [a,b] (by simp) hJ
   | a::b::c::J,hm,hJ=>
     simp only[qq]at hm
     have q:∀L:List Nat,L.length≤m→(∀j∈L,j∈a::b::c::J)→∃t∈T,∀j∈L,at' t j=at' ev j:=fun L hl hs=>pix hc h2 m L hl fun j hj=>hJ j (hs j hj)
     obtain⟨t1,m1,h1⟩:=q (b::c::J) (by simp only[qq];lia) (fun j hj=>qf _ hj)
     obtain⟨t2,m2,h2⟩:=q (a::c::J) (by simp only[qq];lia) (fun j hj=>by
      rcases qr hj with rfl | hj
      ·exact qg
      ·exact qf _ (qf _ hj))
     obtain⟨t3,m3,h3⟩:=q (a::b::J) (by simp only[qq];lia) (fun j hj=>by
      rcases qr hj with rfl | hj
      ·exact qg
      ·rcases qr hj with rfl | hj
       ·exact qf _ qg
       ·exact qf _ (qf _ (qf _ hj)))
     refine⟨blE .e n [t1,t2,t3],hc [t1,t2,t3] rfl (fun x hx=>?_),fun j hj=>?_⟩
     ·simp only[List.mem_cons,List.not_mem_nil,or_false]at hx
      rcases hx with rfl | rfl | rfl
      ·exact m1
      ·exact m2
      ·exact m3
     ·rw[Yqp .e _ (hJ j hj),bT_e]
      have two:(at' t1 j=at' ev j∧at' t2 j=at' ev j)∨(at' t1 j=at' ev j∧at' t3 j=at' ev j)∨(at' t2 j=at' ev j∧at' t3 j=at' ev j):=by
       rcases qr hj with rfl | hj
       ·exact .inr (.inr ⟨h2 _ qg,h3 _ qg⟩)
       ·rcases qr hj with rfl | hj
        ·exact .inr (.inl ⟨h1 _ qg,h3 _ (qf _ qg)⟩)
        ·exact .inl ⟨h1 _ (qf _ hj),h2 _ (qf _ hj)⟩
      rcases two with⟨p,q⟩ | ⟨p,q⟩ | ⟨p,q⟩<;>rw[p,q]<;>unfold majT
      ·cases at' ev j<;>cases at' t3 j<;>rfl
      ·cases at' ev j<;>cases at' t2 j<;>rfl
      ·cases at' ev j<;>cases at' t1 j<;>rfl
theorem y8g{n:Nat}{T:List (List Bool)}(hT:∀ev∈T,ev.length=n)(hc:Cl .e n T){ev:List Bool}(hl:ev.length=n)(hn:ev∉T):∃r∈RO .e n,(T.all fun e=>so .e e r)=true∧so .e ev r=false:=by
 have hex:∃J:List Nat,J.length≤2∧(∀j∈J,j < n)∧∀t∈T,∃j∈J,at' t j≠at' ev j:=by
  apply Classical.byContradiction
  intro hno
  obtain⟨t,ht,hj⟩:=pix hc (ev:=ev) (fun J h1 h2=>by
   apply Classical.byContradiction
   intro h3
   refine hno ⟨J,h1,h2,fun t ht=>?_⟩
   apply Classical.byContradiction
   intro h4
   refine h3 ⟨t,ht,fun j hj=>?_⟩
   apply Classical.byContradiction
   intro h5
   exact h4 ⟨j,hj,h5⟩) n (List.range n) (by simp) (fun j hj=>Qa hj)
  have:t=ev:=Yqq (hT t ht) hl fun j hjn=>hj j (List.mem_range.mpr hjn)
  exact hn (this ▸ ht)
 obtain⟨J,hJ2,hJn,hJ⟩:=hex
 have hsub:=List.filter_sublist (p:=fun s:Say=>decide (s.1∈J)&&s.2==!at' ev s.1) (l:=sayN n)
 refine⟨.ei ((sayN n).filter fun s=>decide (s.1∈J)&&s.2==!at' ev s.1),List.mem_map.mpr ⟨_,mem_smg.mpr ⟨?_,hsub⟩,rfl⟩,?_,?_⟩
 ·have hnd:=(Yx0 n).sublist hsub
  have hss:((sayN n).filter fun s=>decide (s.1∈J)&&s.2==!at' ev s.1)⊆J.map fun j=>(j,!at' ev j):=fun s hs=>by
   have:=(Qb hs).2
   simp only[Qi,decide_eq_true_eq,beq_iff_eq]at this
   exact List.mem_map.mpr ⟨s.1,this.1,by rw[←this.2]⟩
  have:=hnd.length_le_of_subset hss
  rw[qe]at this
  lia
 ·rw[List.all_eq_true]
  intro t ht
  obtain⟨j,hj,hne⟩:=hJ t ht
  show List.any _ _=true
  rw[List.any_eq_true]
  refine⟨(j,!at' ev j),List.mem_filter.mpr ⟨?_,?_⟩,?_⟩
  ·unfold sayN
   rw[List.mem_append]
   cases at' ev j
   ·exact .inr (List.mem_map.mpr ⟨j,List.mem_range.mpr (hJn j hj),rfl⟩)
   ·exact .inl (List.mem_map.mpr ⟨j,List.mem_range.mpr (hJn j hj),rfl⟩)
  ·simp[hj]
  ·show(at' t j==!at' ev j)=true
   revert hne
   cases at' t j<;>cases at' ev j<;>decide
 ·show List.any _ _=false
  rw[List.any_eq_false]
  intro s hs
  have:=(Qb hs).2
  simp only[Qi,decide_eq_true_eq,beq_iff_eq]at this
  rw[this.2]
  cases at' ev s.1<;>decide
theorem Yqr(k:Kd)(ev:List Bool)(b:List Nat)(h:Option Nat):so k ev (.im b h)=((b.any fun x=>at' ev x != decide (k=.i))||hd ev (decide (k=.i)) h):=rfl
theorem meet{k:Kd}(hk:k=.i∨k=.n){n:Nat}{T:List (List Bool)}(hc:Cl k n T):∀(L:List (List Bool)) (t0:List Bool),t0∈T→(∀t∈L,t∈T)→∃m∈T,∀j,j < n→(at' m j==decide (k=.i))=((t0::L).all fun t=>at' t j==decide (k=.i))
 | [],t0,h0,_=>⟨t0,h0,fun j _=>by simp⟩
 | t::L,t0,h0,hL=>by
   obtain⟨m,hm,hj⟩:=meet hk hc L t0 h0 fun x hx=>hL x (qf _ hx)
   refine⟨blE k n [m,t],hc [m,t] (by rcases hk with rfl | rfl<;>rfl) (fun x hx=>?_),fun j hjn=>?_⟩
   ·simp only[List.mem_cons,List.not_mem_nil,or_false]at hx
    rcases hx with rfl | rfl
    ·exact hm
    ·exact hL _ qg
   ·rw[Yqp k _ hjn,bT_w hk,hj j hjn]
    simp only[List.all_cons]
    cases (at' t0 j==decide (k=.i))<;>cases (at' t j==decide (k=.i))<;>cases (L.all fun t=>at' t j==decide (k=.i))<;>rfl
theorem y63{k:Kd}(hk:k=.i∨k=.n){n:Nat}{T:List (List Bool)}(hT:∀ev∈T,ev.length=n)(hc:Cl k n T){ev:List Bool}(hl:ev.length=n)(hn:ev∉T):∃r∈RO k n,(T.all fun e=>so k e r)=true∧so k ev r=false:=by
 obtain⟨b,hb⟩:∃b,b=(List.range n).filter fun j=>at' ev j==decide (k=.i):=⟨_,rfl⟩
 have hbs:b∈smg n (List.range n):=mem_smg.mpr ⟨by
  rw[hb]
  have:=List.length_filter_le (fun j=>at' ev j==decide (k=.i)) (List.range n)
  rwa [List.length_range]at this,by rw[hb];exact List.filter_sublist⟩
 have hbe:(b.any fun x=>at' ev x != decide (k=.i))=false:=by
  rw[List.any_eq_false]
  intro x hx
  rw[hb]at hx
  have:=(Qb hx).2
  simp only[bne,this]
  decide
 have hro:∀o,o∈none::(List.range n).map some→Rl.im b o∈RO k n:=fun o ho=>by
  rcases hk with rfl | rfl
  ·exact List.mem_flatMap.mpr ⟨b,hbs,List.mem_map.mpr ⟨o,ho,rfl⟩⟩
  ·exact List.mem_flatMap.mpr ⟨b,hbs,List.mem_map.mpr ⟨o,ho,rfl⟩⟩
 have hov:∀t∈T,(b.any fun x=>at' t x != decide (k=.i))=true∨t∈T.filter fun t=>!(b.any fun x=>at' t x != decide (k=.i)):=fun t ht=>by
  cases h:(b.any fun x=>at' t x != decide (k=.i))
  ·exact .inr (List.mem_filter.mpr ⟨ht,by rw[h];rfl⟩)
  ·exact .inl rfl
 cases hL:T.filter fun t=>!(b.any fun x=>at' t x != decide (k=.i))with
 | nil=>
   refine⟨.im b none,hro none qg,?_,?_⟩
   ·rw[List.all_eq_true]
    intro t ht
    rcases hov t ht with h | h
    ·rw[Yqr,h];rfl
    ·rw[hL]at h;exact nomatch h
   ·rw[Yqr,hbe];rfl
 | cons t0 L=>
   have hmem:∀t∈t0::L,t∈T∧∀x∈b,(at' t x==decide (k=.i))=true:=fun t ht=>by
    rw[←hL]at ht
    obtain⟨h1,h2⟩:=Qb ht
    refine⟨h1,fun x hx=>?_⟩
    simp only[Bool.not_eq_true',List.any_eq_false]at h2
    have:=h2 x hx
    simpa [bne]using this
   obtain⟨m,hm,hj⟩:=meet hk hc L t0 (hmem t0 qg).1 fun t ht=>(hmem t (qf _ ht)).1
   have hx:∃x,x < n∧(at' m x==decide (k=.i))=true∧(at' ev x==decide (k=.i))=false:=by
    apply Classical.byContradiction
    intro hno
    refine hn ?_
    have:m=ev:=Yqq (hT m hm) hl fun j hjn=>by
     cases he:(at' ev j==decide (k=.i))with
     | true=>
       have hjb:j∈b:=by rw[hb];exact List.mem_filter.mpr ⟨List.mem_range.mpr hjn,he⟩
       have h1:(at' m j==decide (k=.i))=true:=by
        rw[hj j hjn,List.all_eq_true]
        exact fun t ht=>(hmem t ht).2 j hjb
       rw[beq_iff_eq]at h1 he
       rw[h1,he]
     | false=>
       have h1:(at' m j==decide (k=.i))=false:=by
        cases h:(at' m j==decide (k=.i))
        ·rfl
        ·exact absurd ⟨j,hjn,h,he⟩ hno
       revert h1 he
       cases at' m j<;>cases at' ev j<;>cases decide (k=.i)<;>decide
    exact this ▸ hm
   obtain⟨x,hxn,hx1,hx2⟩:=hx
   refine⟨.im b (some x),hro _ (qf _ (List.mem_map.mpr ⟨x,List.mem_range.mpr hxn,rfl⟩)),?_,?_⟩
   ·rw[List.all_eq_true]
    intro t ht
    rcases hov t ht with h | h
    ·rw[Yqr,h];rfl
    ·rw[hL]at h
     have:(at' t x==decide (k=.i))=true:=by
      rw[hj x hxn,List.all_eq_true]at hx1
      exact hx1 t h
     rw[Yqr]
     show(_||(at' t x==decide (k=.i)))=true
     rw[this,Bool.or_true]
   ·rw[Yqr,hbe]
    exact hx2
noncomputable def pm:List Bool→List Bool→Bool
 | c::m,x::t=>(c&&x) != pm m t
 | _,_=>false
noncomputable def xo3:List Bool→List Bool→List Bool→List Bool
 | a::as,b::bs,c::cs=>((a != b) != c)::xo3 as bs cs
 | _,_,_=>[]
theorem Yx6:∀{n:Nat} {a b c:List Bool},a.length=n→b.length=n→c.length=n→(xo3 a b c).length=n
 | 0,[],[],[],_,_,_=>rfl
 | n+1,a::as,b::bs,c::cs,h1,h2,h3=>by
   simp only[qq,Nat.add_right_cancel_iff]at h1 h2 h3
   show(xo3 _ _ _).length+1=_
   rw[Yx6 h1 h2 h3]
theorem y09:∀{n:Nat} {a b c:List Bool},a.length=n→b.length=n→c.length=n→∀j,j < n→at' (xo3 a b c) j=((at' a j != at' b j) != at' c j)
 | n+1,a::as,b::bs,c::cs,h1,h2,h3,0,_=>rfl
 | n+1,a::as,b::bs,c::cs,h1,h2,h3,j+1,hj=>by
   simp only[qq,Nat.add_right_cancel_iff]at h1 h2 h3
   exact y09 h1 h2 h3 j (by lia)
theorem bb0:∀m a b c x y z:Bool,((m&&((a != b) != c)) != ((x != y) != z))=((((m&&a) != x) != ((m&&b) != y)) != ((m&&c) != z)):=by decide
theorem bb1:∀t u o:Bool,((t != u) != o)=o→t=u:=by decide
theorem bb2:∀x e:Bool,x=e∨x=!e:=by decide
theorem bb3:∀e o:Bool,((false&&e) != o)=o:=by decide
theorem bb4:∀e p o:Bool,p≠o→((false&&e) != p)≠o:=by decide
theorem bb5:∀u e o:Bool,¬u=o→((true&&!e) != u)=(e != o):=by decide
theorem bb6:∀e p o:Bool,p≠o→((true&&e) != p)≠(e != o):=by decide
theorem y1a:∀{n:Nat} {m a b c:List Bool},m.length=n→a.length=n→b.length=n→c.length=n→pm m (xo3 a b c)=((pm m a != pm m b) != pm m c)
 | 0,[],[],[],[],_,_,_,_=>rfl
 | n+1,m::ms,a::as,b::bs,c::cs,h0,h1,h2,h3=>by
   simp only[qq,Nat.add_right_cancel_iff]at h0 h1 h2 h3
   have ih:=y1a h0 h1 h2 h3
   show((m&&((a != b) != c)) != pm ms (xo3 as bs cs))=_
   rw[ih]
   exact bb0 _ _ _ _ _ _ _
theorem mask:∀(n:Nat) (P:List Bool→Prop),(∀t,P t→t.length=n)→(∀a b c,P a→P b→P c→P (xo3 a b c))→∀ev:List Bool,ev.length=n→¬P ev→∃(m:List Bool) (o:Bool),m.length=n∧(∀t,P t→pm m t=o)∧pm m ev≠o
 | 0,P,hP,hc,ev,hl,hn=>by
   cases ev with
   | cons x ev=>cases hl
   | nil=>
     refine⟨[],true,rfl,fun t ht=>?_,(fun z=>nomatch z)⟩
     have h:=hP t ht
     cases t with
     | nil=>exact absurd ht hn
     | cons x t=>cases h
 | n+1,P,hP,hc,ev,hl,hn=>by
   cases ev with
   | nil=>cases hl
   | cons e ev=>
     simp only[qq,Nat.add_right_cancel_iff]at hl
     have zer:∀t:List Bool,pm (List.replicate n false) t=false:=fun t=>by
      have:∀(k:Nat) (t:List Bool),pm (List.replicate k false) t=false:=fun k=>by
       induction k with
       | zero=>intro t;cases t<;>rfl
       | succ k ih=>intro t;cases t with
         | nil=>rfl
         | cons x t=>show((false&&x) != pm (List.replicate k false) t)=false;rw[ih];rfl
      exact this n t
     by_cases hne:∃s,P (e::s)
     ·obtain⟨s,hs⟩:=hne
      obtain⟨m,o,hm,h1,h2⟩:=mask n (fun t=>P (e::t)) (fun t ht=>by have:=hP _ ht;simpa using this) (fun a b c ha hb hcc=>by
       have h:=hc _ _ _ ha hb hcc
       have he:((e != e) != e)=e:=by cases e<;>rfl
       replace h:P (((e != e) != e)::xo3 a b c):=h
       rw[he]at h
       exact h) ev hl hn
      have hsl:s.length=n:=by have:=hP _ hs;simpa using this
      by_cases hne2:∃u,P ((!e)::u)
      ·obtain⟨u,hu⟩:=hne2
       have hul:u.length=n:=by have:=hP _ hu;simpa using this
       have hcon:∀t,P ((!e)::t)→pm m t=pm m u:=fun t ht=>by
        have htl:t.length=n:=by have:=hP _ ht;simpa using this
        have h:=hc _ _ _ ht hu hs
        have he:(((!e) != (!e)) != e)=e:=by cases e<;>rfl
        replace h:P ((((!e) != (!e)) != e)::xo3 t u s):=h
        rw[he]at h
        have h3:=h1 _ h
        rw[y1a hm htl hul hsl,h1 _ hs]at h3
        exact bb1 _ _ _ h3
       by_cases hco:pm m u=o
       ·refine⟨false::m,o,by simp[hm],fun t ht=>?_,?_⟩
        ·cases t with
         | nil=>have:=hP _ ht;cases this
         | cons x t=>
           rcases bb2 x e with rfl | rfl
           ·show((false&&_) != pm m t)=_;rw[h1 t ht];exact bb3 _ _
           ·show((false&&_) != pm m t)=_;rw[hcon t ht,hco];exact bb3 _ _
        ·exact bb4 _ _ _ h2
       ·refine⟨true::m,e != o,by simp[hm],fun t ht=>?_,?_⟩
        ·cases t with
         | nil=>have:=hP _ ht;cases this
         | cons x t=>
           rcases bb2 x e with rfl | rfl
           ·show((true&&_) != pm m t)=_;rw[h1 t ht,Bool.true_and]
           ·show((true&&_) != pm m t)=_
            rw[hcon t ht]
            exact bb5 _ _ _ hco
        ·exact bb6 _ _ _ h2
      ·refine⟨false::m,o,by simp[hm],fun t ht=>?_,?_⟩
       ·cases t with
        | nil=>have:=hP _ ht;cases this
        | cons x t=>
          rcases bb2 x e with rfl | rfl
          ·show((false&&_) != pm m t)=_;rw[h1 t ht];exact bb3 _ _
          ·exact absurd ⟨t,ht⟩ hne2
       ·exact bb4 _ _ _ h2
     ·refine⟨true::List.replicate n false,!e,by simp,fun t ht=>?_,?_⟩
      ·cases t with
       | nil=>have:=hP _ ht;cases this
       | cons x t=>
         rcases bb2 x e with rfl | rfl
         ·exact absurd ⟨t,ht⟩ hne
         ·show((true&&_) != pm _ t)=_;rw[zer];cases e<;>rfl
      ·show((true&&_) != pm _ ev)≠_
       rw[zer]
       cases e<;>decide
theorem Yx7:∀{n:Nat} {m t:List Bool},m.length=n→t.length=n→decide ((((List.range n).filter (at' m)).filter (at' t)).length % 2=1)=pm m t
 | 0,[],[],_,_=>rfl
 | n+1,c::m,x::t,h1,h2=>by
   simp only[qq,Nat.add_right_cancel_iff]at h1 h2
   have ih:=Yx7 h1 h2
   have hmap:(((List.range n).map Nat.succ).filter (at' (c::m))).filter (at' (x::t))=((((List.range n).filter (at' m)).filter (at' t)).map Nat.succ):=by
    rw[List.filter_map,List.filter_map]
    rfl
   rw[List.range_succ_eq_map,pm,←ih,List.filter_cons]
   have hc0:at' (c::m) 0=c:=rfl
   have hx0:at' (x::t) 0=x:=rfl
   generalize hL:((List.range n).filter (at' m)).filter (at' t)=L at *
   rw[hc0]
   cases c with
   | false=>
     rw[if_neg (by decide),hmap,qe]
     simp
   | true=>
     rw[if_pos rfl,List.filter_cons,hx0]
     cases x with
     | false=>
       rw[if_neg (by decide),hmap,qe]
       simp
     | true=>
       rw[if_pos rfl,qq,hmap,qe]
       by_cases h:L.length % 2=1
       ·have:¬(L.length+1) % 2=1:=by lia
        simp[h,this]
       ·have:(L.length+1) % 2=1:=by lia
        simp[h,this]
theorem y8h{n:Nat}{T:List (List Bool)}(hT:∀ev∈T,ev.length=n)(hc:Cl .s n T){ev:List Bool}(hl:ev.length=n)(hn:ev∉T):∃r∈RO .s n,(T.all fun e=>so .s e r)=true∧so .s ev r=false:=by
 obtain⟨m,o,hm,h1,h2⟩:=mask n (·∈T) hT (fun a b c ha hb hcc=>by
  have h:=hc [a,b,c] rfl (fun x hx=>by
   simp only[List.mem_cons,List.not_mem_nil,or_false]at hx
   rcases hx with rfl | rfl | rfl
   ·exact ha
   ·exact hb
   ·exact hcc)
  have he:blE .s n [a,b,c]=xo3 a b c:=Yqq (Ysk _ _ _) (Yx6 (hT a ha) (hT b hb) (hT c hcc)) fun j hj=>by
   rw[Yqp .s _ hj,bT_s,y09 (hT a ha) (hT b hb) (hT c hcc) j hj]
  rw[he]at h
  exact h) ev hl hn
 refine⟨.su ((List.range n).filter (at' m)) o,List.mem_flatMap.mpr ⟨_,mem_smg.mpr ⟨?_,List.filter_sublist⟩,List.mem_map.mpr ⟨o,by cases o<;>simp,rfl⟩⟩,?_,?_⟩
 ·have:=List.length_filter_le (at' m) (List.range n)
  rwa [List.length_range]at this
 ·rw[List.all_eq_true]
  intro t ht
  show(decide ((((List.range n).filter (at' m)).filter (at' t)).length % 2=1)==o)=true
  rw[Yx7 hm (hT t ht),h1 t ht]
  simp
 ·show(decide ((((List.range n).filter (at' m)).filter (at' ev)).length % 2=1)==o)=false
  rw[Yx7 hm hl]
  simpa using h2
theorem y30(k:Kd){n:Nat}{T:List (List Bool)}(hT:∀ev∈T,ev.length=n)(hc:Cl k n T){ev:List Bool}(hl:ev.length=n)(hn:ev∉T):∃r∈RO k n,(T.all fun e=>so k e r)=true∧so k ev r=false:=by
 cases k with
 | e=>exact y8g hT hc hl hn
 | s=>exact y8h hT hc hl hn
 | i=>exact y63 (.inl rfl) hT hc hl hn
 | n=>exact y63 (.inr rfl) hT hc hl hn
end Lw
namespace Lw
open PySem L2 M Bk
noncomputable def par(l:List Nat)(f:Nat→Bool):Bool:=decide ((l.filter f).length % 2=1)
noncomputable def two:Rl→Prop
 | .ei l=>l.length≤2
 | _=>True
end Lw
namespace Lw
open PySem L2 M Bk
theorem Yfv{b n:Nat}(h:b < n):Ya2 [.int (b:Int),.int (n:Int)]=some (.bl true):=by
 rw[Ya2,Ya8 (by rfl)]
 have h1:isiD "int" (D.int (b:Int))=some true:=rfl
 have h2:isiD "bool" (D.int (b:Int))=some false:=rfl
 simp[Yi4,Yai,h1,h2,h]
theorem Yqs{s:Say}{n:Nat}(h:s.1 < n):Yc1 [sayD s,.int (n:Int)]=some (.bl true):=by
 rw[Yc1,Ya8 (by rfl)]
 obtain⟨x,b⟩:=s
 have h1:isiD "tuple" (.tup [.int (x:Int),.bl b])=some true:=rfl
 have h2:isiD "bool" (D.bl b)=some true:=rfl
 have h3:=Yfv h
 simp[Yi6,Yai,h1,h2,h3,sayD]
theorem Yx8:∀{l:List Nat} {m n:Nat},(∀x∈l,m≤x∧x < n)→l.Pairwise (· < ·)→l.length+m≤max n m
 | [],m,n,_,_=>by simp;lia
 | a::l,m,n,h,hp=>by
   obtain⟨h1,h2⟩:=List.pairwise_cons.mp hp
   have ha:=h a qg
   have:=Yx8 (l:=l) (m:=a+1) (n:=n) (fun x hx=>⟨h1 x hx,(h x (qf _ hx)).2⟩) h2
   rw[qq]
   lia
theorem Yja{l:List Nat}{n:Nat}(hn:n≤1000)(hl:∀x∈l,x < n)(hp:l.Pairwise (· < ·)):Yc0 [.tup (l.map nD),.int (n:Int)]=some (.bl true):=by
 rw[Yc0,Ya8 (by rfl)]
 have hty:isiD "tuple" (.tup (l.map nD))=some true:=rfl
 have hlen:l.length≤1000:=by
  have:=Yx8 (l:=l) (m:=0) (n:=n) (fun x hx=>⟨Qe _,hl x hx⟩) hp
  lia
 obtain⟨ρ',e1,y,rfl⟩:=Ydf (gt:=gSet 2) (fb:=Yce) (fun i:Nat=>D.int (0+(i:Nat))) (fun _ ρ=>∃y:Option B,ρ=[some (.sh (.tup (l.map nD))),some (.sh (.int (n:Int))),y]) (List.range l.length) []
  [some (.sh (.tup (l.map nD))),some (.sh (.int (n:Int))),none] ⟨none,rfl⟩ (by
   rintro q a r ρ e ⟨y,rfl⟩
   have haW:a < l.length:=Qa (by rw[List.nil_append]at e;rw[e];simp)
   have hat:ixD (.tup (l.map nD)) (.int (a:Int))=some (nD l[a]):=by
    simp[Yfh,Yd8 haW]
   have hb:=Yfv (hl _ (qx haW))
   refine⟨_,[some (.sh (.tup (l.map nD))),some (.sh (.int (n:Int))),some (.sh (.int (0+(a:Int))))],rfl,?_,_,rfl⟩
   cases a with
   | zero=>
     generalize D.tup (l.map nD)=LD at *
     simp at hat
     simp[Yce,hat,nD,hb]
   | succ a=>
     have haW':a < l.length:=by lia
     have hat':ixD (.tup (l.map nD)) (.int (a:Int))=some (nD l[a]):=by
      simp[Yfh,Yd8 haW']
     have hlt:l[a] < l[a+1]:=List.pairwise_iff_getElem.mp hp a (a+1) haW' haW (qz a)
     have hz:(0:Int)+((a+1:Nat):Int) - 1=(a:Int):=by lia
     have hge:¬((l[a+1]:Nat):Int)≤((l[a]:Nat):Int):=by lia
     have hpos:(0:Int) < (a:Int)+1:=by lia
     generalize D.tup (l.map nD)=LD at *
     generalize l[a]=la at *
     generalize l[a+1]=lb at *
     simp at hat hat' hz
     simp[Yce,hat,hat',nD,hb,hpos]
     lia)
 have hr:=Ygm (n:=(l.length:Int)) (by lia) (by lia)
 rw[Ygl]at hr
 have hst:Yai 3 [D.tup (l.map nD),.int (n:Int)]=[some (.sh (.tup (l.map nD))),some (.sh (.int (n:Int))),none]:=rfl
 rw[hst]
 have hit:Yn (.tup (l.map nD))=some (l.map nD):=rfl
 generalize hLL:D.tup (l.map nD)=LD at *
 simp at hr e1
 simp[Yi5,hty,hit,hr,e1]
end Lw
namespace Lw
open PySem L2 M Bk
theorem Yx9{l:List D}(h:PlL l)(hd:depL l≤50)(neg:Bool):eqM neg (.lst l) (.lst l)=some (!neg):=by
 have e:dep (.lst l)≤60:=by rw[y3m];lia
 rw[Yga e e,y3k,Ynq l h]
 cases neg<;>rfl
theorem y31(l:List Say):PlL (l.map sayD):=PlL_iff.mpr fun d hd=>by
 obtain⟨s,_,rfl⟩:=qw hd
 simp[sayD,Pl,PlL]
theorem Yz4{l:List Say}(h2:l.length≤2)(hp:l.Pairwise slt)(h60:∀s∈l,s.1 < 60):Yrh (l.map sayD)=some (l.map sayD):=by
 rcases l with _ | ⟨a,_ | ⟨b,_ | ⟨c,r⟩⟩⟩
 ·rfl
 ·rfl
 ·have hab:slt a b:=by simpa using hp
  have hne:a≠b:=fun z=>by
   subst z
   rcases hab with h | ⟨_,h1,h2⟩
   ·exact Qf _ h
   ·rw[h1]at h2;cases h2
  have hH:=y8f (h60 a qg) (h60 b (qf _ qg)) hne
  have e1:Yrh ([a,b].map sayD)=if ((a.1:Int),a.2)=((b.1:Int),b.2)then some [sayD a]else if pH ((a.1:Int),a.2)≠pH ((b.1:Int),b.2)then some (if plt (b.1:Int) b.2 (a.1:Int) a.2=true then [sayD b,sayD a]else [sayD a,sayD b])else none:=rfl
  have hne':¬((a.1:Int),a.2)=((b.1:Int),b.2):=fun z=>hH (by rw[z])
  have hpl:plt (b.1:Int) b.2 (a.1:Int) a.2=false:=by
   unfold plt
   rcases hab with h | ⟨h0,h1,h2⟩
   ·rw[if_neg (by lia)]
    exact decide_eq_false (by lia)
   ·rw[if_pos (by lia),h1,h2]
    rfl
  rw[e1,if_neg hne',if_pos hH,hpl]
  rfl
 ·simp at h2
theorem Yqt{k:Kd}{r:Rl}{n:Nat}(hn:n≤4)(hr:In k n r)(hs:Srt r):Yc3 [kdD k,rlD r,.int (n:Int)]=some (.bl true):=by
 rw[Yc3,Ya8 (by rfl)]
 cases r with
 | ei l=>
   obtain⟨rfl,hl⟩:=hr
   have hty:isiD "tuple" (.tup (l.map sayD))=some true:=rfl
   have hcm:=Yfi (fe:=Ydz) (r:=[some (.sh (.int (n:Int)))]) (enc:=sayD) (fun _=>.bl true) (l:=l) (fun s hs=>by
    have:=Yqs (hl s hs)
    generalize sayD s=SD at *
    simp[Ydz,this])
   have hm:(l.map fun _=>D.bl true)=(l.map fun _=>true).map D.bl:=by rw[List.map_map];rfl
   rw[hm]at hcm
   have hnf:¬false∈(l.map fun _=>true):=by simp
   have hss:=Yz4 hs.1 hs.2 (fun s h=>by have:=hl s h;lia)
   have hlen:¬(2:Int) < ((l.map sayD).length:Int):=by rw[qe];have:=hs.1;lia
   have heq:=Yx9 (y31 l) (by have:=Ynp (enc:=sayD) (n:=1) (fun s=>by simp) l;lia) false
   have hll:Yt0 [.tup (l.map sayD)]=some (l.map sayD):=by
    have:(l.map sayD).length≤cap6:=by rw[qe];have:=hs.1;show l.length≤1000000;lia
    simp[this]
   have hst:Yai 3 [kdD .e,rlD (.ei l),.int (n:Int)]=[some (.sh (kdD .e)),some (.sh (.tup (l.map sayD))),some (.sh (.int (n:Int)))]:=rfl
   rw[hst]
   have hit:Yn (.tup (l.map sayD))=some (l.map sayD):=rfl
   have htl:tupL (.tup (l.map sayD))=some (l.map sayD):=rfl
   generalize (l.map fun _=>true)=bs at *
   generalize l.map sayD=LL at *
   generalize hTT:D.tup LL=TT at *
   simp[Yc2,hty,hit,htl,hlen,capR,hcm,hnf,hll,hss,heq,-List.map_map]
 | su b o=>
   obtain⟨rfl,hl⟩:=hr
   have h1:=Yja (by lia:n≤1000) hl hs
   have h2:isiD "bool" (D.bl o)=some true:=rfl
   have h3:isiD "tuple" (.tup [.tup (b.map nD),.bl o])=some true:=rfl
   have hst:Yai 3 [kdD .s,rlD (.su b o),.int (n:Int)]=[some (.sh (kdD .s)),some (.sh (.tup [.tup (b.map nD),.bl o])),some (.sh (.int (n:Int)))]:=rfl
   rw[hst]
   generalize D.tup (b.map nD)=BB at *
   simp[Yc2,h1,h2,h3]
 | im b h=>
   obtain⟨hk,hl,hh⟩:=hr
   have h1:=Yja (by lia:n≤1000) hl hs
   have h3:isiD "tuple" (.tup [.tup (b.map nD),optD h])=some true:=rfl
   have hke:¬k=.e:=by rcases hk with rfl | rfl<;>decide
   have hks:¬k=.s:=by rcases hk with rfl | rfl<;>decide
   have hst:Yai 3 [kdD k,rlD (.im b h),.int (n:Int)]=[some (.sh (kdD k)),some (.sh (.tup [.tup (b.map nD),optD h])),some (.sh (.int (n:Int)))]:=rfl
   rw[hst]
   generalize D.tup (b.map nD)=BB at *
   cases h with
   | none=>
     have h4:optD none=.non:=rfl
     rw[h4]at h3 ⊢
     simp[Yc2,h1,h3,hke,hks]
   | some x=>
     have h4:optD (some x)=.int (x:Int):=rfl
     have h5:=Yfv (hh x rfl)
     rw[h4]at h3 ⊢
     simp[Yc2,h1,h3,hke,hks,h5]
end Lw
namespace Lw
open PySem L2 M Bk
theorem Yz5{n:Nat}{q r:List Nat}{a:Nat}(e:[]++List.range n=q++a::r):a=q.length∧a < n:=by
 rw[List.nil_append]at e
 have h1:(q++a::r)[q.length]?=some a:=by simp
 rw[←e]at h1
 have hl:q.length < n:=by
  have:=(qm h1).1
  simpa using this
 rw[List.getElem?_range hl]at h1
 cases h1
 exact⟨rfl,hl⟩
theorem y1b{X:List (List Bool)}{i:Nat}(hi:i≤X.length)(hl:X.length≤2000)(ev:List Bool):insD (X.map tpB) (.int (i:Int)) (tpB ev)=some ((X.take i++ev::X.drop i).map tpB):=by
 unfold insD
 have hb:(decide (0≤(i:Int))&&decide ((i:Int)≤((X.map tpB).length:Int))&&decide ((X.map tpB).length < cap6))=true:=by
  rw[qe]
  have h1:(i:Int)≤(X.length:Int):=by lia
  have h2:X.length < 1000000:=by lia
  simp[h1,h2]
 show(if _ then _ else _)=_
 rw[if_pos hb]
 simp[List.map_take,List.map_drop]
theorem Yz6(ns:List Int){W:List (List Bool)}(hW:W.length≤1000)(d1 d2 d3:Option B):∃(X:List (List Bool)) (y:Option B),X.Perm W∧
 M.forM (gSet 6) Ybv (rngD 0 (W.length:Int)) [some (.sh (.scr ns)),d1,d2,d3,some (.ow (W.map tpB)),some (.ow []),none,none]=some (.nx [some (.sh (.scr ns)),d1,d2,d3,some (.ow (W.map tpB)),some (.ow (X.map tpB)),y,none]):=by
 obtain⟨ρ',e1,X,y,hp,rfl⟩:=Ydf (gt:=gSet 6) (fb:=Ybv) (fun i:Nat=>D.int (0+(i:Nat))) (fun pre ρ=>∃(X:List (List Bool)) (y:Option B),X.Perm (pre.map fun i=>W.getD i [])∧
  ρ=[some (.sh (.scr ns)),d1,d2,d3,some (.ow (W.map tpB)),some (.ow (X.map tpB)),y,none]) (List.range W.length) []
  [some (.sh (.scr ns)),d1,d2,d3,some (.ow (W.map tpB)),some (.ow []),none,none] ⟨[],none,.refl _,rfl⟩ (by
   rintro q a r ρ e ⟨X,y,hp,rfl⟩
   obtain⟨hqa',haW⟩:=Yz5 e
   have hqa:q.length=a:=hqa'.symm
   have hXl:X.length=a:=by rw[hp.length_eq,qe,hqa]
   have hc:=Yzz ns (2+a) (2+(a:Int)) (by lia)
   have hpos:(0:Int) < (a:Int)+1:=by lia
   obtain⟨i,hi⟩:∃i:Nat,ns.getD (2+a) 0 % ((a:Int)+1)=(i:Int):=⟨_,(Int.toNat_of_nonneg (Int.emod_nonneg _ (by lia))).symm⟩
   have hia:i≤a:=by have:=Int.emod_lt_of_pos (ns.getD (2+a) 0) hpos;lia
   have hat:atI (W.map tpB) (a:Int)=some (tpB (W.getD a [])):=by
    rw[Yfh,Yd8 haW]
    simp[haW]
   refine⟨_,[some (.sh (.scr ns)),d1,d2,d3,some (.ow (W.map tpB)),some (.ow ((X.take i++W.getD a []::X.drop i).map tpB)),some (.sh (.int (0+(a:Int)))),none],rfl,?_,X.take i++W.getD a []::X.drop i,some (.sh (.int (0+(a:Int)))),?_,rfl⟩
   ·have hins:=y1b (X:=X) (i:=i) (by lia) (by lia) (W.getD a [])
    generalize W.getD a []=wa at *
    generalize (X.take i++wa::X.drop i).map tpB=XI at *
    generalize X.map tpB=XX at *
    generalize tpB wa=TW at *
    generalize W.map tpB=WW at *
    generalize ns.getD (2+a) 0=x at *
    simp[Ybv,hc,hat,hi,hpos,hins]
   ·refine(List.perm_middle).trans ?_
    rw[Qk,List.map_append]
    exact(hp.cons _).trans (List.perm_append_comm (l₁:=[W.getD a []])))
 refine⟨X,y,?_,?_⟩
 ·rw[List.nil_append]at hp
  refine hp.trans ?_
  have:(List.range W.length).map (fun i=>W.getD i [])=W:=by
   refine List.ext_getElem (by simp) fun i h1 h2=>?_
   simp at h1
   simp[h1]
  rw[this]
 ·rw[Ygl]
  simpa using e1
theorem Yya(ns:List Int){S X0:List (List Bool)}(hX:∀ev∈X0,ev∈S)(hl:X0.length≤1000)(hS:S.length≤1000){cells:List Int}(hc:cells.length≤100)(d1 d2 d3 d6:Option B):∃(X:List (List Bool)) (y:Option B),(∀ev∈X,ev∈S)∧X.length≤1100∧
 M.forM (gSet 7) Ya3 (cells.map D.int) [some (.sh (.scr ns)),d1,d2,d3,some (.ow (S.map tpB)),some (.ow (X0.map tpB)),d6,none]=some (.nx [some (.sh (.scr ns)),d1,d2,d3,some (.ow (S.map tpB)),some (.ow (X.map tpB)),d6,y]):=by
 obtain⟨ρ',e1,X,y,hm,hln,rfl⟩:=Ydf (gt:=gSet 7) (fb:=Ya3) D.int (fun pre ρ=>∃(X:List (List Bool)) (y:Option B),(∀ev∈X,ev∈S)∧X.length≤1000+pre.length∧
  ρ=[some (.sh (.scr ns)),d1,d2,d3,some (.ow (S.map tpB)),some (.ow (X.map tpB)),d6,y]) cells []
  [some (.sh (.scr ns)),d1,d2,d3,some (.ow (S.map tpB)),some (.ow (X0.map tpB)),d6,none] ⟨X0,none,hX,hl,rfl⟩ (by
   rintro q c r ρ e ⟨X,y,hm,hln,rfl⟩
   have hq:q.length≤100:=by have:=congrArg List.length e;simp at this;lia
   by_cases hgo:0 < S.length∧c % 9=1
   ·obtain⟨h0,h9⟩:=hgo
    have hp1:(0:Int) < (X.length:Int)+1:=by lia
    have hp2:(0:Int) < (S.length:Int):=by lia
    obtain⟨i,hi⟩:∃i:Nat,c / 9 % ((X.length:Int)+1)=(i:Int):=⟨_,(Int.toNat_of_nonneg (Int.emod_nonneg _ (by lia))).symm⟩
    have hiX:i≤X.length:=by have:=Int.emod_lt_of_pos (c / 9) hp1;lia
    obtain⟨j,hj⟩:∃j:Nat,c / 576 % (S.length:Int)=(j:Int):=⟨_,(Int.toNat_of_nonneg (Int.emod_nonneg _ (by lia))).symm⟩
    have hjS:j < S.length:=by have:=Int.emod_lt_of_pos (c / 576) hp2;lia
    have hat:atI (S.map tpB) (j:Int)=some (tpB S[j]):=by rw[Yfh,Yd8 hjS];rfl
    have hins:=y1b hiX (by lia) S[j]
    have hmem:S[j]∈S:=qx hjS
    refine⟨_,[some (.sh (.scr ns)),d1,d2,d3,some (.ow (S.map tpB)),some (.ow ((X.take i++S[j]::X.drop i).map tpB)),d6,some (.sh (.int c))],rfl,?_,X.take i++S[j]::X.drop i,_,?_,?_,rfl⟩
    ·generalize S[j]=sj at *
     generalize (X.take i++sj::X.drop i).map tpB=XI at *
     generalize hXX:X.map tpB=XX at *
     have hxl:XX.length=X.length:=by rw[←hXX,qe]
     generalize tpB sj=TW at *
     generalize hSS:S.map tpB=SS at *
     have hsl:SS.length=S.length:=by rw[←hSS,qe]
     simp[Ya3,h9,hsl,hxl,h0,hat,hi,hj,hp1,hp2,hins]
    ·intro ev hev
     rcases qu hev with h | h
     ·exact hm ev (List.mem_of_mem_take h)
     ·rcases qr h with h | h
      ·rw[h];exact hmem
      ·exact hm ev (List.mem_of_mem_drop h)
    ·simp
     lia
   ·refine⟨_,[some (.sh (.scr ns)),d1,d2,d3,some (.ow (S.map tpB)),some (.ow (X.map tpB)),d6,some (.sh (.int c))],rfl,?_,X,_,hm,?_,rfl⟩
    ·generalize X.map tpB=XX at *
     generalize hSS:S.map tpB=SS at *
     have hsl:SS.length=S.length:=by rw[←hSS,qe]
     by_cases h0:0 < S.length
     ·have h9:¬c % 9=1:=fun z=>hgo ⟨h0,z⟩
      simp[Ya3,h9,hsl,h0]
     ·have h00:S.length=0:=by lia
      simp[Ya3,hsl,h00]
    ·simp
     lia)
 refine⟨X,y,hm,?_,e1⟩
 simp at hln
 lia
noncomputable def encA(p:List Bool × Bool):D:=if p.2=true then tpB p.1 else lsB p.1
noncomputable def altB(X:List (List Bool)):List (List Bool × Bool):=(List.range X.length).map fun i=>(X.getD i [],decide (i % 2=1))
theorem Ytq(X:List (List Bool)):(altB X).map Prod.fst=X:=by
 unfold altB
 rw[List.map_map]
 refine List.ext_getElem (by simp) fun i h1 h2=>?_
 simp at h1
 simp[h1]
theorem Yz7{X:List (List Bool)}{n:Nat}(hn:n≤4)(hX:∀ev∈X,ev.length=n):Yh4 (gSet 0) tY Ybw [none,some (.sh (.lst (X.map tpB)))] ((List.range X.length).map fun i:Nat=>D.int (0+(i:Int)))=some ((altB X).map encA):=by
 have h:=Yfi (fe:=Ybw) (r:=[some (.sh (.lst (X.map tpB)))]) (enc:=fun i:Nat=>D.int (0+(i:Int))) (fun i=>encA (X.getD i [],decide (i % 2=1))) (l:=List.range X.length) (fun i hi=>by
  have hi':=Qa hi
  have hat:atI (X.map tpB) (i:Int)=some (tpB X[i]):=by rw[Yfh,Yd8 hi'];rfl
  have hg:X.getD i []=X[i]:=by simp[hi']
  have hlen:=hX _ (qx hi')
  rw[hg]
  generalize X[i]=ev at *
  have hll:Yt0 [tpB ev]=some (ev.map D.bl):=by
   have:(ev.map D.bl).length≤cap6:=by rw[qe];show ev.length≤1000000;lia
   simp[tpB,this]
  have hls:lsB ev=.lst (ev.map D.bl):=rfl
  unfold encA
  rw[hls]
  generalize X.map tpB=XX at *
  generalize tpB ev=TE at *
  generalize ev.map D.bl=EB at *
  by_cases hz:i % 2=1
  ·have hz':(i:Int) % 2=1:=by lia
   simp[Ybw,hat,hll,hz,hz']
  ·have hz':(i:Int) % 2=0:=by lia
   simp[Ybw,hat,hll,hz,hz'])
 rw[h]
 unfold altB
 rw[List.map_map]
 rfl
theorem Yz8(S:List (List Bool))(m:Option Int):∃S':List (List Bool),(∀ev∈S',ev∈S)∧S'.length≤S.length∧cutD (S.map tpB) none m=S'.map tpB:=by
 unfold cutD
 rw[qe]
 refine⟨(S.drop (HT.sIx S.length 0 none)).take (HT.sIx S.length S.length m - HT.sIx S.length 0 none),fun ev h=>List.mem_of_mem_drop (List.mem_of_mem_take h),?_,?_⟩
 ·rw[List.length_take,List.length_drop]
  lia
 ·rw[List.map_take,List.map_drop]
end Lw
namespace Lw
open PySem L2 M Bk
theorem Ysl(ns:List Int){n:Nat}(hn:n≤4):∃X:List (List Bool),(∀ev∈X,ev.length=n)∧X.length≤1100∧Yco [.scr ns,.int (n:Int)]=some (.lst ((altB X).map encA)):=by
 have c0:=Ytm ns 0
 have c1:=Ytm ns 1
 generalize ns.getD 0 0=x0 at c0
 generalize ns.getD 1 0=x1 at c1
 have hal:=Yqj hn
 have hN:=Yln n
 have hN1:2 ^ n≤2 ^ 4:=Nat.pow_le_pow_right (by decide) hn
 generalize hNN:2 ^ n=N at hN hN1
 have hN16:N≤16:=hN1
 have hlen:lenC [.lst ((allE n).map tpB)]=some (.int (N:Int)):=by simp[hN]
 obtain⟨bits,hbl1,hbits⟩:=y6z x1 N (by lia)
 have hEl:∀i,i < N→∃ev:List Bool,ev.length=n∧(allE n).getD i []=ev∧atI ((allE n).map tpB) (i:Int)=some (tpB ev):=fun i hi=>by
  have hi':i < (allE n).length:=by rw[hN];exact hi
  refine⟨(allE n)[i],Yhz n (qx hi'),by simp[hi'],?_⟩
  rw[Yfh,Yd8 hi']
  rfl
 have hcw:=Ytk (fc:=Yct) (fe:=Ycu) (r:=[some (.sh (.lst ((allE n).map tpB))),some (.sh (.lst (bits.map D.bl)))]) (enc:=fun i:Nat=>D.int (0+(i:Int))) (at' bits) (fun i=>tpB ((allE n).getD i [])) (l:=List.range N) (fun i hi=>by
  have hi':=Qa hi
  have h4:=Yrs (ev:=bits) (n:=i) (by rw[hbl1];exact hi')
  generalize (allE n).map tpB=AE at *
  simp[Yct,h4]) (fun i hi _=>by
  have hi':=Qa hi
  obtain⟨ev,_,h2,h3⟩:=hEl i hi'
  rw[h2]
  generalize (allE n).map tpB=AE at *
  generalize tpB ev=E at *
  simp[Ycu,h3])
 obtain⟨V,hVdef⟩:∃V,V=((List.range N).filter (at' bits)).map fun i=>(allE n).getD i []:=⟨_,rfl⟩
 have hVm:((List.range N).filter (at' bits)).map (fun i=>tpB ((allE n).getD i []))=V.map tpB:=by rw[hVdef,List.map_map];rfl
 rw[hVm]at hcw
 have hVl:V.length≤16:=by
  rw[hVdef,qe]
  have:=List.length_filter_le (at' bits) (List.range N)
  rw[List.length_range]at this
  lia
 have hVn:∀ev∈V,ev.length=n:=fun ev hev=>by
  rw[hVdef]at hev
  obtain⟨i,hi,rfl⟩:=qw hev
  obtain⟨ev,h1,h2,_⟩:=hEl i (Qa (Qb hi).1)
  rw[h2];exact h1
 clear hVdef hVm hEl
 have st0:(sSet 2 (cC (Yg (getV 1) aNil) Ycd)) [some (.sh (.scr ns)),some (.sh (.int (n:Int))),none,none,none,none,none,none]=some (.nx [some (.sh (.scr ns)),some (.sh (.int (n:Int))),some (.sh (.lst ((allE n).map tpB))),none,none,none,none,none]):=by
  clear hcw
  generalize (allE n).map tpB=AE at *
  simp[hal]
 have st1:(sSet 3 (cC (Yg (cC (Yg (getV 0) (Yg (kD (.int 1)) aNil)) Yab) (Yg (cC (Yg (getC 2) aNil) lenC) aNil)) Ydl)) [some (.sh (.scr ns)),some (.sh (.int (n:Int))),some (.sh (.lst ((allE n).map tpB))),none,none,none,none,none]=some (.nx [some (.sh (.scr ns)),some (.sh (.int (n:Int))),some (.sh (.lst ((allE n).map tpB))),some (.sh (.lst (bits.map D.bl))),none,none,none,none]):=by
  clear hcw hal
  generalize (allE n).map tpB=AE at *
  generalize bits.map D.bl=BI at *
  simp at c1 hlen
  simp[c1,hlen,hbits]
 have st2:(sOwn 4 (Yas (cF (Yg (cC (Yg (getC 2) aNil) lenC) aNil) rng1) [none,some 2,some 3] (gSet 0) (Yct) (Ycu))) [some (.sh (.scr ns)),some (.sh (.int (n:Int))),some (.sh (.lst ((allE n).map tpB))),some (.sh (.lst (bits.map D.bl))),none,none,none,none]=some (.nx [some (.sh (.scr ns)),some (.sh (.int (n:Int))),some (.sh (.lst ((allE n).map tpB))),some (.sh (.lst (bits.map D.bl))),some (.ow (V.map tpB)),none,none,none]):=by
  have hr:=Ygm (n:=(N:Int)) (by lia) (by lia)
  rw[Ygl,Int.sub_zero,Int.toNat_natCast]at hr
  have h1:Yg (cC (Yg (getC 2) aNil) lenC) aNil [some (.sh (.scr ns)),some (.sh (.int (n:Int))),some (.sh (.lst ((allE n).map tpB))),some (.sh (.lst (bits.map D.bl))),none,none,none,none]=some [.int (N:Int)]:=by
   clear hcw hal
   generalize (allE n).map tpB=AE at *
   generalize bits.map D.bl=BI at *
   simp at hlen
   simp[hlen]
  have h2:capR [none,some 2,some 3] [some (.sh (.scr ns)),some (.sh (.int (n:Int))),some (.sh (.lst ((allE n).map tpB))),some (.sh (.lst (bits.map D.bl))),none,none,none,none]=[none,some (.sh (.lst ((allE n).map tpB))),some (.sh (.lst (bits.map D.bl)))]:=rfl
  rw[Yxc,Yjw,Yzs,h1,qc,hr,qc,h2,hcw]
  rfl
 obtain⟨S,hS1,hS2,st3⟩:∃S:List (List Bool),(∀ev∈S,ev∈V)∧S.length≤V.length∧(sIf (b2 (b2 (b2 (cC (Yg (getV 0) (Yg (kD (.int 0)) aNil)) Yab) (kD (.int 20)) divI) (kD (.int 2)) modI) (kD (.int 1)) (eqM false)) (sOwn 4 (slF (getC 4) none (some (b2 (b2 (cC (Yg (getV 0) (Yg (kD (.int 0)) aNil)) Yab) (kD (.int 40)) divI) (kD (.int 5)) modI)))) sNil) [some (.sh (.scr ns)),some (.sh (.int (n:Int))),some (.sh (.lst ((allE n).map tpB))),some (.sh (.lst (bits.map D.bl))),some (.ow (V.map tpB)),none,none,none]=some (.nx [some (.sh (.scr ns)),some (.sh (.int (n:Int))),some (.sh (.lst ((allE n).map tpB))),some (.sh (.lst (bits.map D.bl))),some (.ow (S.map tpB)),none,none,none]):=by
  clear hcw hal hlen hbits st0 st1 st2
  simp at c0
  by_cases hx:x0 / 20 % 2=1
  ·obtain⟨S,h1,h2,h3⟩:=Yz8 V (some (x0 / 40 % 5))
   refine⟨S,h1,h2,?_⟩
   generalize S.map tpB=SS at *
   generalize V.map tpB=VV at *
   generalize (allE n).map tpB=AE at *
   generalize bits.map D.bl=BI at *
   simp[c0,hx,h3]
  ·refine⟨V,fun _ h=>h,qt _,?_⟩
   generalize V.map tpB=VV at *
   generalize (allE n).map tpB=AE at *
   generalize bits.map D.bl=BI at *
   simp[c0,hx]
 have st4:(sOwn 5 (dLst aNil)) [some (.sh (.scr ns)),some (.sh (.int (n:Int))),some (.sh (.lst ((allE n).map tpB))),some (.sh (.lst (bits.map D.bl))),some (.ow (S.map tpB)),none,none,none]=some (.nx [some (.sh (.scr ns)),some (.sh (.int (n:Int))),some (.sh (.lst ((allE n).map tpB))),some (.sh (.lst (bits.map D.bl))),some (.ow (S.map tpB)),some (.ow []),none,none]):=by
  generalize S.map tpB=SS at *
  generalize (allE n).map tpB=AE at *
  generalize bits.map D.bl=BI at *
  simp
 obtain⟨X1,y1,hp1,hw1⟩:=Yz6 ns (W:=S) (by lia) (some (.sh (.int (n:Int)))) (some (.sh (.lst ((allE n).map tpB)))) (some (.sh (.lst (bits.map D.bl))))
 have hcl:((ns.drop (min 18 ns.length)).take (min 63 ns.length - min 18 ns.length)).length≤100:=by
  rw[List.length_take,List.length_drop]
  lia
 have k1:=y3p ns 18 63
 generalize (ns.drop (min 18 ns.length)).take (min 63 ns.length - min 18 ns.length)=cells at k1 hcl
 obtain⟨X,y,hm,hXl,hw2⟩:=Yya ns (S:=S) (X0:=X1) (fun ev h=>hp1.mem_iff.mp h) (by rw[hp1.length_eq];lia) (by lia) hcl (some (.sh (.int (n:Int)))) (some (.sh (.lst ((allE n).map tpB)))) (some (.sh (.lst (bits.map D.bl)))) y1
 have hXn:∀ev∈X,ev.length=n:=fun ev h=>hVn ev (hS1 ev (hm ev h))
 refine⟨X,hXn,hXl,?_⟩
 have hac:=Yz7 hn hXn
 have st5:(sFor (cF (Yg (cC (Yg (getC 4) aNil) lenC) aNil) rng1) (gSet 6) Ybv) [some (.sh (.scr ns)),some (.sh (.int (n:Int))),some (.sh (.lst ((allE n).map tpB))),some (.sh (.lst (bits.map D.bl))),some (.ow (S.map tpB)),some (.ow []),none,none]=some (.nx [some (.sh (.scr ns)),some (.sh (.int (n:Int))),some (.sh (.lst ((allE n).map tpB))),some (.sh (.lst (bits.map D.bl))),some (.ow (S.map tpB)),some (.ow (X1.map tpB)),y1,none]):=by
  have hr:=Ygm (n:=(S.length:Int)) (by lia) (by lia)
  have h1:Yg (cC (Yg (getC 4) aNil) lenC) aNil [some (.sh (.scr ns)),some (.sh (.int (n:Int))),some (.sh (.lst ((allE n).map tpB))),some (.sh (.lst (bits.map D.bl))),some (.ow (S.map tpB)),some (.ow []),none,none]=some [.int (S.length:Int)]:=by
   have hls:lenC [.lst (S.map tpB)]=some (.int (S.length:Int)):=by rw[←qe (f:=tpB)];rfl
   have hgc:getC 4 [some (.sh (.scr ns)),some (.sh (.int (n:Int))),some (.sh (.lst ((allE n).map tpB))),some (.sh (.lst (bits.map D.bl))),some (.ow (S.map tpB)),some (.ow []),none,none]=some (.lst (S.map tpB)):=rfl
   rw[Yd7,Yno,Yd7,hgc,Yrr,qc,Option.map_some,qc,hls]
   rfl
  rw[Ygk,Yzs,h1,qc,hr,qc]
  exact hw1
 have st6:(sFor (b1 (lF (slF (getC 0) (some (kD (.int 18))) (some (kD (.int 63))))) Yn) (gSet 7) Ya3) [some (.sh (.scr ns)),some (.sh (.int (n:Int))),some (.sh (.lst ((allE n).map tpB))),some (.sh (.lst (bits.map D.bl))),some (.ow (S.map tpB)),some (.ow (X1.map tpB)),y1,none]=some (.nx [some (.sh (.scr ns)),some (.sh (.int (n:Int))),some (.sh (.lst ((allE n).map tpB))),some (.sh (.lst (bits.map D.bl))),some (.ow (S.map tpB)),some (.ow (X.map tpB)),y1,y]):=by
  have h1:b1 (lF (slF (getC 0) (some (kD (.int 18))) (some (kD (.int 63))))) Yn [some (.sh (.scr ns)),some (.sh (.int (n:Int))),some (.sh (.lst ((allE n).map tpB))),some (.sh (.lst (bits.map D.bl))),some (.ow (S.map tpB)),some (.ow (X1.map tpB)),y1,none]=some (cells.map D.int):=by
   clear hw1 hw2 hcw hal hac
   generalize S.map tpB=SS at *
   generalize X1.map tpB=XX at *
   generalize (allE n).map tpB=AE at *
   generalize bits.map D.bl=BI at *
   simp at k1
   simp[k1]
  rw[Ygk,h1,qc]
  exact hw2
 have hst:Yai 8 [D.scr ns,.int (n:Int)]=[some (.sh (.scr ns)),some (.sh (.int (n:Int))),none,none,none,none,none,none]:=rfl
 rw[Yco,Ya8 (by rfl),hst,Ylk,Yak,st0,qc,Yac,Yhs,Yak,st1,qc,Yac,Yhr,Yak,st2,qc,Yac,Yhq,Yak,st3,qc,Yac,Yhp,Yak,st4,qc,Yac,Yho,Yak,st5,qc,Yac,Yhn,Yak,st6,qc,Yac,Yhm]
 have fz:frz [5] [some (.sh (.scr ns)),some (.sh (.int (n:Int))),some (.sh (.lst ((allE n).map tpB))),some (.sh (.lst (bits.map D.bl))),some (.ow (S.map tpB)),some (.ow (X.map tpB)),y1,y]=[some (.sh (.scr ns)),some (.sh (.int (n:Int))),some (.sh (.lst ((allE n).map tpB))),some (.sh (.lst (bits.map D.bl))),some (.ow (S.map tpB)),some (.sh (.lst (X.map tpB))),y1,y]:=rfl
 have hr:=Ygm (n:=(X.length:Int)) (by lia) (by lia)
 rw[Ygl,Int.sub_zero,Int.toNat_natCast]at hr
 have hls:lenC [.lst (X.map tpB)]=some (.int (X.length:Int)):=by rw[←qe (f:=tpB)];rfl
 have hgc:getC 5 [some (.sh (.scr ns)),some (.sh (.int (n:Int))),some (.sh (.lst ((allE n).map tpB))),some (.sh (.lst (bits.map D.bl))),some (.ow (S.map tpB)),some (.sh (.lst (X.map tpB))),y1,y]=some (.lst (X.map tpB)):=rfl
 have hcr:capR [none,some 5] [some (.sh (.scr ns)),some (.sh (.int (n:Int))),some (.sh (.lst ((allE n).map tpB))),some (.sh (.lst (bits.map D.bl))),some (.ow (S.map tpB)),some (.sh (.lst (X.map tpB))),y1,y]=[none,some (.sh (.lst (X.map tpB)))]:=rfl
 rw[Yxf,fz,Yxd,y6s,Yjw,Yzs,Yd7,Yno,Yd7,hgc,Yrr,qc,Option.map_some,qc,hls,qc,Option.map_some,qc,hr,qc,hcr,hac]
 rfl
end Lw
namespace Lw
open PySem L2 M Bk
theorem y32(b:Nat)(evs:List (List Bool)):sumC [.lst (evs.map fun ev=>.int (if at' ev b=true then 1 else 0))]=some (.int ((cntE evs b:Nat):Int)):=by
 have h2:(evs.map fun ev=>if at' ev b=true then (1:Int)else 0).sum=((cntE evs b:Nat):Int):=by
  induction evs with
  | nil=>rfl
  | cons e evs ih=>
    rw[Qc,List.sum_cons,ih]
    unfold cntE
    rw[List.filter_cons]
    by_cases hz:at' e b=true
    ·rw[if_pos hz,if_pos hz,qq];lia
    ·rw[if_neg hz,if_neg hz];lia
 rw[Yzu,Ypt (fun ev:List Bool=>if at' ev b=true then (1:Int)else 0) evs]
 exact congrArg (fun z=>some (D.int z)) h2
theorem y8i{ev:List Bool}(h:ev.length≤4):Pl (tpB ev)∧dep (tpB ev) < 12:=by
 refine⟨?_,by have:=Yof ev;lia⟩
 unfold tpB
 rw[Pl]
 refine⟨by rw[qe];lia,PlL_iff.mpr fun d hd=>?_⟩
 obtain⟨b,_,rfl⟩:=qw hd
 simp[Pl]
theorem y33{ev:List Bool}(h:ev.length≤4):Yey [tpB ev,tpB ev]=some (.bl true):=
 List.map_inj_left.mp (le4 (P:=fun n=>(allE n).map (fun ev=>Yey [tpB ev,tpB ev])=(allE n).map fun _=>some (.bl true)) (by kernel_rfl) (by kernel_rfl) (by kernel_rfl) (by kernel_rfl) (by kernel_rfl) h) ev (Yjz _ rfl)
theorem Yuu{g X:List (List Bool)}{n:Nat}(hn:n≤4)(hg:∀ev∈g,ev.length=n∧ev∈X)(d1 d2 d4:Option B):∃y:Option B,
 M.forM (gSet 5) Ybx (g.map tpB) [some (.sh (.lst (g.map tpB))),d1,d2,some (.sh (.lst (X.map tpB))),d4,none,none,none,none]=some (.nx [some (.sh (.lst (g.map tpB))),d1,d2,some (.sh (.lst (X.map tpB))),d4,y,none,none,none]):=by
 obtain⟨ρ',e1,y,rfl⟩:=Ydf (gt:=gSet 5) (fb:=Ybx) tpB (fun _ ρ=>∃y:Option B,ρ=[some (.sh (.lst (g.map tpB))),d1,d2,some (.sh (.lst (X.map tpB))),d4,y,none,none,none]) g []
  [some (.sh (.lst (g.map tpB))),d1,d2,some (.sh (.lst (X.map tpB))),d4,none,none,none,none] ⟨none,rfl⟩ (by
   rintro q ev r ρ e ⟨y,rfl⟩
   obtain⟨hl,hX⟩:=hg ev (by rw[List.nil_append]at e;rw[e];simp)
   have hin:=Yxw (c:=.lst (X.map tpB)) ev X true rfl
   have hin':inM true (tpB ev) (.lst (X.map tpB))=some false:=by rw[hin];simp[hX]
   have hsm:=y33 (ev:=ev) (by lia)
   have hcm:=Yfi (fe:=Yen) (r:=[]) (enc:=D.bl) D.bl (l:=ev) (fun b _=>by simp[Yen])
   have hit:Yn (tpB ev)=some (ev.map D.bl):=rfl
   have htu:tupC [.lst (ev.map D.bl)]=some (tpB ev):=by
    unfold tpB
    simp
   refine⟨_,[some (.sh (.lst (g.map tpB))),d1,d2,some (.sh (.lst (X.map tpB))),d4,some (.sh (tpB ev)),none,none,none],rfl,?_,_,rfl⟩
   clear hin e
   generalize X.map tpB=XX at *
   generalize g.map tpB=GG at *
   generalize tpB ev=E at *
   generalize ev.map D.bl=EB at *
   simp[Ybx,hin',capR,hit,hcm,htu,hsm])
 exact⟨y,e1⟩
theorem Yz9{k:Kd}{g:List (List Bool)}{n:Nat}(hn:n≤4)(hg:∀ev∈g,ev.length=n)(d2 d3 d4 d5:Option B):∃y7 y8:Option B,
 M.forM (gSet 7) Yby (rngD 0 (n:Int)) [some (.sh (.lst (g.map tpB))),some (.sh (kdD k)),d2,d3,d4,d5,some (.ow []),none,none]=some (.nx [some (.sh (.lst (g.map tpB))),some (.sh (kdD k)),d2,d3,d4,d5,some (.ow ((blE k n g).map D.bl)),y7,y8]):=by
 obtain⟨ρ',e1,y5,y6,rfl⟩:=Ydf (gt:=gSet 7) (fb:=Yby) (fun i:Nat=>D.int (0+(i:Nat))) (fun pre ρ=>∃y5 y6:Option B,ρ=[some (.sh (.lst (g.map tpB))),some (.sh (kdD k)),d2,d3,d4,d5,some (.ow (pre.map fun b=>D.bl (blL k (cntE g b)))),y5,y6]) (List.range n) []
  [some (.sh (.lst (g.map tpB))),some (.sh (kdD k)),d2,d3,d4,d5,some (.ow []),none,none] ⟨none,none,rfl⟩ (by
   rintro q b r ρ e ⟨y5,y6,rfl⟩
   have hq:q.length < 1000000:=by have:=congrArg List.length e;simp at this;lia
   have hb:b < n:=by
    have h1:b∈List.range n:=by rw[List.nil_append]at e;rw[e];simp
    exact Qa h1
   have h:=Yfi (fe:=Yeo) (r:=[some (.sh (.int (b:Int)))]) (enc:=tpB) (fun ev=>.int (if at' ev b=true then 1 else 0)) (l:=g) (fun ev hev=>by
    simp[Yeo,tpB,Yrs (show b < ev.length by rw[hg ev hev];exact hb)])
   have hs:=y32 b g
   have hdisp:Yt6 ["eithers","sums","ifs","nots"] [(mB (b2 (getC 8) (kD (.int 1)) gtI)),(mB (b2 (b2 (getC 8) (kD (.int 2)) modI) (kD (.int 1)) (eqM false))),(mB (b2 (getC 8) (kD (.int 2)) (eqM false))),(mB (b2 (getC 8) (kD (.int 0)) gtI))] (getC 1)
    [some (.sh (.lst (g.map tpB))),some (.sh (kdD k)),d2,d3,d4,d5,some (.ow (q.map fun b=>D.bl (blL k (cntE g b)))),some (.sh (.int (b:Int))),some (.sh (.int (cntE g b:Int)))]=some (.bl (blL k (cntE g b))):=by
    generalize (q.map fun b=>D.bl (blL k (cntE g b)))=Q
    generalize cntE g b=c
    generalize g.map tpB=E
    have e1:((c:Int) % 2=1)↔(c % 2=1):=by lia
    have e2:((c:Int)=2)↔(c=2):=by lia
    have e3:(1 < (c:Int))↔(2≤c):=by lia
    generalize hρ:([some (.sh (.lst E)),some (.sh (kdD k)),d2,d3,d4,d5,some (.ow Q),some (.sh (.int (b:Int))),some (.sh (.int (c:Int)))]:Ro)=ρ
    have g6:getC 8 ρ=some (.int c):=by rw[←hρ];rfl
    have g1:getC 1 ρ=some (kdD k):=by rw[←hρ];rfl
    have hv:M.evs [(mB (b2 (getC 8) (kD (.int 1)) gtI)),(mB (b2 (b2 (getC 8) (kD (.int 2)) modI) (kD (.int 1)) (eqM false))),(mB (b2 (getC 8) (kD (.int 2)) (eqM false))),(mB (b2 (getC 8) (kD (.int 0)) gtI))] ρ=some [.bl (blL .e c),.bl (blL .s c),.bl (blL .i c),.bl (blL .n c)]:=by
     simp[M.evs,g6,blL,e1,e2,e3,Nat.succ_le_iff]
    unfold Yt6
    rw[hv,g1]
    cases k<;>rfl
   refine⟨_,[some (.sh (.lst (g.map tpB))),some (.sh (kdD k)),d2,d3,d4,d5,some (.ow ((q++[b]).map fun b=>D.bl (blL k (cntE g b)))),some (.sh (.int (b:Int))),some (.sh (.int (cntE g b:Int)))],rfl,?_,_,_,rfl⟩
   generalize (g.map fun ev=>D.int (if at' ev b=true then 1 else 0))=SS at *
   generalize g.map tpB=E at *
   simp[Yby,capR,h,hs,hdisp,appD,hq])
 refine⟨y5,y6,?_⟩
 have hm:(List.range n).map (fun b=>D.bl (blL k (cntE g b)))=(blE k n g).map D.bl:=by unfold blE;rw[List.map_map];rfl
 rw[List.nil_append,hm]at e1
 rw[Ygl]
 simpa using e1
theorem Ysm{k:Kd}{g X:List (List Bool)}{n:Nat}(hn:n≤4)(hg1:g.length=cntK k)(hg:∀ev∈g,ev.length=n∧ev∈X)(hb:blE k n g∉X):Yd1 [.lst (g.map tpB),kdD k,.int (n:Int),.lst (X.map tpB)]=some (.bl true):=by
 have hst:Yai 9 [D.lst (g.map tpB),kdD k,.int (n:Int),.lst (X.map tpB)]=[some (.sh (.lst (g.map tpB))),some (.sh (kdD k)),some (.sh (.int (n:Int))),some (.sh (.lst (X.map tpB))),none,none,none,none,none]:=rfl
 rw[Yd1,Ya8 (by rfl),hst]
 obtain⟨y,hw1⟩:=Yuu (X:=X) hn hg (some (.sh (kdD k))) (some (.sh (.int (n:Int)))) (some (.sh (.int ((cntK k:Nat):Int))))
 obtain⟨y7,y8,hw2⟩:=Yz9 (k:=k) hn (fun ev h=>(hg ev h).1) (some (.sh (.int (n:Int)))) (some (.sh (.lst (X.map tpB)))) (some (.sh (.int ((cntK k:Nat):Int)))) y
 have st0:(sSet 4 (b2 (kD (.int 2)) (cC (Yg (orV (mB (b2 (getC 1) (kD (.str "eithers")) (eqM false))) (mB (b2 (getC 1) (kD (.str "sums")) (eqM false)))) aNil) intC) addI)) [some (.sh (.lst (g.map tpB))),some (.sh (kdD k)),some (.sh (.int (n:Int))),some (.sh (.lst (X.map tpB))),none,none,none,none,none]=some (.nx [some (.sh (.lst (g.map tpB))),some (.sh (kdD k)),some (.sh (.int (n:Int))),some (.sh (.lst (X.map tpB))),some (.sh (.int ((cntK k:Nat):Int))),none,none,none,none]):=by
  clear hw1 hw2 hg1 hg hb
  generalize g.map tpB=GG
  generalize X.map tpB=XX
  cases k<;>simp[cntK]
 have hgc:((g.map tpB).length:Int)=((cntK k:Nat):Int):=by rw[qe,hg1]
 have hty:isiD "list" (.lst (g.map tpB))=some true:=rfl
 have st1:(sIf (orT (notT (b1 (mB (b1 (getC 0) (isiD "list"))) truD)) (b2 (cC (Yg (getC 0) aNil) lenC) (getC 4) (eqM true))) (sRet (kD (.bl false))) sNil) [some (.sh (.lst (g.map tpB))),some (.sh (kdD k)),some (.sh (.int (n:Int))),some (.sh (.lst (X.map tpB))),some (.sh (.int ((cntK k:Nat):Int))),none,none,none,none]=some (.nx [some (.sh (.lst (g.map tpB))),some (.sh (kdD k)),some (.sh (.int (n:Int))),some (.sh (.lst (X.map tpB))),some (.sh (.int ((cntK k:Nat):Int))),none,none,none,none]):=by
  clear hw1 hw2 hg st0
  generalize g.map tpB=GG at *
  generalize X.map tpB=XX at *
  simp[hty,Yga,hgc]
 have st2:(sFor (b1 (getV 0) Yn) (gSet 5) Ybx) [some (.sh (.lst (g.map tpB))),some (.sh (kdD k)),some (.sh (.int (n:Int))),some (.sh (.lst (X.map tpB))),some (.sh (.int ((cntK k:Nat):Int))),none,none,none,none]=some (.nx [some (.sh (.lst (g.map tpB))),some (.sh (kdD k)),some (.sh (.int (n:Int))),some (.sh (.lst (X.map tpB))),some (.sh (.int ((cntK k:Nat):Int))),y,none,none,none]):=by
  have h1:b1 (getV 0) Yn [some (.sh (.lst (g.map tpB))),some (.sh (kdD k)),some (.sh (.int (n:Int))),some (.sh (.lst (X.map tpB))),some (.sh (.int ((cntK k:Nat):Int))),none,none,none,none]=some (g.map tpB):=rfl
  rw[Ygk,h1,qc]
  exact hw1
 have st3:(sOwn 6 (dLst aNil)) [some (.sh (.lst (g.map tpB))),some (.sh (kdD k)),some (.sh (.int (n:Int))),some (.sh (.lst (X.map tpB))),some (.sh (.int ((cntK k:Nat):Int))),y,none,none,none]=some (.nx [some (.sh (.lst (g.map tpB))),some (.sh (kdD k)),some (.sh (.int (n:Int))),some (.sh (.lst (X.map tpB))),some (.sh (.int ((cntK k:Nat):Int))),y,some (.ow []),none,none]):=by
  clear hw1 hw2 hg st0 st1 st2 hgc hty
  generalize g.map tpB=GG at *
  generalize X.map tpB=XX at *
  simp
 have st4:(sFor (cF (Yg (getV 2) aNil) rng1) (gSet 7) Yby) [some (.sh (.lst (g.map tpB))),some (.sh (kdD k)),some (.sh (.int (n:Int))),some (.sh (.lst (X.map tpB))),some (.sh (.int ((cntK k:Nat):Int))),y,some (.ow []),none,none]=some (.nx [some (.sh (.lst (g.map tpB))),some (.sh (kdD k)),some (.sh (.int (n:Int))),some (.sh (.lst (X.map tpB))),some (.sh (.int ((cntK k:Nat):Int))),y,some (.ow ((blE k n g).map D.bl)),y7,y8]):=by
  have hr:=Ygm (n:=(n:Int)) (by lia) (by lia)
  have h1:Yg (getV 2) aNil [some (.sh (.lst (g.map tpB))),some (.sh (kdD k)),some (.sh (.int (n:Int))),some (.sh (.lst (X.map tpB))),some (.sh (.int ((cntK k:Nat):Int))),y,some (.ow []),none,none]=some [.int (n:Int)]:=rfl
  rw[Ygk,Yzs,h1,qc,hr,qc]
  exact hw2
 rw[Yll,Yak,st0,qc,Yac,Yhx,Yak,st1,qc,Yac,Yhw,Yak,st2,qc,Yac,Yhv,Yak,st3,qc,Yac,Yhu,Yak,st4,qc,Yac,Yht]
 have hin:=Yxw (c:=.lst (X.map tpB)) (blE k n g) X true rfl
 have hin':inM true (tpB (blE k n g)) (.lst (X.map tpB))=some true:=by rw[hin];simp[hb]
 have htu:tupC [.lst ((blE k n g).map D.bl)]=some (tpB (blE k n g)):=by
  unfold tpB
  simp
 clear hw1 hw2 hg st0 st1 st2 st3 st4 hgc hty hin
 generalize g.map tpB=GG at *
 generalize X.map tpB=XX at *
 generalize tpB (blE k n g)=TB at *
 generalize (blE k n g).map D.bl=LB at *
 simp[htu,hin']
end Lw
namespace Lw
open PySem L2 M Bk
theorem Yyb{k:Kd}{n:Nat}{X:List (List Bool)}{R':List Rl}(hR:∀r∈R',In k n r)(hX:∀ev,ev.length=n→decide (ev∈X)=R'.all fun r=>so k ev r)(d2:Option B):∃y:Option B,
 M.forM (gSet 4) Ycg ((allE n).map tpB) [some (.sh (Yb3 k R')),some (.sh (kdD k)),d2,some (.sh (.lst (X.map tpB))),none]=some (.nx [some (.sh (Yb3 k R')),some (.sh (kdD k)),d2,some (.sh (.lst (X.map tpB))),y]):=by
 obtain⟨ρ',e1,y,rfl⟩:=Ydf (gt:=gSet 4) (fb:=Ycg) tpB (fun _ ρ=>∃y:Option B,ρ=[some (.sh (Yb3 k R')),some (.sh (kdD k)),d2,some (.sh (.lst (X.map tpB))),y]) (allE n) []
  [some (.sh (Yb3 k R')),some (.sh (kdD k)),d2,some (.sh (.lst (X.map tpB))),none] ⟨none,rfl⟩ (by
   rintro q ev r ρ e ⟨y,rfl⟩
   have hev:ev.length=n:=Yhz n (by rw[List.nil_append]at e;rw[e];simp)
   have hcm:=Yfi (fe:=Ycf) (r:=[some (.sh (kdD k)),some (.sh (tpB ev))]) (enc:=rlD) (fun r=>.bl (so k ev r)) (l:=R') (fun r hr=>by
    have:=e_so (c:=tpB ev) (ev:=ev) rfl (k:=k) (r:=r) (by rw[hev];exact hR r hr)
    generalize tpB ev=E at *
    generalize rlD r=RD at *
    simp[Ycf,this])
   have hm:(R'.map fun r=>D.bl (so k ev r))=(R'.map fun r=>so k ev r).map D.bl:=by rw[List.map_map];rfl
   rw[hm]at hcm
   have hal:allC [.lst ((R'.map fun r=>so k ev r).map D.bl)]=some (.bl (R'.all fun r=>so k ev r)):=by
    have:(R'.map fun r=>so k ev r).all id=R'.all fun r=>so k ev r:=by rw[List.all_map];rfl
    rw[←this]
    generalize (R'.map fun r=>so k ev r)=bs
    simp
   rw[←hX ev hev]at hal
   have hin:=Yxw (c:=.lst (X.map tpB)) ev X false rfl
   have hit:b1 (b2 (getC 0) (kD (.int 1)) ixD) Yn [some (.sh (Yb3 k R')),some (.sh (kdD k)),d2,some (.sh (.lst (X.map tpB))),some (.sh (tpB ev))]=some (R'.map rlD):=by
    unfold Yb3
    generalize R'.map rlD=RR
    generalize X.map tpB=XX
    generalize tpB ev=E
    simp
   have hcr:capR [none,some 1,some 4] [some (.sh (Yb3 k R')),some (.sh (kdD k)),d2,some (.sh (.lst (X.map tpB))),some (.sh (tpB ev))]=[none,some (.sh (kdD k)),some (.sh (tpB ev))]:=rfl
   have hself:∀b:Bool,eqM true (.bl b) (.bl b)=some false:=fun b=>by cases b<;>rfl
   have hcond:b2 (cC (Yg (lF (Yas (b1 (b2 (getC 0) (kD (.int 1)) ixD) Yn) [none,some 1,some 4] (gSet 0) tY (Ycf))) aNil) allC) (mB (b2 (getC 4) (getC 3) (inM false))) (eqM true) [some (.sh (Yb3 k R')),some (.sh (kdD k)),d2,some (.sh (.lst (X.map tpB))),some (.sh (tpB ev))]=some false:=by
    have h1:Yg (lF (Yas (b1 (b2 (getC 0) (kD (.int 1)) ixD) Yn) [none,some 1,some 4] (gSet 0) tY (Ycf))) aNil [some (.sh (Yb3 k R')),some (.sh (kdD k)),d2,some (.sh (.lst (X.map tpB))),some (.sh (tpB ev))]=some [.lst ((R'.map fun r=>so k ev r).map D.bl)]:=by
     rw[Yd7,y6s,Yjw,hit,qc,hcr,hcm]
     rfl
    have h2:mB (b2 (getC 4) (getC 3) (inM false)) [some (.sh (Yb3 k R')),some (.sh (kdD k)),d2,some (.sh (.lst (X.map tpB))),some (.sh (tpB ev))]=some (.bl (decide (ev∈X))):=by
     clear hal hcm hit h1 hcr
     generalize decide (ev∈X)=dc at *
     generalize Yb3 k R'=BK
     generalize X.map tpB=XX at *
     generalize tpB ev=E at *
     simp at hin
     simp[hin]
    rw[y6r,Yno,h1,qc,hal,qc,h2,qc]
    exact hself _
   refine⟨[some (.sh (Yb3 k R')),some (.sh (kdD k)),d2,some (.sh (.lst (X.map tpB))),some (.sh (tpB ev))],[some (.sh (Yb3 k R')),some (.sh (kdD k)),d2,some (.sh (.lst (X.map tpB))),some (.sh (tpB ev))],rfl,?_,_,rfl⟩
   rw[Ycg,Yxe,hcond]
   rfl)
 exact⟨y,e1⟩
theorem Yuv{k:Kd}{n:Nat}(hn:n≤4){X:List (List Bool)}{R':List Rl}(hl:R'.length≤16)(hR:∀r∈R',In k n r∧Srt r)(hX:∀ev,ev.length=n→decide (ev∈X)=R'.all fun r=>so k ev r) :
 Ydm [Yb3 k R',kdD k,.int (n:Int),.lst (X.map tpB)]=some (.bl true):=by
 have hal:=Yqj hn
 obtain⟨y,hw⟩:=Yyb (fun r hr=>(hR r hr).1) hX (some (.sh (.int (n:Int))))
 have hst:Yai 5 [Yb3 k R',kdD k,.int (n:Int),.lst (X.map tpB)]=[some (.sh (Yb3 k R')),some (.sh (kdD k)),some (.sh (.int (n:Int))),some (.sh (.lst (X.map tpB))),none]:=rfl
 rw[Ydm,Ya8 (by rfl),hst]
 have hty:isiD "tuple" (.tup [kdD k,.tup (R'.map rlD)])=some true:=rfl
 have hty2:isiD "tuple" (.tup (R'.map rlD))=some true:=rfl
 have hkk:eqM true (kdD k) (kdD k)=some false:=Yzv (by simp[kdD,Pl]) (by rw[y6u];lia) true
 have hcm:=Yfi (fe:=Ydj) (r:=[some (.sh (kdD k)),some (.sh (.int (n:Int)))]) (enc:=rlD) (fun _=>.bl true) (l:=R') (fun r hr=>by
  have:=Yqt hn (hR r hr).1 (hR r hr).2
  generalize rlD r=RD at *
  simp[Ydj,this])
 have hm:(R'.map fun _=>D.bl true)=(R'.map fun _=>true).map D.bl:=by rw[List.map_map];rfl
 rw[hm]at hcm
 have hnf:¬false∈(R'.map fun _=>true):=by simp
 have st0:(sIf (orT (notT (b1 (mB (b1 (getC 0) (isiD "tuple"))) truD)) (orT (b2 (cC (Yg (getC 0) aNil) lenC) (kD (.int 2)) (eqM true)) (orT (b2 (b2 (getC 0) (kD (.int 0)) ixD) (getC 1) (eqM true)) (notT (b1 (mB (b1 (b2 (getC 0) (kD (.int 1)) ixD) (isiD "tuple"))) truD))))) (sRet (kD (.bl false))) sNil) [some (.sh (Yb3 k R')),some (.sh (kdD k)),some (.sh (.int (n:Int))),some (.sh (.lst (X.map tpB))),none]=some (.nx [some (.sh (Yb3 k R')),some (.sh (kdD k)),some (.sh (.int (n:Int))),some (.sh (.lst (X.map tpB))),none]):=by
  clear hw hcm hm
  unfold Yb3
  generalize X.map tpB=XX at *
  generalize D.tup (R'.map rlD)=TR at *
  generalize kdD k=KD at *
  simp[hty,hty2,hkk,Yga]
 have st1:(sIf (orT (b2 (cC (Yg (b2 (getC 0) (kD (.int 1)) ixD) aNil) lenC) (kD (.int 60)) gtI) (notT (b1 (cC (Yg (lF (Yas (b1 (b2 (getC 0) (kD (.int 1)) ixD) Yn) [none,some 1,some 2] (gSet 0) tY (Ydj))) aNil) allC) truD))) (sRet (kD (.bl false))) sNil) [some (.sh (Yb3 k R')),some (.sh (kdD k)),some (.sh (.int (n:Int))),some (.sh (.lst (X.map tpB))),none]=some (.nx [some (.sh (Yb3 k R')),some (.sh (kdD k)),some (.sh (.int (n:Int))),some (.sh (.lst (X.map tpB))),none]):=by
  clear hw hm st0 hty hty2
  have hlen:¬(60:Int) < ((R'.map rlD).length:Int):=by rw[qe];lia
  unfold Yb3
  generalize (R'.map fun _=>true)=bs at *
  generalize X.map tpB=XX at *
  generalize R'.map rlD=RR at *
  generalize kdD k=KD at *
  simp[hlen,capR,hcm,hnf,-List.map_map]
 have st2:(sFor (b1 (cC (Yg (getV 2) aNil) Ycd) Yn) (gSet 4) Ycg) [some (.sh (Yb3 k R')),some (.sh (kdD k)),some (.sh (.int (n:Int))),some (.sh (.lst (X.map tpB))),none]=some (.nx [some (.sh (Yb3 k R')),some (.sh (kdD k)),some (.sh (.int (n:Int))),some (.sh (.lst (X.map tpB))),y]):=by
  have h1:Yg (getV 2) aNil [some (.sh (Yb3 k R')),some (.sh (kdD k)),some (.sh (.int (n:Int))),some (.sh (.lst (X.map tpB))),none]=some [.int (n:Int)]:=rfl
  rw[Ygk,Yzr,Yno,h1,qc,hal,qc,Yds,qc]
  exact hw
 rw[Ymu,Yak,st0,qc,Yac,Yi9,Yak,st1,qc,Yac,Yi8,Yak,st2,qc,Yac,Yi7]
 rfl
theorem law_true(ns:List Int)(_:ns.length≤63):Ysd [.scr ns]=some (.bl true):=by
 rw[Ysd,Ya8 (by rfl)]
 have c0:=Ytm ns 0
 generalize ns.getD 0 0=x0 at *
 obtain⟨k,hk⟩:=y6y x0
 obtain⟨n,hn1,hn⟩:∃n:Nat,n≤4∧x0 / 4 % 5=(n:Int):=⟨(x0 / 4 % 5).toNat,by lia,by lia⟩
 obtain⟨X,hXn,hXl,htab⟩:=Ysl ns hn1
 have hst:Yai 6 [D.scr ns]=[some (.sh (.scr ns)),none,none,none,none,none]:=rfl
 rw[hst]
 have he1:∀p:List Bool × Bool,lenC [encA p]=some (.int (p.1.length:Int)):=fun p=>by
  unfold encA
  split<;>simp[tpB]
 have he2:∀p:List Bool × Bool,tupC [encA p]=some (tpB p.1):=fun p=>by
  unfold encA
  split<;>simp[tpB]
 have hitL:∀i:Nat,∃c:D,Yn c=some ((altB X).map encA)∧(b2 (lF (dLst (Yg (getV 3) (Yg (cC (Yg (getC 3) aNil) tupC) aNil)))) (b2 (b2 (cC (Yg (getV 0) (Yg (kD (.int 0)) aNil)) Yab) (kD (.int 200)) divI) (kD (.int 2)) modI) ixD) [some (.sh (.scr ns)),some (.sh (kdD k)),some (.sh (.int (n:Int))),some (.sh (.lst ((altB X).map encA))),some (.ow (X.map tpB)),none]=some c:=fun _=>by
  generalize (altB X).map encA=LL at *
  generalize X.map tpB=XX at *
  simp at c0
  by_cases hz:x0 / 200 % 2=1
  ·exact⟨.tup LL,rfl,by simp[c0,hz]⟩
  ·have hz':x0 / 200 % 2=0:=by lia
   exact⟨.lst LL,rfl,by simp[c0,hz']⟩
 obtain⟨c,hci,hcv⟩:=hitL 0
 clear hitL
 have hcm:∀fe:Ro→Option D,fe=cC (Yg (getC 0) aNil) tupC→Yh4 (gSet 0) tY fe [none] ((altB X).map encA)=some (X.map tpB):=fun fe hfe=>by
  have h:=Yfi (fe:=fe) (r:=[]) (enc:=encA) (fun p=>tpB p.1) (l:=altB X) (fun p _=>by
   have h2:=he2 p
   rw[hfe]
   generalize tpB p.1=TE at *
   generalize encA p=E at *
   simp[h2])
  have hm:((altB X).map fun p=>tpB p.1)=X.map tpB:=by
   conv=>rhs;rw[←Ytq X,List.map_map]
   rfl
  rw[h,hm]
 have hm0:=hcm Yob rfl
 have hm1:=hcm Yjy rfl
 clear hcm
 have hplX:PlL (X.map tpB):=PlL_iff.mpr fun d hd=>by
  obtain⟨ev,hev,rfl⟩:=qw hd
  exact(y8i (by rw[hXn ev hev];exact hn1)).1
 have heqX:eqM true (.lst (X.map tpB)) (.lst (X.map tpB))=some false:=Yx9 hplX (by have:=Ynp (enc:=tpB) (n:=1) Yof X;lia) true
 have go:∀FD:D,Ya1 [kdD k,.int (n:Int),c]=some FD→isiD "tuple" FD=some true→lenC [FD]=some (.int 2)→
  Yoc [some (.sh (.scr ns)),some (.sh (kdD k)),some (.sh (.int (n:Int))),some (.sh (.lst ((altB X).map encA))),some (.ow (X.map tpB)),some (.sh FD)]=some (.rt (.bl true))→
  Yzy [some (.sh (.scr ns)),none,none,none,none,none]=some (.rt (.bl true)):=fun FD h1 h2 h3 h6=>by
  have st0:(sSet 1 (cC (Yg (cC (Yg (getV 0) (Yg (kD (.int 0)) aNil)) Yab) aNil) Ydk)) [some (.sh (.scr ns)),none,none,none,none,none]=some (.nx [some (.sh (.scr ns)),some (.sh (kdD k)),none,none,none,none]):=by
   simp at c0
   simp[c0,hk]
  have st1:(sSet 2 (b2 (b2 (cC (Yg (getV 0) (Yg (kD (.int 0)) aNil)) Yab) (kD (.int 4)) divI) (kD (.int 5)) modI)) [some (.sh (.scr ns)),some (.sh (kdD k)),none,none,none,none]=some (.nx [some (.sh (.scr ns)),some (.sh (kdD k)),some (.sh (.int (n:Int))),none,none,none]):=by
   simp at c0
   simp[c0,hn]
  have st2:(sSet 3 (cC (Yg (getV 0) (Yg (getV 2) aNil)) Yco)) [some (.sh (.scr ns)),some (.sh (kdD k)),some (.sh (.int (n:Int))),none,none,none]=some (.nx [some (.sh (.scr ns)),some (.sh (kdD k)),some (.sh (.int (n:Int))),some (.sh (.lst ((altB X).map encA))),none,none]):=by
   clear hm0 hm1 hci hcv h6
   generalize (altB X).map encA=LL at *
   simp[htab]
  have st3:(sOwn 4 (Yas (b1 (getV 3) Yn) [none] (gSet 0) tY (Yob))) [some (.sh (.scr ns)),some (.sh (kdD k)),some (.sh (.int (n:Int))),some (.sh (.lst ((altB X).map encA))),none,none]=some (.nx [some (.sh (.scr ns)),some (.sh (kdD k)),some (.sh (.int (n:Int))),some (.sh (.lst ((altB X).map encA))),some (.ow (X.map tpB)),none]):=by
   clear hm1 hci hcv h6 heqX hplX
   generalize (altB X).map encA=LL at *
   generalize X.map tpB=XX at *
   simp[capR,hm0]
  have st4:(sSet 5 (cC (Yg (getV 1) (Yg (getV 2) (Yg (b2 (lF (dLst (Yg (getV 3) (Yg (cC (Yg (getC 3) aNil) tupC) aNil)))) (b2 (b2 (cC (Yg (getV 0) (Yg (kD (.int 0)) aNil)) Yab) (kD (.int 200)) divI) (kD (.int 2)) modI) ixD) aNil))) Ya1)) [some (.sh (.scr ns)),some (.sh (kdD k)),some (.sh (.int (n:Int))),some (.sh (.lst ((altB X).map encA))),some (.ow (X.map tpB)),none]=some (.nx [some (.sh (.scr ns)),some (.sh (kdD k)),some (.sh (.int (n:Int))),some (.sh (.lst ((altB X).map encA))),some (.ow (X.map tpB)),some (.sh FD)]):=by
   have a1:Yg (getV 1) (Yg (getV 2) (Yg (b2 (lF (dLst (Yg (getV 3) (Yg (cC (Yg (getC 3) aNil) tupC) aNil)))) (b2 (b2 (cC (Yg (getV 0) (Yg (kD (.int 0)) aNil)) Yab) (kD (.int 200)) divI) (kD (.int 2)) modI) ixD) aNil)) [some (.sh (.scr ns)),some (.sh (kdD k)),some (.sh (.int (n:Int))),some (.sh (.lst ((altB X).map encA))),some (.ow (X.map tpB)),none]=some [kdD k,.int (n:Int),c]:=by
    have g1:getV 1 [some (.sh (.scr ns)),some (.sh (kdD k)),some (.sh (.int (n:Int))),some (.sh (.lst ((altB X).map encA))),some (.ow (X.map tpB)),none]=some (kdD k):=rfl
    have g2:getV 2 [some (.sh (.scr ns)),some (.sh (kdD k)),some (.sh (.int (n:Int))),some (.sh (.lst ((altB X).map encA))),some (.ow (X.map tpB)),none]=some (.int (n:Int)):=rfl
    rw[Yd7,g1,qc,Yd7,g2,qc,Yd7,hcv,qc,Yrr]
    rfl
   rw[y3g,Yno,a1,qc,h1]
   rfl
  have st5:(sIf (orT (b2 (lF (Yas (b1 (getV 3) Yn) [none] (gSet 0) tY (Yjy))) (getC 4) (eqM true)) (orT (notT (b1 (mB (b1 (getC 5) (isiD "tuple"))) truD)) (b2 (cC (Yg (getC 5) aNil) lenC) (kD (.int 2)) (eqM true)))) (sRet (kD (.bl false))) sNil) [some (.sh (.scr ns)),some (.sh (kdD k)),some (.sh (.int (n:Int))),some (.sh (.lst ((altB X).map encA))),some (.ow (X.map tpB)),some (.sh FD)]=some (.nx [some (.sh (.scr ns)),some (.sh (kdD k)),some (.sh (.int (n:Int))),some (.sh (.lst ((altB X).map encA))),some (.ow (X.map tpB)),some (.sh FD)]):=by
   clear hm0 hci hcv h6 hplX st0 st1 st2 st3 st4 htab
   have h3':cC (Yg (getC 5) aNil) lenC [some (.sh (.scr ns)),some (.sh (kdD k)),some (.sh (.int (n:Int))),some (.sh (.lst ((altB X).map encA))),some (.ow (X.map tpB)),some (.sh FD)]=some (.int 2):=h3
   have h4:b2 (lF (Yas (b1 (getV 3) Yn) [none] (gSet 0) tY (Yjy))) (getC 4) (eqM true) [some (.sh (.scr ns)),some (.sh (kdD k)),some (.sh (.int (n:Int))),some (.sh (.lst ((altB X).map encA))),some (.ow (X.map tpB)),some (.sh FD)]=some false:=by
    clear h3'
    generalize (altB X).map encA=LL at *
    generalize X.map tpB=XX at *
    simp[capR,hm1,heqX]
   have h5:b1 (mB (b1 (getC 5) (isiD "tuple"))) truD [some (.sh (.scr ns)),some (.sh (kdD k)),some (.sh (.int (n:Int))),some (.sh (.lst ((altB X).map encA))),some (.ow (X.map tpB)),some (.sh FD)]=some true:=by
    clear h3' h4
    generalize (altB X).map encA=LL at *
    generalize X.map tpB=XX at *
    simp[h2]
   rw[Yxe,y06,h4,qc,if_neg qh,y06,y3f,h5,Option.map_some,qc,y6r,h3',qc,y8e,qc]
   rfl
  rw[Yzy,Yak,st0,qc,Yac,Yxu,Yak,st1,qc,Yac,Yxt,Yak,st2,qc,Yac,Yxs,Yak,st3,qc,Yac,Yxr,Yak,st4,qc,Yac,Yxq,Yak,st5,qc,Yac]
  exact h6
 have key:Yzy [some (.sh (.scr ns)),none,none,none,none,none]=some (.rt (.bl true)):=by
  rcases Yoi (k:=k) hn1 hXn (evo:=Prod.fst) (Y:=altB X) (Ytq X) (enc:=encA) he1 he2 (c:=c) hci with⟨g,hg,ht⟩ | ⟨hg,R',ht,hl,hin',hall,hnot⟩
  ·obtain⟨g1,g2,g3⟩:=Yx5 hg
   have hlk:=Ysm (k:=k) hn1 g1 (fun ev h=>⟨hXn ev ((Yh0 hXn).mp (g2 ev h)),(Yh0 hXn).mp (g2 ev h)⟩) (fun z=>g3 ((Yh0 hXn).mpr z))
   refine go _ ht rfl rfl ?_
   have hs:isiD "str" (.str "blend")=some true:=rfl
   have hgD:grD tpB g=.lst (g.map tpB):=rfl
   rw[hgD]
   clear go ht hg hm0 hm1 htab hcv hci heqX hplX
   generalize (altB X).map encA=LL at *
   generalize g.map tpB=GG at *
   generalize X.map tpB=XX at *
   have q7:Ysc [some (.sh (.scr ns)),some (.sh (kdD k)),some (.sh (.int (n:Int))),some (.sh (.lst LL)),some (.ow XX),some (.sh (.tup [.str "blend",.lst GG]))]=some (.rt (.bl true)):=by
    have fz:frz [4] [some (.sh (.scr ns)),some (.sh (kdD k)),some (.sh (.int (n:Int))),some (.sh (.lst LL)),some (.ow XX),some (.sh (.tup [.str "blend",.lst GG]))]=[some (.sh (.scr ns)),some (.sh (kdD k)),some (.sh (.int (n:Int))),some (.sh (.lst LL)),some (.sh (.lst XX)),some (.sh (.tup [.str "blend",.lst GG]))]:=rfl
    rw[Ysc,Yxf,fz]
    simp[hs,Yga,hlk]
   rw[Yoc,Yak]
   simp[Yga]
   exact q7
  ·have hcl:Cl k n (tabE n X):=fun S h1 h2=>Yx4 Yoh (y3y n X) hg h1 h2
   have hXd:∀ev,ev.length=n→decide (ev∈X)=R'.all fun r=>so k ev r:=fun ev hl=>by
    by_cases h:ev∈X
    ·rw[hall ev ((Yh0 hXn).mpr h)]
     simpa using h
    ·have h':ev∉tabE n X:=fun z=>h ((Yh0 hXn).mp z)
     rw[hnot ev hl h' (y30 k Yoh hcl hl h')]
     simpa using h
   have hbk:=Yuv hn1 hl (fun r hr=>⟨(hin' r hr).1,(hin' r hr).2.2⟩) hXd
   refine go _ ht rfl rfl ?_
   clear go ht hg hm0 hm1 htab hcv hci heqX hplX hcl hXd hall hnot
   generalize (altB X).map encA=LL at *
   generalize Yb3 k R'=BK at *
   generalize X.map tpB=XX at *
   rw[Yoc,Yak]
   have fz:frz [4] [some (.sh (.scr ns)),some (.sh (kdD k)),some (.sh (.int (n:Int))),some (.sh (.lst LL)),some (.ow XX),some (.sh (.tup [.str "book",BK]))]=[some (.sh (.scr ns)),some (.sh (kdD k)),some (.sh (.int (n:Int))),some (.sh (.lst LL)),some (.sh (.lst XX)),some (.sh (.tup [.str "book",BK]))]:=rfl
   have q:wF [4] (sRet (cC (Yg (b2 (getC 5) (kD (.int 1)) ixD) (Yg (getV 1) (Yg (getV 2) (Yg (getV 4) aNil)))) Ydm)) [some (.sh (.scr ns)),some (.sh (kdD k)),some (.sh (.int (n:Int))),some (.sh (.lst LL)),some (.ow XX),some (.sh (.tup [.str "book",BK]))]=some (.rt (.bl true)):=by
    rw[Yxf,fz]
    simp[hbk]
   have hc1:b2 (b2 (getC 5) (kD (.int 0)) ixD) (kD (.str "book")) (eqM false) [some (.sh (.scr ns)),some (.sh (kdD k)),some (.sh (.int (n:Int))),some (.sh (.lst LL)),some (.ow XX),some (.sh (.tup [.str "book",BK]))]=some true:=by
    simp[Yga]
   rw[Yxe,hc1,qc,if_pos rfl,q]
   rfl
 rw[key]
 rfl
end Lw
namespace Op
open PySem PySem.W PyProof.Rows PySem.Calls
set_option maxRecDepth 100000
noncomputable abbrev pg:Program:=PySem.Challenge.pw_duskbook_k51_table_or_blend
noncomputable abbrev en(P:Params)(x:Str)(t:Nat)(v:Value):DictEntry:=⟨PyData.keyHash P x,.str x t,v⟩
noncomputable abbrev fn(name qual:Str)(s:Stmt)(dV kV doc pm:Value)(an:Option Addr)(cdv ct:Value)(g b:Nat):Data:=.func ⟨name,qual,L2.defArgs s,.stmts (L2.defBody s),L2.defScope s,g,[],dV,kV,doc,pm,an,cdv,ct,b⟩
noncomputable abbrev tu(l:List Value):Obj:=⟨.type "tuple",none,.seq ⟨l⟩ 0,#[]⟩
noncomputable abbrev fl:Obj:=⟨.none,none,.fields #[],#[]⟩
noncomputable abbrev oZ(x:Str)(i:Nat):Obj:=⟨.none,none,fn x x (Lw.top i) .none .none .none .none none .none .none 0 0,#[]⟩
noncomputable abbrev oF(x:Str)(i:Nat)(pm:Value)(c:Nat):Obj:=⟨.type "function",none,.func (fnOf x x (L2.defArgs (Lw.top i)) (L2.defBody (Lw.top i)) (L2.defScope (Lw.top i)) .none .none .none pm none (.ref c) .none),#[]⟩
noncomputable abbrev oC(x:Str)(t l n b:Nat)(u v:Value)(c k e:Nat):Obj:=⟨.type "code",none,.fields #[.str x t,.str x (t+1),.str "/claim/cut.py" (t+2),.int (.ofNat l) 0,.int (.ofNat n) 0,.int 0 0,.int 0 0,.int 3 0,.ref b,.bool true,.int (.ofNat k) 0,.ref (b+1),.none,u,v,.ref c,.int (.ofNat e) 0,.int (.ofNat l) 0,.str "/claim/cut.py" (e+1)],#[]⟩
noncomputable abbrev p0:Value:=(.str "duskbook.blends" 187)
noncomputable abbrev p1:Value:=(.str "duskbook.books" 261)
noncomputable abbrev p2:Value:=(.str "duskbook.tables" 363)
noncomputable abbrev p3:Value:=(.str "law_duskbook_k51_table_or_blend" 454)
noncomputable def et0(P:Params):List DictEntry:=[en P "__doc__" 166 .none,en P "__package__" 167 .none,en P "__loader__" 168 (.builtin "__main__.__loader__#opaque"),en P "__spec__" 169 .none,en P "__annotations__" 170 (.ref 6),en P "__builtins__" 171 (.ref 4),en P "__file__" 173 (.str "/claim/cut.py" 172),en P "__cached__" 174 .none,en P "blended_light" 196 (.ref 21),en P "lit_count_at" 202 (.ref 26),en P "blended" 208 (.ref 31),en P "DuskError" 228 (.ref 41),en P "NoBook" 244 (.ref 54),en P "NoTable" 260 (.ref 66),en P "KINDS" 267 (.ref 69),en P "BEACON_COUNT" 269 (.int (60) 268),en P "MOST_RULES" 271 (.int (60) 270),en P "MOST_SAYINGS" 273 (.int (2) 272),en P "is_beacon" 280 (.ref 76),en P "checked_beacon" 287 (.ref 83),en P "checked_truth" 294 (.ref 90),en P "checked_beacons" 300 (.ref 95),en P "either_made" 306 (.ref 100),en P "sum_made" 313 (.ref 107),en P "if_made" 321 (.ref 114),en P "rule_made" 329 (.ref 121),en P "book_made" 335 (.ref 126),en P "either_holds" 341 (.ref 131),en P "sum_holds" 347 (.ref 136),en P "if_holds" 353 (.ref 141),en P "rule_holds" 362 (.ref 148),en P "MOST_LENGTH" 366 (.int (4) 365),en P "BLENDED_COUNTS" 379 (.ref 149),en P "is_length" 386 (.ref 156),en P "check_table" 392 (.ref 161),en P "all_evenings" 398 (.ref 166),en P "groups_of" 404 (.ref 171),en P "small_groups" 414 (.ref 178),en P "eithers_over" 420 (.ref 183),en P "rules_over" 426 (.ref 188)]
noncomputable def et1(P:Params):List DictEntry:=[en P "holds_on_all" 432 (.ref 193),en P "book_of" 438 (.ref 198),en P "lacking_blend" 447 (.ref 205),en P "table_told" 453 (.ref 210),en P "_law_cell" 463 (.ref 217),en P "_law_mixed" 471 (.ref 224),en P "_law_kind" 478 (.ref 231),en P "_law_so" 484 (.ref 236),en P "_law_bits" 495 (.ref 243),en P "_law_same" 501 (.ref 248),en P "_law_all" 507 (.ref 253),en P "_law_table" 513 (.ref 258),en P "_law_rising" 522 (.ref 265),en P "_law_beacon" 530 (.ref 272),en P "_law_saying" 538 (.ref 279),en P "_law_formed" 544 (.ref 284),en P "_law_book" 550 (.ref 289),en P "_law_lacks" 556 (.ref 294),en P "law" 562 (.ref 299)]
noncomputable def et(P:Params):List DictEntry:=et0 P++et1 P
noncomputable abbrev ns(P:Params)(x:DictEntry)(n k:Nat):Obj:=⟨.type "dict",none,.dict ⟨x::(et P).take n⟩ k,#[]⟩
noncomputable def ff0:List Value:=[(.int (2) 0),(.int (0) 0),(.ref 20),(.int (10) 0),(.int (0) 0),(.ref 25),(.int (12) 0),(.int (0) 0),(.ref 30),(.int (16) 0),(.int (0) 0),(.ref 37),(.int (18) 0),(.int (0) 0),(.ref 50),(.int (20) 0),(.int (0) 0),(.ref 62),(.int (27) 0),(.int (0) 0),(.ref 75),(.int (29) 0),(.int (0) 0),(.ref 82),(.int (33) 0),(.int (0) 0),(.ref 89),(.int (37) 0),(.int (0) 0),(.ref 94),(.int (42) 0),(.int (0) 0),(.ref 99),(.int (49) 0),(.int (0) 0),(.ref 106),(.int (51) 0),(.int (0) 0),(.ref 113),(.int (56) 0)]
noncomputable def ff1:List Value:=[(.int (0) 0),(.ref 120),(.int (62) 0),(.int (0) 0),(.ref 125),(.int (68) 0),(.int (0) 0),(.ref 130),(.int (70) 0),(.int (0) 0),(.ref 135),(.int (73) 0),(.int (0) 0),(.ref 140),(.int (77) 0),(.int (0) 0),(.ref 147),(.int (86) 0),(.int (0) 0),(.ref 155),(.int (88) 0),(.int (0) 0),(.ref 160),(.int (93) 0),(.int (0) 0),(.ref 165),(.int (98) 0),(.int (0) 0),(.ref 170),(.int (105) 0),(.int (0) 0),(.ref 177),(.int (110) 0),(.int (0) 0),(.ref 182),(.int (113) 0),(.int (0) 0),(.ref 187),(.int (122) 0),(.int (0) 0)]
noncomputable def ff2:List Value:=[(.ref 192),(.int (124) 0),(.int (0) 0),(.ref 197),(.int (133) 0),(.int (0) 0),(.ref 204),(.int (138) 0),(.int (0) 0),(.ref 209),(.int (146) 0),(.int (0) 0),(.ref 216),(.int (150) 0),(.int (0) 0),(.ref 223),(.int (152) 0),(.int (0) 0),(.ref 230),(.int (154) 0),(.int (0) 0),(.ref 235),(.int (163) 0),(.int (0) 0),(.ref 242),(.int (170) 0),(.int (0) 0),(.ref 247),(.int (182) 0),(.int (0) 0),(.ref 252),(.int (187) 0),(.int (0) 0),(.ref 257),(.int (200) 0),(.int (0) 0),(.ref 264),(.int (207) 0),(.int (0) 0),(.ref 271)]
noncomputable def ff3:List Value:=[(.int (209) 0),(.int (0) 0),(.ref 278),(.int (213) 0),(.int (0) 0),(.ref 283),(.int (225) 0),(.int (0) 0),(.ref 288),(.int (234) 0),(.int (0) 0),(.ref 293),(.int (246) 0),(.int (0) 0),(.ref 298)]
noncomputable def ff:List Value:=ff0++ff1++ff2++ff3
noncomputable abbrev ft(n:Nat):Obj:=⟨.none,none,.fields ⟨ff.take n⟩,#[]⟩
noncomputable abbrev dF(x:Str)(i l n t b:Nat)(pm:Value)(k:Nat):List Obj:=[tu [],fl,oZ x i,oC x t l n b .none .none (b+2) k (t+3),oF x i pm (b+3)]
noncomputable abbrev dG(x:Str)(i l n t b:Nat)(pm:Value)(k:Nat)(u:List Value):List Obj:=[tu [],fl,tu u,tu [],oZ x i,oC x t l n b (.ref (b+2)) (.ref (b+3)) (b+4) k (t+3+u.length),oF x i pm (b+5)]
noncomputable def al0(P:Params):List Obj:=[boot_o_0 P,boot_o_1 P,boot_o_2 P,ns P (en P "__name__" 165 (.str "law_duskbook_k51_table_or_blend" 454)) 59 60,boot_o_4 P,boot_o_5 P,boot_o_6 P,boot_o_7 P,boot_o_8 P,boot_o_9 P,boot_o_10 P,tu [],ft 135,⟨(.type "code"),none,(.fields #[(.str "<module>" 182),(.str "<module>" 183),(.str "/claim/cut.py" 184),(.int (1) 0),(.int (0) 0),(.int (0) 0),(.int (0) 0),(.int (0) 0),(.ref 11),(.bool false),(.int (181) 0),(.ref 12),.none,.none,.none,.none,(.int (185) 0),(.int (1) 0),(.str "/claim/cut.py" 186)]),#[]⟩,⟨(.type "frame"),none,.plain,#[(some (.ref 13)),(some (.ref 3)),(some (.ref 3)),none,(some (.str "__main__" 164)),none,(some (.ref 0))]⟩]++(dG "blended_light" 1 2 2 189 15 p0 181 [(.str "kind" 192),(.str "lit_count" 193)]++(dF "lit_count_at" 2 10 2 197 22 p0 181++(dF "blended" 3 12 2 203 27 p0 181++([tu [(.type "ValueError")],⟨(.type "builtin_function_or_method"),none,(.fields #[(.builtin "type.__prepare__"),(.type "type")]),#[]⟩,⟨(.type "dict"),none,(.dict #[en P "__module__" 218 (.str "duskbook.errors" 209),en P "__qualname__" 220 (.str "DuskError" 219),en P "__firstlineno__" 222 (.int (16) 221),en P "__static_attributes__" 223 (.ref 39)] 4),#[]⟩,tu [],fl,⟨(.type "code"),none,(.fields #[(.str "DuskError" 213),(.str "DuskError" 214),(.str "/claim/cut.py" 215),(.int (16) 0),(.int (0) 0),(.int (0) 0),(.int (0) 0),(.int (0) 0),(.ref 35),(.bool false),(.int (181) 0),(.ref 36),.none,.none,.none,.none,(.int (216) 0),(.int (16) 0),(.str "/claim/cut.py" 217)]),#[]⟩,⟨(.type "frame"),none,.plain,#[(some (.ref 37)),(some (.ref 3)),(some (.ref 34)),none,(some (.str "duskbook.errors" 209)),none,(some (.ref 0))]⟩,tu [],⟨(.type "dict"),none,(.dict #[en P "__module__" 218 (.str "duskbook.errors" 209),en P "__firstlineno__" 222 (.int (16) 221),en P "__static_attributes__" 223 (.ref 39),en P "__weakref__" 225 (.ref 42),en P "__doc__" 226 .none] 3),#[]⟩,⟨(.type "type"),none,(.cls ⟨"DuskError",[(.type "ValueError")],[(.ref 41),(.type "ValueError"),(.type "Exception"),(.type "BaseException"),(.type "object")],40,"DuskError",true,[],[(.ref 54),(.ref 66)],false,none,false⟩),#[(some (.ref 32)),none,(some (.str "DuskError" 211)),(some (.str "DuskError" 219)),(some (.builtin "ValueError.__new__")),(some (.bool true))]⟩,⟨(.type "getset_descriptor"),none,(.fields #[(.str "__weakref__" 224),(.ref 41),(.builtin "ExceptionGroup.__weakref__"),.none]),#[]⟩,⟨(.type "super"),none,(.fields #[(.ref 41),(.ref 41),(.ref 41)]),#[]⟩,⟨(.type "builtin_function_or_method"),none,(.fields #[(.builtin "object.__init_subclass__"),(.ref 41)]),#[]⟩,tu [(.ref 41)],⟨(.type "builtin_function_or_method"),none,(.fields #[(.builtin "type.__prepare__"),(.type "type")]),#[]⟩,⟨(.type "dict"),none,(.dict #[en P "__module__" 236 (.str "duskbook.errors" 209),en P "__qualname__" 238 (.str "NoBook" 237),en P "__firstlineno__" 240 (.int (18) 239),en P "__static_attributes__" 241 (.ref 52)] 4),#[]⟩,tu [],fl,⟨(.type "code"),none,(.fields #[(.str "NoBook" 231),(.str "NoBook" 232),(.str "/claim/cut.py" 233),(.int (18) 0),(.int (0) 0),(.int (0) 0),(.int (0) 0),(.int (0) 0),(.ref 48),(.bool false),(.int (181) 0),(.ref 49),.none,.none,.none,.none,(.int (234) 0),(.int (18) 0),(.str "/claim/cut.py" 235)]),#[]⟩,⟨(.type "frame"),none,.plain,#[(some (.ref 50)),(some (.ref 3)),(some (.ref 47)),none,(some (.str "duskbook.errors" 209)),none,(some (.ref 0))]⟩,tu [],⟨(.type "dict"),none,(.dict #[en P "__module__" 236 (.str "duskbook.errors" 209),en P "__firstlineno__" 240 (.int (18) 239),en P "__static_attributes__" 241 (.ref 52),en P "__doc__" 242 .none] 2),#[]⟩,⟨(.type "type"),none,(.cls ⟨"NoBook",[(.ref 41)],[(.ref 54),(.ref 41),(.type "ValueError"),(.type "Exception"),(.type "BaseException"),(.type "object")],53,"NoBook",true,[],[],false,none,false⟩),#[(some (.ref 45)),none,(some (.str "NoBook" 229)),(some (.str "NoBook" 237)),(some (.builtin "ValueError.__new__")),(some (.bool true))]⟩,⟨(.type "super"),none,(.fields #[(.ref 54),(.ref 54),(.ref 54)]),#[]⟩,⟨(.type "builtin_function_or_method"),none,(.fields #[(.builtin "object.__init_subclass__"),(.ref 54)]),#[]⟩,tu [(.ref 41)],⟨(.type "builtin_function_or_method"),none,(.fields #[(.builtin "type.__prepare__"),(.type "type")]),#[]⟩,⟨(.type "dict"),none,(.dict #[en P "__module__" 252 (.str "duskbook.errors" 209),en P "__qualname__" 254 (.str "NoTable" 253),en P "__firstlineno__" 256 (.int (20) 255),en P "__static_attributes__" 257 (.ref 64)] 4),#[]⟩,tu [],fl,⟨(.type "code"),none,(.fields #[(.str "NoTable" 247),(.str "NoTable" 248),(.str "/claim/cut.py" 249),(.int (20) 0),(.int (0) 0),(.int (0) 0),(.int (0) 0),(.int (0) 0),(.ref 60),(.bool false),(.int (181) 0),(.ref 61),.none,.none,.none,.none,(.int (250) 0),(.int (20) 0),(.str "/claim/cut.py" 251)]),#[]⟩,⟨(.type "frame"),none,.plain,#[(some (.ref 62)),(some (.ref 3)),(some (.ref 59)),none,(some (.str "duskbook.errors" 209)),none,(some (.ref 0))]⟩,tu [],⟨(.type "dict"),none,(.dict #[en P "__module__" 252 (.str "duskbook.errors" 209),en P "__firstlineno__" 256 (.int (20) 255),en P "__static_attributes__" 257 (.ref 64),en P "__doc__" 258 .none] 2),#[]⟩,⟨(.type "type"),none,(.cls ⟨"NoTable",[(.ref 41)],[(.ref 66),(.ref 41),(.type "ValueError"),(.type "Exception"),(.type "BaseException"),(.type "object")],65,"NoTable",true,[],[],false,none,false⟩),#[(some (.ref 57)),none,(some (.str "NoTable" 245)),(some (.str "NoTable" 253)),(some (.builtin "ValueError.__new__")),(some (.bool true))]⟩,⟨(.type "super"),none,(.fields #[(.ref 66),(.ref 66),(.ref 66)]),#[]⟩,⟨(.type "builtin_function_or_method"),none,(.fields #[(.builtin "object.__init_subclass__"),(.ref 66)]),#[]⟩,tu [(.str "eithers" 263),(.str "sums" 264),(.str "ifs" 265),(.str "nots" 266)]]++(dG "is_beacon" 13 27 1 274 70 p1 181 [(.str "thing" 277)]++(dG "checked_beacon" 14 29 1 281 77 p1 181 [(.str "thing" 284)]++(dG "checked_truth" 15 33 1 288 84 p1 181 [(.str "thing" 291)]++(dF "checked_beacons" 16 37 1 295 91 p1 181++(dF "either_made" 17 42 1 301 96 p1 181++(dG "sum_made" 18 49 1 307 101 p1 181 [(.str "rule" 310)]++(dG "if_made" 19 51 1 314 108 p1 181 [(.str "rule" 317),(.str "head" 318)]++(dG "rule_made" 20 56 2 322 115 p1 181 [(.str "kind" 325),(.str "rule" 326)]++(dF "book_made" 21 62 2 330 122 p1 181++(dF "either_holds" 22 68 2 336 127 p1 181++(dF "sum_holds" 23 70 2 342 132 p1 181++(dF "if_holds" 24 73 3 348 137 p1 181++(dG "rule_holds" 25 77 3 354 142 p1 181 [(.str "kind" 357),(.str "rule" 358),(.str "evening" 359)]++([⟨(.type "dict"),none,(.dict #[en P "eithers" 367 (.int (3) 368),en P "sums" 369 (.int (3) 370),en P "ifs" 371 (.int (2) 372),en P "nots" 373 (.int (2) 374)] 4),#[]⟩]++(dG "is_length" 29 86 1 380 150 p2 181 [(.str "thing" 383)]++(dF "check_table" 30 88 2 387 157 p2 181++(dF "all_evenings" 31 93 1 393 162 p2 181++(dF "groups_of" 32 98 2 399 167 p2 181++(dG "small_groups" 33 105 2 405 172 p2 181 [(.str "things" 408),(.str "most" 409),(.str "groups" 410),(.str "count" 411)]++(dF "eithers_over" 34 110 1 415 179 p2 181))))))))))))))))))))))))
noncomputable def al1(P:Params):List Obj:=dF "rules_over" 35 113 2 421 184 p2 181++(dF "holds_on_all" 36 122 3 427 189 p2 181++(dF "book_of" 37 124 3 433 194 p2 181++(dG "lacking_blend" 38 133 2 439 199 p2 181 [(.str "kind" 442),(.str "table" 443),(.str "group" 444)]++(dF "table_told" 39 138 3 448 206 p2 181++(dG "_law_cell" 41 146 2 456 211 p3 181 [(.str "script" 459),(.str "k" 460)]++(dG "_law_mixed" 42 150 2 464 218 p3 181 [(.str "cell" 467),(.str "by" 468)]++(dG "_law_kind" 43 152 1 472 225 p3 181 [(.str "cell" 475)]++(dF "_law_so" 44 154 3 479 232 p3 181++(dG "_law_bits" 45 163 2 485 237 p3 181 [(.str "cell" 488),(.str "many" 489),(.str "left" 490),(.str "bits" 491),(.str "k" 492)]++(dF "_law_same" 46 170 2 496 244 p3 181++(dF "_law_all" 47 182 1 502 249 p3 181++(dF "_law_table" 48 187 2 508 254 p3 181++(dG "_law_rising" 49 200 2 514 259 p3 181 [(.str "beacons" 517),(.str "length" 518),(.str "k" 519)]++(dG "_law_beacon" 50 207 2 523 266 p3 181 [(.str "thing" 526),(.str "length" 527)]++(dG "_law_saying" 51 209 2 531 273 p3 181 [(.str "thing" 534),(.str "length" 535)]++(dF "_law_formed" 52 213 3 539 280 p3 181++(dF "_law_book" 53 225 4 545 285 p3 181++(dF "_law_lacks" 54 234 4 551 290 p3 181++(dF "law" 55 246 1 557 295 p3 181)))))))))))))))))))
noncomputable def al(P:Params):List Obj:=al0 P++al1 P
noncomputable def upd(l:List (Nat × Obj))(xs:List Obj):List Obj:=l.foldl (fun xs p=>xs.set p.1 p.2) xs
noncomputable def ev:List Obj→List Obj
 | []=>[]
 | [x]=>[x]
 | x::_::r=>x::ev r
noncomputable def bt:Nat→List Obj→BT
 | 0,_=>.nil
 | _+1,[]=>.nil
 | n+1,x::xs=>.node x (bt n (ev xs)) (bt n (ev xs.tail))
noncomputable abbrev bd:List Stmt:=behindTheImports pg
noncomputable abbrev sl(i n:Nat):List Stmt:=(bd.drop i).take n
noncomputable abbrev env:Env:={ scope:=pg.main.scope,locals:=mainNs,globals:=mainNs,cells:=[],code:=(.ref 13),frame:=some 14 }
noncomputable abbrev cE:Code:=.body bd env
noncomputable abbrev B:List Frame:=[topFrame ⟨0,0,0,0⟩]
noncomputable abbrev ss(n:Nat)(l:Params→List (Nat × Obj))(t:Nat)(w:World)(os:OsState):SharedT:=⟨bt 12 (upd (l w.params) ((al w.params).take n)),n,{},.mk [],boot_drawn,t,os⟩
noncomputable def h0(P:Params):Heap:=⟨⟨upd [(3,boot_o_3 P),(12,fl)] ((al P).take 15)⟩,{}⟩
noncomputable abbrev s0(w:World)(os:OsState):Shared:=⟨h0 w.params,.mk [],boot_drawn,187,os⟩
noncomputable abbrev s1:World→OsState→SharedT:=ss 15 (fun P=>[(3,boot_o_3 P),(12,fl)]) 187
noncomputable abbrev s2:World→OsState→SharedT:=ss 45 (fun P=>[(3,ns P (en P "__name__" 165 (.str "duskbook.errors" 209)) 12 13),(12,ft 12),(41,⟨(.type "type"),none,(.cls ⟨"DuskError",[(.type "ValueError")],[(.ref 41),(.type "ValueError"),(.type "Exception"),(.type "BaseException"),(.type "object")],40,"DuskError",true,[],[],false,none,false⟩),#[(some (.ref 32)),none,(some (.str "DuskError" 211)),(some (.str "DuskError" 219)),(some (.builtin "ValueError.__new__")),(some (.bool true))]⟩)]) 229
noncomputable abbrev s3:World→OsState→SharedT:=ss 57 (fun P=>[(3,ns P (en P "__name__" 165 (.str "duskbook.errors" 209)) 13 14),(12,ft 15),(41,⟨(.type "type"),none,(.cls ⟨"DuskError",[(.type "ValueError")],[(.ref 41),(.type "ValueError"),(.type "Exception"),(.type "BaseException"),(.type "object")],40,"DuskError",true,[],[(.ref 54)],false,none,false⟩),#[(some (.ref 32)),none,(some (.str "DuskError" 211)),(some (.str "DuskError" 219)),(some (.builtin "ValueError.__new__")),(some (.bool true))]⟩)]) 245
noncomputable abbrev s4:World→OsState→SharedT:=ss 96 (fun P=>[(3,ns P (en P "__name__" 165 (.str "duskbook.books" 261)) 22 23),(12,ft 30)]) 301
noncomputable abbrev s5:World→OsState→SharedT:=ss 162 (fun P=>[(3,ns P (en P "__name__" 165 (.str "duskbook.tables" 363)) 35 36),(12,ft 63)]) 393
noncomputable abbrev s6:World→OsState→SharedT:=ss 237 (fun P=>[(3,ns P (en P "__name__" 165 (.str "law_duskbook_k51_table_or_blend" 454)) 48 49),(12,ft 102)]) 485
noncomputable abbrev s7:World→OsState→SharedT:=ss 300 (fun P=>[]) 563
noncomputable def h8(P:Params):Heap:=⟨⟨upd [] ((al P).take 300)⟩,{}⟩
noncomputable abbrev s8(w:World)(os:OsState):Shared:=⟨h8 w.params,.mk [],boot_drawn,563,os⟩
noncomputable abbrev sz(w:World)(os:OsState):Shared:=⟨boot_heap w.params,.mk [],boot_drawn,boot_toks,os⟩
theorem e0:∀w:World,(fun os=>topGo treeTable pg w 11 (some (.ref 6)) 12 (sz w os) (topStub pg))=fun os=>some (s0 w os,⟨denote treeTable cE,cE,⟨0,0,0,0⟩,B⟩):=by
 rw[W.Fast.te15667345088766844465,W.Fast.te14364793385576792824,W.Fast.te11892475500146522536];intro w;kernel_rfl
theorem e1:∀w:World,(fun os=>segRun treeTable pg w 11 (some (.ref 6)) 1 1 (s0 w os) (blockOf bd env cE ⟨0,0,0,0⟩ B))=fun os=>some (.next,(s1 w os).abs,cE,⟨0,0,0,0⟩):=by
 rw[W.Fast.te14374325043358763698,W.Fast.te14364793385576792824];intro w;kernel_rfl
theorem e2:∀w:World,(fun os=>segRunT treeTable pg w 11 (some (.ref 6)) 1 287 (s1 w os) (piecesOf (sl 0 6) env cE ⟨0,0,0,0⟩ B))=fun os=>some (.next,s2 w os,cE,⟨16,0,17,8⟩):=by
 rw[W.Fast.te10110043849684766642,W.Fast.te14364793385576792824];intro w;kernel_rfl
theorem e3:∀w:World,(fun os=>segRunT treeTable pg w 11 (some (.ref 6)) 1 214 (s2 w os) (piecesOf (sl 6 1) env cE ⟨16,0,17,8⟩ B))=fun os=>some (.next,s3 w os,cE,⟨18,0,19,8⟩):=by
 rw[W.Fast.te10110043849684766642,W.Fast.te14364793385576792824];intro w;kernel_rfl
theorem e4:∀w:World,(fun os=>segRunT treeTable pg w 11 (some (.ref 6)) 1 377 (s3 w os) (piecesOf (sl 7 10) env cE ⟨18,0,19,8⟩ B))=fun os=>some (.next,s4 w os,cE,⟨37,0,41,33⟩):=by
 rw[W.Fast.te10110043849684766642,W.Fast.te14364793385576792824];intro w;kernel_rfl
theorem e5:∀w:World,(fun os=>segRunT treeTable pg w 11 (some (.ref 6)) 1 394 (s4 w os) (piecesOf (sl 17 14) env cE ⟨37,0,41,33⟩ B))=fun os=>some (.next,s5 w os,cE,⟨88,0,92,54⟩):=by
 rw[W.Fast.te10110043849684766642,W.Fast.te14364793385576792824];refine byRow2 "special-get-raises" ?_ ?_<;>(intro w;kernel_rfl)
theorem e6:∀w:World,(fun os=>segRunT treeTable pg w 11 (some (.ref 6)) 1 370 (s5 w os) (piecesOf (sl 31 14) env cE ⟨88,0,92,54⟩ B))=fun os=>some (.next,s6 w os,cE,⟨154,0,162,58⟩):=by
 rw[W.Fast.te10110043849684766642,W.Fast.te14364793385576792824];intro w;kernel_rfl
theorem e7:∀w:World,(fun os=>segRunT treeTable pg w 11 (some (.ref 6)) 1 307 (s6 w os) (piecesOf (sl 45 11) env cE ⟨154,0,162,58⟩ B))=fun os=>some (.next,s7 w os,cE,⟨246,0,256,106⟩):=by
 rw[W.Fast.te10110043849684766642,W.Fast.te14364793385576792824];intro w;kernel_rfl
theorem e8:∀w:World,(fun os=>topRun treeTable pg w 11 (some (.ref 6)) 2 (s7 w os).abs ⟨doneF .next,cE,⟨246,0,256,106⟩,B⟩)=fun os=>some (s8 w os):=by
 rw[W.Fast.te14082659384304107361,W.Fast.te14364793385576792824];intro w;kernel_rfl
noncomputable abbrev m8:Nat:=2
noncomputable abbrev t8:List Stmt:=[]
noncomputable abbrev R(w:World)(os:OsState)(m:Nat)(s:Shared)(t:List Stmt)(p:Pos):Prop:=topRun treeTable pg w 11 (some (.ref 6)) m s (restOf t env cE p B)=some (s8 w os)
theorem r8(w:World)(os:OsState):R w os m8 (s7 w os).abs t8 ⟨246,0,256,106⟩:=congrFun (e8 w) os
noncomputable abbrev m7:Nat:=307+m8
noncomputable abbrev t7:List Stmt:=sl 45 11++t8
theorem r7(w:World)(os:OsState):R w os m7 (s6 w os).abs t7 ⟨154,0,162,58⟩:=piece_app (segRun_of (congrFun (e7 w) os)) (r8 w os)
noncomputable abbrev m6:Nat:=370+m7
noncomputable abbrev t6:List Stmt:=sl 31 14++t7
theorem r6(w:World)(os:OsState):R w os m6 (s5 w os).abs t6 ⟨88,0,92,54⟩:=piece_app (segRun_of (congrFun (e6 w) os)) (r7 w os)
noncomputable abbrev m5:Nat:=394+m6
noncomputable abbrev t5:List Stmt:=sl 17 14++t6
theorem r5(w:World)(os:OsState):R w os m5 (s4 w os).abs t5 ⟨37,0,41,33⟩:=piece_app (segRun_of (congrFun (e5 w) os)) (r6 w os)
noncomputable abbrev m4:Nat:=377+m5
noncomputable abbrev t4:List Stmt:=sl 7 10++t5
theorem r4(w:World)(os:OsState):R w os m4 (s3 w os).abs t4 ⟨18,0,19,8⟩:=piece_app (segRun_of (congrFun (e4 w) os)) (r5 w os)
noncomputable abbrev m3:Nat:=214+m4
noncomputable abbrev t3:List Stmt:=sl 6 1++t4
theorem r3(w:World)(os:OsState):R w os m3 (s2 w os).abs t3 ⟨16,0,17,8⟩:=piece_app (segRun_of (congrFun (e3 w) os)) (r4 w os)
noncomputable abbrev m2:Nat:=287+m3
noncomputable abbrev t2:List Stmt:=sl 0 6++t3
theorem r2(w:World)(os:OsState):R w os m2 (s1 w os).abs t2 ⟨0,0,0,0⟩:=piece_app (segRun_of (congrFun (e2 w) os)) (r3 w os)
theorem tb:bd=t2:=by kernel_rfl
theorem run(w:World)(os:OsState):topRun treeTable pg w 11 (some (.ref 6)) (12+(1+m2)) (sz w os) (topStub pg)=some (s8 w os):=by
 have r:=r2 w os
 unfold R at r
 rw[←congrArg (fun x=>restOf x env cE ⟨0,0,0,0⟩ B) tb]at r
 exact go_top (congrFun (e0 w) os) (piece_block (congrFun (e1 w) os) r)
theorem op:∀w:World,(fencedOpening treeTable pg w 4012).map (fun s=>(s.heap,s.gens,s.drawn,s.toks))=some (boot_heap w.params,Array.mk [],boot_drawn,boot_toks):=
 boot_open (by kernel_rfl) (by decide) (fun s=>by kernel_rfl)
theorem size:∀w:World,((boot_heap w.params).isNs mainGlobals&&(Array.mk []:Array GenState).size==0,(boot_heap w.params).objs.size,(boot_heap w.params).nsMap mainGlobals "__annotations__")=(true,11,(some (.ref 6))):=by
 rw[W.Fast.te8920871248978507458];intro w;kernel_rfl
noncomputable def K(P:Params):Frag:=(nat_lit 3,ns P (en P "__name__" 165 (.str "law_duskbook_k51_table_or_blend" 454)) 59 60)::(nat_lit 20,oC "blended_light" 189 2 2 15 (.ref 17) (.ref 18) 19 181 194)::(nat_lit 21,oF "blended_light" 1 p0 20)::(nat_lit 25,oC "lit_count_at" 197 10 2 22 .none .none 24 181 200)::(nat_lit 26,oF "lit_count_at" 2 p0 25)::(nat_lit 30,oC "blended" 203 12 2 27 .none .none 29 181 206)::(nat_lit 31,oF "blended" 3 p0 30)::(nat_lit 69,tu [(.str "eithers" 263),(.str "sums" 264),(.str "ifs" 265),(.str "nots" 266)])::(nat_lit 75,oC "is_beacon" 274 27 1 70 (.ref 72) (.ref 73) 74 181 278)::(nat_lit 76,oF "is_beacon" 13 p1 75)::(nat_lit 82,oC "checked_beacon" 281 29 1 77 (.ref 79) (.ref 80) 81 181 285)::(nat_lit 83,oF "checked_beacon" 14 p1 82)::(nat_lit 89,oC "checked_truth" 288 33 1 84 (.ref 86) (.ref 87) 88 181 292)::(nat_lit 90,oF "checked_truth" 15 p1 89)::(nat_lit 94,oC "checked_beacons" 295 37 1 91 .none .none 93 181 298)::(nat_lit 95,oF "checked_beacons" 16 p1 94)::(nat_lit 99,oC "either_made" 301 42 1 96 .none .none 98 181 304)::(nat_lit 100,oF "either_made" 17 p1 99)::(nat_lit 106,oC "sum_made" 307 49 1 101 (.ref 103) (.ref 104) 105 181 311)::(nat_lit 107,oF "sum_made" 18 p1 106)::(nat_lit 113,oC "if_made" 314 51 1 108 (.ref 110) (.ref 111) 112 181 319)::(nat_lit 114,oF "if_made" 19 p1 113)::(nat_lit 120,oC "rule_made" 322 56 2 115 (.ref 117) (.ref 118) 119 181 327)::(nat_lit 121,oF "rule_made" 20 p1 120)::(nat_lit 125,oC "book_made" 330 62 2 122 .none .none 124 181 333)::(nat_lit 126,oF "book_made" 21 p1 125)::(nat_lit 130,oC "either_holds" 336 68 2 127 .none .none 129 181 339)::(nat_lit 131,oF "either_holds" 22 p1 130)::(nat_lit 135,oC "sum_holds" 342 70 2 132 .none .none 134 181 345)::(nat_lit 136,oF "sum_holds" 23 p1 135)::(nat_lit 140,oC "if_holds" 348 73 3 137 .none .none 139 181 351)::(nat_lit 141,oF "if_holds" 24 p1 140)::(nat_lit 147,oC "rule_holds" 354 77 3 142 (.ref 144) (.ref 145) 146 181 360)::(nat_lit 148,oF "rule_holds" 25 p1 147)::(nat_lit 149,⟨(.type "dict"),none,(.dict #[en P "eithers" 367 (.int (3) 368),en P "sums" 369 (.int (3) 370),en P "ifs" 371 (.int (2) 372),en P "nots" 373 (.int (2) 374)] 4),#[]⟩)::(nat_lit 155,oC "is_length" 380 86 1 150 (.ref 152) (.ref 153) 154 181 384)::(nat_lit 156,oF "is_length" 29 p2 155)::(nat_lit 160,oC "check_table" 387 88 2 157 .none .none 159 181 390)::(nat_lit 161,oF "check_table" 30 p2 160)::(nat_lit 165,oC "all_evenings" 393 93 1 162 .none .none 164 181 396)::(nat_lit 166,oF "all_evenings" 31 p2 165)::(nat_lit 170,oC "groups_of" 399 98 2 167 .none .none 169 181 402)::(nat_lit 171,oF "groups_of" 32 p2 170)::(nat_lit 177,oC "small_groups" 405 105 2 172 (.ref 174) (.ref 175) 176 181 412)::(nat_lit 178,oF "small_groups" 33 p2 177)::(nat_lit 182,oC "eithers_over" 415 110 1 179 .none .none 181 181 418)::(nat_lit 183,oF "eithers_over" 34 p2 182)::(nat_lit 187,oC "rules_over" 421 113 2 184 .none .none 186 181 424)::(nat_lit 188,oF "rules_over" 35 p2 187)::(nat_lit 192,oC "holds_on_all" 427 122 3 189 .none .none 191 181 430)::(nat_lit 193,oF "holds_on_all" 36 p2 192)::(nat_lit 197,oC "book_of" 433 124 3 194 .none .none 196 181 436)::(nat_lit 198,oF "book_of" 37 p2 197)::(nat_lit 204,oC "lacking_blend" 439 133 2 199 (.ref 201) (.ref 202) 203 181 445)::(nat_lit 205,oF "lacking_blend" 38 p2 204)::(nat_lit 209,oC "table_told" 448 138 3 206 .none .none 208 181 451)::(nat_lit 210,oF "table_told" 39 p2 209)::(nat_lit 216,oC "_law_cell" 456 146 2 211 (.ref 213) (.ref 214) 215 181 461)::(nat_lit 217,oF "_law_cell" 41 p3 216)::(nat_lit 223,oC "_law_mixed" 464 150 2 218 (.ref 220) (.ref 221) 222 181 469)::(nat_lit 224,oF "_law_mixed" 42 p3 223)::(nat_lit 230,oC "_law_kind" 472 152 1 225 (.ref 227) (.ref 228) 229 181 476)::(nat_lit 231,oF "_law_kind" 43 p3 230)::(nat_lit 235,oC "_law_so" 479 154 3 232 .none .none 234 181 482)::(nat_lit 236,oF "_law_so" 44 p3 235)::(nat_lit 242,oC "_law_bits" 485 163 2 237 (.ref 239) (.ref 240) 241 181 493)::(nat_lit 243,oF "_law_bits" 45 p3 242)::(nat_lit 247,oC "_law_same" 496 170 2 244 .none .none 246 181 499)::(nat_lit 248,oF "_law_same" 46 p3 247)::(nat_lit 252,oC "_law_all" 502 182 1 249 .none .none 251 181 505)::(nat_lit 253,oF "_law_all" 47 p3 252)::(nat_lit 257,oC "_law_table" 508 187 2 254 .none .none 256 181 511)::(nat_lit 258,oF "_law_table" 48 p3 257)::(nat_lit 264,oC "_law_rising" 514 200 2 259 (.ref 261) (.ref 262) 263 181 520)::(nat_lit 265,oF "_law_rising" 49 p3 264)::(nat_lit 271,oC "_law_beacon" 523 207 2 266 (.ref 268) (.ref 269) 270 181 528)::(nat_lit 272,oF "_law_beacon" 50 p3 271)::(nat_lit 278,oC "_law_saying" 531 209 2 273 (.ref 275) (.ref 276) 277 181 536)::(nat_lit 279,oF "_law_saying" 51 p3 278)::(nat_lit 283,oC "_law_formed" 539 213 3 280 .none .none 282 181 542)::(nat_lit 284,oF "_law_formed" 52 p3 283)::(nat_lit 288,oC "_law_book" 545 225 4 285 .none .none 287 181 548)::(nat_lit 289,oF "_law_book" 53 p3 288)::(nat_lit 293,oC "_law_lacks" 551 234 4 290 .none .none 292 181 554)::(nat_lit 294,oF "_law_lacks" 54 p3 293)::(nat_lit 298,oC "law" 557 246 1 295 .none .none 297 181 560)::(nat_lit 299,oF "law" 55 p3 298)::[]
noncomputable def hk:Hook:=kHook K (3::20::21::25::26::30::31::69::75::76::82::83::89::90::94::95::99::100::106::107::113::114::120::121::125::126::130::131::135::136::140::141::147::148::149::155::156::160::161::165::166::170::171::177::178::182::183::187::188::192::193::197::198::204::205::209::210::216::217::223::224::230::231::235::236::242::243::247::248::252::253::257::258::264::265::271::272::278::279::283::284::288::289::293::294::298::299::[]) (fun _=>by kernel_rfl)
noncomputable def Q:Program:={ pg with main:={ pg.main with body:=[Lw.top 55] } }
noncomputable def ls:List Str:=(["blended_light","lit_count_at","blended","DuskError","NoBook","NoTable","KINDS","BEACON_COUNT","MOST_RULES","MOST_SAYINGS","is_beacon","checked_beacon","checked_truth","checked_beacons","either_made","sum_made","if_made","rule_made","book_made","either_holds","sum_holds","if_holds","rule_holds","MOST_LENGTH","BLENDED_COUNTS","is_length","check_table","all_evenings","groups_of","small_groups","eithers_over","rules_over","holds_on_all","book_of","lacking_blend","table_told","_law_cell","_law_mixed","_law_kind","_law_so","_law_bits","_law_same","_law_all","_law_table","_law_rising","_law_beacon","_law_saying","_law_formed","_law_book","_law_lacks"]).map Str.ofString
noncomputable abbrev Xt(s:Shared):Bool:=xlAt Q [] s&&recOk (RowW.records (OpenRow.toRowW PySem.Challenge.rw_duskbook_k51_table_or_blend.row)) s
theorem y8j:∀w:World,(fun os=>((staticsOk (importedModules pg.main.body) (boot_heap w.params) (h8 w.params)&&namesBound pg (h8 w.params)&&gensDone (s8 w os)&&laidKept (boot_heap w.params) (h8 w.params)),openSeen Q ls (importedModules pg.main.body) Xt true (s8 w os),Hook.obs hk (s8 w os)))=fun _=>(true,openGood Q ls,Hook.val hk w):=by
 rw[W.Fast.te5923862056798008813,W.Fast.te4187177175401517315];intro w;kernel_rfl
theorem left:LeftO pg Q ls Xt (Hook.obs hk) (Hook.val hk) 4012:=LeftO.of_pieces (H₁:=h8) (M:=12+(1+m2)) op size run (by decide) y8j
end Op
open PySem PySem.W PyProof.Rows
set_option maxRecDepth 100000 in
theorem PySem.Challenge.cw_duskbook_k51_table_or_blend_holds : PySem.Challenge.rw_duskbook_k51_table_or_blend.Holds := by
 w_on;o_law
 refine holds_open (q:=Op.Q) (loose:=Op.ls) (Xt:=Op.Xt) (XP:=XL Op.Q []) (Yf:=Hook.obs Op.hk) (Ya:=Hook.val Op.hk) (YP:=InK Op.K) (N:=4012) Op.left (Hook.of Op.hk) (Hook.keeps Op.hk) (fun s e=>xl_of s (Bool.and_eq_true_iff.mp e).1) XL.keeps (by rfl) (by rfl) (by rfl) (fun s e=>recFacts_of (Bool.and_eq_true_iff.mp e).2) (by rfl) (by assumption) (by decide +kernel) ⟨rfl,rfl,rfl,rfl,rfl,by decide +kernel⟩ ?hw ?hc
 (case hw=>w_witness2)
 k_fill
 refine Lw.walk Lw.law_true (l:=PySem.Challenge.rw_duskbook_k51_table_or_blend) rfl rfl (K:=Op.K) (fun w h Y=>Y) ?F
 case F=>
  intro w mg fa h KX G hmg
  refine' Lw.all_mk KX G hmg ?_ ?_ ?_ ?_ ?_ ?_ ?_ ?_ ?_ ?_ ?_ ?_ ?_ ?_ ?_ ?_ ?_ ?_ ?_ ?_ ?_ ?_ ?_ ?_ ?_ ?_ ?_ ?_ ?_ ?_ ?_ ?_ ?_ ?_ ?_ ?_ ?_ ?_ ?_ ?_ ?_ ?_ ?_ ?_ ?_ ?_ ?_ ?_ ?_ ?_ ?_ ?_ ?_ ?_ ?_ ?_ ?_ ?_ ?_ ?_ ?_ ?_ ?_ ?_ ?_ ?_ ?_ ?_ ?_ ?_ ?_ ?_ ?_ ?_ ?_ ?_ ?_ ?_ ?_ ?_ ?_ ?_ ?_ ?_ ?_ ?_ ?_ ?_ ?_ ?_ ?_ ?_ ?_ ?_ ?_ ?_ ?_ ?_ ?_ ?_ ?_ ?_ ?_ ?_ ?_ ?_ ?_ ?_
  all_goals (try (first | k_is | (refine' L2.fun_mk ?l ?c ?k;(case l=>k_is);(case c=>k_is);(case k=>k_is))))
