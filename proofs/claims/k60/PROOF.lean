import PyProof.Rows.All
import Wide.All
import OpenK.AllK
import Wide.FinOn
import Lean
import PyProof.EqAt
import PyProof.EqKinds
import PyProof.TupleCall
import PySem.Challenge.RW_duskbook_k60_paper_texts_refused
set_option Elab.async false
set_option linter.all false
set_option maxRecDepth 100000
abbrev fsc(l:List (PySem.Str × PySem.NameKind)):PySem.Scope:={ kind:=.function,names:=l,isGenerator:=false,isCoroutine:=false,more:=[] }
theorem qa{α β:Type _}{o:Option α}{f:α->Option β}{b:β}(h:o.bind f=some b):∃a,o=some a/\f a=some b:=Option.bind_eq_some_iff.mp h
theorem qc{α β:Type _}{o:Option α}{f:α->β}{b:β}(h:o.map f=some b):∃a,o=some a/\f a=b:=Option.map_eq_some_iff.mp h
def qd:=@Option.bind_some
def qe:=@PySem.Heap.get?_push_of_some
def qf:=@List.length_map
def qg:=@List.mem_cons_of_mem
def qh:=@List.mem_cons_self
def qi:=@Bool.false_ne_true
def qj:=@Array.length_toList
def qk:=@List.size_toArray
def ql:=@PySem.Heap.lt_size
def qm:=@Nat.ne_of_lt
theorem qo{α:Type _}{l:List α}{i:Nat}{a:α}(h:l[i]?=some a):∃h:i < l.length,l[i]=a:=List.getElem?_eq_some_iff.mp h
def qp:=@PySem.Heap.get?_push_size
def qr:=@List.getElem?_eq_getElem
def qs:=@List.length_cons
theorem qt{α:Type _}{a b:α}{l:List α}(h:a∈b::l):a=b\/a∈l:=List.mem_cons.mp h
def qu:=@Nat.le_refl
theorem qv{α:Type _}{a:α}{s t:List α}(h:a∈s++t):a∈s\/a∈t:=List.mem_append.mp h
def qw:=@List.length_append
def qx:=@Bool.and_eq_true
def qy:=@Nat.le_trans
def qz:=@List.map_cons
def Qa:=@List.getElem?_map
def Qb:=@List.getElem?_set_ne
def Qc:=@List.append_assoc
def Qd:=@Nat.lt_of_lt_of_le
def Qe:=@List.lookup_cons
def Qf:=@List.append_nil
def Qg:=@List.cons_append
def Qh:=@List.nil_append
def Qi:=@List.map_append
def Qj:=@List.mem_append_right
def Qk:=@List.flatMap_cons
def Ql:=@List.drop_eq_getElem_cons
set_option maxHeartbeats 4000000
noncomputable section
namespace L2
open PySem PySem.Spec PyProof.Rows
abbrev Key:=Sum Int Str
def y3e:Key->Value->Bool
 | .inl k,v=>Value.isInt k v
 | .inr x,v=>Value.isStrOf x v
def keyH(w:World):Key->Int
 | .inl k=>hashInt k
 | .inr x=>hashStr w x
theorem Ybr:∀{k:Key} {v:Value},y3e k v=true->(∃i t,k=Sum.inl i/\v=Value.int i t)\/(∃x t,k=Sum.inr x/\v=Value.str x t)
 | .inl i,v,h=>by
   obtain⟨t,e⟩:=Value.isInt_shape (k:=i) (v:=v) h
   exact .inl ⟨i,t,rfl,e⟩
 | .inr x,v,h=>by
   obtain⟨t,e⟩:=Value.isStrOf_shape (x:=x) (v:=v) h
   exact .inr ⟨x,t,rfl,e⟩
theorem y3f(a b:Int):decide ((Sum.inl a:Key)=Sum.inl b)=(a==b):=by
 by_cases e:a=b
 ·subst e;simp
 ·have h:¬(Sum.inl a:Key)=Sum.inl b:=fun q=>e (Sum.inl.inj q)
  rw[decide_eq_false h]
  exact(beq_eq_false_iff_ne.mpr e).symm
theorem y3g(a b:Str):decide ((Sum.inr a:Key)=Sum.inr b)=decide (a=b):=by
 by_cases e:a=b
 ·subst e;simp
 ·have h:¬(Sum.inr a:Key)=Sum.inr b:=fun q=>e (Sum.inr.inj q)
  rw[decide_eq_false h,decide_eq_false e]
theorem y3h(a:Int)(b:Str):decide ((Sum.inl a:Key)=Sum.inr b)=false:=decide_eq_false (fun q=>nomatch q)
theorem y3i(a:Str)(b:Int):decide ((Sum.inr a:Key)=Sum.inl b)=false:=decide_eq_false (fun q=>nomatch q)
def Yow(prog:Program)(w:World):KeyKind prog w Key where
 is:=y3e
 hash:=keyH w
 inj:=fun v a b ha hb=>by
  rcases Ybr ha with⟨i,t,rfl,rfl⟩ | ⟨x,t,rfl,rfl⟩
  ·rcases Ybr hb with⟨j,u,rfl,e⟩ | ⟨y,u,rfl,e⟩
   ·injection e with e1 _;rw[e1]
   ·exact nomatch e
  ·rcases Ybr hb with⟨j,u,rfl,e⟩ | ⟨y,u,rfl,e⟩
   ·exact nomatch e
   ·injection e with e1 _;rw[e1]
 byValue:=fun k v h=>by
  rcases Ybr h with⟨i,t,rfl,rfl⟩ | ⟨x,t,rfl,rfl⟩<;>rfl
 pyHash:=fun hv h=>by
  rcases Ybr hv with⟨i,t,rfl,rfl⟩ | ⟨x,t,rfl,rfl⟩
  ·exact wpAny_pyHash_int h
  ·exact wpAny_pyHash_str h
 eqBool:=fun hu hv h=>by
  rcases Ybr hu with⟨i,t,rfl,rfl⟩ | ⟨x,t,rfl,rfl⟩
  ·rcases Ybr hv with⟨j,u,rfl,rfl⟩ | ⟨y,u,rfl,rfl⟩
   ·rw[y3f]at h;exact wpAny_eqBool_int h
   ·rw[y3h]at h;exact SeqAt.EqAt.int_str i t y u _ _ _ _ h
  ·rcases Ybr hv with⟨j,u,rfl,rfl⟩ | ⟨y,u,rfl,rfl⟩
   ·rw[y3i]at h;exact SeqAt.EqAt.str_int x t j u _ _ _ _ h
   ·rw[y3g]at h;exact wpAny_eqBool_str h
 «strs»:=fun k x t v h=>by
  rcases Ybr h with⟨i,u,rfl,e⟩ | ⟨y,u,rfl,e⟩
  ·exact nomatch e
  ·injection e with e1 _
   subst e1
   cases v<;>rfl
end L2
namespace L2
open PySem PySem.Spec PyProof.Rows
inductive V where
 | non | bl (b:Bool) | int (i:Int) | str (x:Str) | byt (b:Array UInt8) | flt (b:UInt64) | ref (a:Addr) | ty (n:String)
 deriving DecidableEq
def RelV:V->Value->Prop
 | .non,u=>u=Value.none
 | .bl b,u=>u=Value.bool b
 | .int i,u=>∃t,u=Value.int i t
 | .str x,u=>∃t,u=Value.str x t
 | .byt b,u=>∃t,u=Value.bytes b t
 | .flt b,u=>∃t,u=Value.float b t
 | .ref a,u=>u=Value.ref a
 | .ty n,u=>u=Value.type n
abbrev Vals:List V->List Value->Prop:=Paired RelV
theorem Vals.length{xs:List V}{us:List Value}(r:Vals xs us):xs.length=us.length:=Paired.length r
theorem Vals.get:∀{xs:List V} {us:List Value} {i:Nat} {x:V},Vals xs us->xs[i]?=some x->∃u,us[i]?=some u/\RelV x u
 | _,_,_,_,.nil,e=>by simp at e
 | _,_,0,_,.cons r _,e=>by simp at e;subst e;exact⟨_,rfl,r⟩
 | _,_,i+1,x,.cons _ t,e=>by
   obtain⟨u,h1,h2⟩:=Vals.get (i:=i) (x:=x) t (by simpa using e)
   exact⟨u,by simpa using h1,h2⟩
theorem Vals.append:∀{xs ys:List V} {us ws:List Value},Vals xs us->Vals ys ws->Vals (xs++ys) (us++ws)
 | _,_,_,_,.nil,s=>s
 | _,_,_,_,.cons r t,s=>.cons r (Vals.append t s)
theorem Vals.take:∀{xs:List V} {us:List Value} (n:Nat),Vals xs us->Vals (xs.take n) (us.take n)
 | _,_,0,_=>.nil
 | _,_,_+1,.nil=>.nil
 | _,_,n+1,.cons r t=>.cons r (Vals.take n t)
theorem Vals.drop:∀{xs:List V} {us:List Value} (n:Nat),Vals xs us->Vals (xs.drop n) (us.drop n)
 | _,_,0,r=>r
 | _,_,_+1,.nil=>.nil
 | _,_,n+1,.cons _ t=>Vals.drop n t
def RelO:Option V->Option Value->Prop
 | some v,some u=>RelV v u
 | none,none=>True
 | _,_=>False
def KV{κ:Type}:List (κ × V)->List (κ × Value)->Prop:=Paired fun(p:κ × V) (q:κ × Value)=>p.1=q.1/\RelV p.2 q.2
def kV:Key->V
 | .inl i=>.int i
 | .inr x=>.str x
inductive HO where
 | lst (xs:List V)
 | tup (xs:List V)
 | dK (kvs:List (Key × V)) | dT (kvs:List (List Key × V))
 | set (S:Int->Bool) (n:Nat)
 | ins (C dx:Addr) (fs:List (Str × V))
 | own (x:Addr)
 | xd (fs:List (Str × V))
 | met (f x:Addr)
 | rng (lo hi:Int)
 | frz (o:Obj) (u:HO)
 | tbl (ps:Array Value)
 | ext (φ:Heap->Prop)
abbrev Hp:=Addr->Option HO
def upd(H:Hp)(a:Addr)(o:HO):Hp:=fun b=>if b=a then some o else H b
theorem Yq{H:Hp}{a:Addr}{o:HO}:upd H a o a=some o:=by unfold upd;rw[if_pos rfl]
theorem Yn{H:Hp}{a b:Addr}{o:HO}(h:b≠a):upd H a o b=H b:=by unfold upd;rw[if_neg h]
theorem y7{H:Hp}{a b:Addr}{o:HO}(h:H a=some o)(h':H b=none):a≠b:=by
 intro e;subst e;rw[h]at h';cases h'
section
variable (P:Program) (w:World)
def ObjOk(H:Hp)(h:Heap)(a:Addr):HO->Prop
 | .lst xs=>xs.length<=sizeLine/\∃(its:List Value) (n:Nat),Vals xs its/\h.get? a=some { cls:=.type "list",data:=.seq its.toArray n }
 | .tup xs=>xs.length<=sizeLine/\∃its:List Value,Vals xs its/\IsTup h a its.toArray
 | .dK kvs=>kvs.length<=sizeLine/\(a==sysModules)=false/\∃vs,KV kvs vs/\h.DictOf (Yow P w) a vs
 | .dT kvs=>kvs.length<=sizeLine/\(a==sysModules)=false/\∃xs:List (List Key × Addr × Value),
  Paired (fun(p:List Key × V) (q:List Key × Addr × Value)=>p.1=q.1/\H q.2.1=some (.tup (p.1.map kV))/\RelV p.2 q.2.2) kvs xs/\
  ∃o es ep,h.get? a=some o/\o.ExactDict/\o.data=.dict es ep/\es.toList=xs.map (entryOfKey (tupleKind (Yow P w)))/\(xs.map (·.1)).Nodup
 | .set S n=>h.SetOf (intKind P w) a S n
 | .ins C dx fs=>H dx=some (.own a)/\fs.length<=1000/\dx≠a/\h.get? a=some (W.instObj C dx)/\
  ∃mA,h.Ns1 dx mA/\(∀f,RelO (fs.lookup f) (mA f))/\PySem.Within mA (fs.map (·.1))
 | .own _=>∃o,h.get? a=some o
 | .xd fs=>∃mA,h.Ns1 a mA/\∀f,RelO (fs.lookup f) (mA f)
 | .rng lo hi=>∃t u v,h.get? a=some { cls:=.type "range",data:=.fields #[.int lo t,.int hi u,.int 1 v] }
 | .frz o u=>h.get? a=some o/\ObjOk H h a u
 | .tbl ps=>h.get? a=some { cls:=.none,data:=.fields ps }
 | .met f x=>h.get? a=some (W.methodObj (.ref f) (.ref x))
 | .ext φ=>φ h/\(∃o,h.get? a=some o)/\∀h1 h2:Heap,φ h1->(∀o,h1.get? a=some o->h2.get? a=some o)->φ h2
def HOk(H:Hp)(h:Heap):Prop:=∀a o,H a=some o->ObjOk P w H h a o
end
section
variable {P:Program} {w:World} {H H':Hp} {h h':Heap} {a:Addr} {o:HO}
theorem ObjOk.lt(x:ObjOk P w H h a o):a < h.objs.size:=by
 cases o with
 | lst xs=>obtain⟨_,_,_,_,e⟩:=x;exact ql e
 | tup xs=>obtain⟨_,_,_,p⟩:=x;exact p.lt
 | dK kvs=>obtain⟨_,_,_,_,o,_,_,e,_⟩:=x;exact ql e
 | dT kvs=>obtain⟨_,_,_,_,o,_,_,e,_⟩:=x;exact ql e
 | set S n=>obtain⟨o,_,_,_,e,_⟩:=x;exact ql e
 | ins C dx fs=>obtain⟨_,_,_,e,_⟩:=x;exact ql e
 | own y=>obtain⟨_,e⟩:=x;exact ql e
 | xd fs=>obtain⟨_,⟨_,_,_,e,_⟩,_⟩:=x;exact ql e
 | rng lo hi=>obtain⟨_,_,_,e⟩:=x;exact ql e
 | frz ob u=>obtain⟨e,_⟩:=x;exact ql e
 | tbl ps=>exact ql (show h.get? a=some _ from x)
 | met f y=>exact ql (show h.get? a=some _ from x)
 | ext φ=>obtain⟨_,⟨_,e⟩,_⟩:=x;exact ql e
theorem Paired.mapP{α β:Type}{F G:α->β->Prop}:∀{l₁:List α} {l₂:List β},Paired F l₁ l₂->(∀a b,F a b->G a b)->Paired G l₁ l₂
 | _,_,.nil,_=>.nil
 | _,_,.cons r t,f=>.cons (f _ _ r) (Paired.mapP t f)
theorem ObjOk.stay(x:ObjOk P w H h a o)(k:∀b u,(b=a\/H b=some (.own a))->h.get? b=some u->h'.get? b=some u)
 (ho:∀b,H b=some (.own a)->H' b=some (.own a)) (ht:∀b xs,H b=some (.tup xs)->H' b=some (.tup xs)):ObjOk P w H' h' a o:=by
 induction o with
 | lst xs=>obtain⟨z,its,n,r,e⟩:=x;exact⟨z,its,n,r,k _ _ (.inl rfl) e⟩
 | tup xs=>obtain⟨z,its,r,ob,e,c⟩:=x;exact⟨z,its,r,ob,k _ _ (.inl rfl) e,c⟩
 | dK kvs=>obtain⟨z,y,vs,r,ob,es,ep,e,c⟩:=x;exact⟨z,y,vs,r,ob,es,ep,k _ _ (.inl rfl) e,c⟩
 | dT kvs=>
   obtain⟨z,y,xs,r,ob,es,ep,e,c⟩:=x
   exact⟨z,y,xs,Paired.mapP r fun p q z=>⟨z.1,ht _ _ z.2.1,z.2.2⟩,ob,es,ep,k _ _ (.inl rfl) e,c⟩
 | set S n=>obtain⟨ob,es,ep,t,e,c⟩:=x;exact⟨ob,es,ep,t,k _ _ (.inl rfl) e,c⟩
 | ins C dx fs=>
   obtain⟨d,z,ne,e,mA,⟨od,es,ep,e2,c⟩,r⟩:=x
   exact⟨ho _ d,z,ne,k _ _ (.inl rfl) e,mA,⟨od,es,ep,k _ _ (.inr d) e2,c⟩,r⟩
 | own y=>obtain⟨ob,e⟩:=x;exact⟨ob,k _ _ (.inl rfl) e⟩
 | xd fs=>obtain⟨mA,⟨od,es,ep,e,c⟩,r⟩:=x;exact⟨mA,⟨od,es,ep,k _ _ (.inl rfl) e,c⟩,r⟩
 | rng lo hi=>obtain⟨t,u,v,e⟩:=x;exact⟨t,u,v,k _ _ (.inl rfl) e⟩
 | frz ob u ih=>obtain⟨e,q⟩:=x;exact⟨k _ _ (.inl rfl) e,ih q⟩
 | tbl ps=>
   have e:h.get? a=some { cls:=.none,data:=.fields ps }:=x
   show h'.get? a=some { cls:=.none,data:=.fields ps }
   exact k a _ (.inl rfl) e
 | met f y=>
   have e:h.get? a=some (W.methodObj (.ref f) (.ref y)):=x
   show h'.get? a=some (W.methodObj (.ref f) (.ref y))
   exact k a _ (.inl rfl) e
 | ext φ=>obtain⟨p,⟨o,e⟩,st⟩:=x;exact⟨st _ _ p fun o q=>k _ _ (.inl rfl) q,⟨o,k _ _ (.inl rfl) e⟩,st⟩
theorem HOk.lt(x:HOk P w H h)(e:H a=some o):a < h.objs.size:=(x a o e).lt
theorem HOk.fresh(x:HOk P w H h)(e:h.objs.size<=a):H a=none:=by
 cases q:H a with
 | none=>rfl
 | some u=>exact absurd (Qd (x.lt q) e) (Nat.lt_irrefl _)
theorem HOk.kept(x:HOk P w H h)(k:∀b u,h.get? b=some u->h'.get? b=some u):HOk P w H h':=fun a o e=>
 (x a o e).stay (fun b u _ q=>k b u q) (fun _ q=>q) fun _ _ q=>q
theorem HOk.laid(x:HOk P w H h)(k:∀b u,h.get? b=some u->h'.get? b=some u)(hp:h.objs.size<=a)(new:ObjOk P w (upd H a o) h' a o):HOk P w (upd H a o) h':=fun b u e=>by
 have hn:=x.fresh hp
 by_cases hb:b=a
 ·subst hb;rw[Yq]at e;cases e;exact new
 ·rw[Yn hb]at e
  exact(x b u e).stay (fun c v _ q=>k c v q) (fun c q=>by rw[Yn (y7 q hn)];exact q) fun c xs q=>by rw[Yn (y7 q hn)];exact q
end
def Rd(H:Hp)(a:Addr)(u:HO):Prop:=H a=some u\/∃o,H a=some (.frz o u)
theorem Rd.ok{P:Program}{w:World}{H:Hp}{h:Heap}{a:Addr}{u:HO}(r:Rd H a u)(x:HOk P w H h):ObjOk P w H h a u:=by
 rcases r with r | ⟨o,r⟩
 ·exact x a u r
 ·obtain⟨_,q⟩:=x a _ r
  exact q
def Mut:Option HO->Prop
 | some (.lst _)=>True
 | some (.dK _)=>True
 | some (.dT _)=>True
 | some (.set _ _)=>True
 | some (.ins _ _ _)=>True
 | some (.ext _)=>True
 | _=>False
section
variable {P:Program} {w:World} {H:Hp} {h h':Heap} {x e:Addr} {o':HO}
theorem HOk.write(ok:HOk P w H h)(mu:Mut (H x))(he:e=x\/H e=some (.own x))(k:∀b u,b≠e->h.get? b=some u->h'.get? b=some u)(heo:∃u,h'.get? e=some u)
 (new:ObjOk P w (upd H x o') h' x o'):HOk P w (upd H x o') h':=fun b u q=>by
 have nown:∀c y,H c=some (.own y)->c≠x:=fun c y r z=>by subst z;rw[r]at mu;exact mu
 have ntup:∀c xs,H c=some (.tup xs)->c≠x:=fun c xs r z=>by subst z;rw[r]at mu;exact mu
 by_cases hb:b=x
 ·subst hb;rw[Yq]at q;cases q;exact new
 ·rw[Yn hb]at q
  by_cases hbe:b=e
  ·have q':H b=some (.own x):=by
    rcases he with z | z
    ·exact absurd (hbe.trans z) hb
    ·rw[hbe];exact z
   rw[q]at q';cases q'
   obtain⟨v,hv⟩:=heo
   exact⟨v,by rw[hbe];exact hv⟩
  ·refine(ok b u q).stay (fun c v hc r=>k c v ?_ r) (fun c r=>by rw[Yn (nown c b r)];exact r) fun c xs r=>by rw[Yn (ntup c xs r)];exact r
   rcases hc with rfl | hc
   ·exact hbe
   ·rintro rfl
    rcases he with z | z
    ·exact nown c b hc z
    ·rw[hc]at z;cases z;exact hb rfl
end
structure Un(fs ex:List Addr)(H H':Hp)(h h':Heap):Prop where
 keep:∀b o,h.get? b=some o->H b=none->b∉fs->b∉ex->h'.get? b=some o
 slot:∀b o,h.get? b=some o->H b=none->b∈fs->b∉ex->∃sl,h'.get? b=some { o with slots:=sl }
 free:∀b o,h.get? b=some o->H b=none->b∉ex->H' b=none
 there:∀b o,h.get? b=some o->b∉ex->∃o',h'.get? b=some o'
 tups:∀b xs,H b=some (.tup xs)->H' b=some (.tup xs)
 frzs:∀b o u,H b=some (.frz o u)->H' b=some (.frz o u)
 tbls:∀b ps,H b=some (.tbl ps)->∃more,H' b=some (.tbl (ps++more))
section
variable {fs fs' ex ex':List Addr} {H H1 H2:Hp} {h h1 h2 h':Heap} {a x e:Addr} {o:HO}
theorem Un.any(u:Un fs ex H H1 h h1){b:Addr}{ob:Obj}(q:h.get? b=some ob)(n:H b=none)(hx:b∉ex):∃sl,h1.get? b=some { ob with slots:=sl }:=by
 by_cases hb:b∈fs
 ·exact u.slot b ob q n hb hx
 ·exact⟨ob.slots,u.keep b ob q n hb hx⟩
theorem Un.kept(k:∀b u,h.get? b=some u->h'.get? b=some u):Un fs ex H H h h':=
 ⟨fun b ob q _ _ _=>k b ob q,fun b ob q _ _ _=>⟨ob.slots,k b ob q⟩,fun _ _ _ n _=>n,fun b ob q _=>⟨ob,k b ob q⟩,fun _ _ q=>q,fun _ _ _ q=>q,fun _ ps q=>⟨#[],by rw[q];simp⟩⟩
theorem Un.refl:Un fs ex H H h h:=Un.kept fun _ _ q=>q
theorem Un.laid(k:∀b u,h.get? b=some u->h'.get? b=some u)(hp:h.objs.size<=a)(hn:H a=none):Un fs ex H (upd H a o) h h' where
 keep:=fun b u q _ _ _=>k b u q
 slot:=fun b u q _ _ _=>⟨u.slots,k b u q⟩
 free:=fun b u q n _=>by rw[Yn (qm (Qd (ql q) hp))];exact n
 there:=fun b u q _=>⟨u,k b u q⟩
 tups:=fun b xs q=>by rw[Yn (y7 q hn)];exact q
 frzs:=fun b u xs q=>by rw[Yn (y7 q hn)];exact q
 tbls:=fun b ps q=>⟨#[],by rw[Yn (y7 q hn),q];simp⟩
theorem Un.write(mu:Mut (H x))(he:e=x\/H e=some (.own x))(k:∀b u,b≠e->h.get? b=some u->h'.get? b=some u)(heo:∃u,h'.get? e=some u):Un fs ex H (upd H x o) h h':=by
 have hx:∀b,H b=none->b≠x:=fun b n z=>by subst z;rw[n]at mu;exact mu
 have hb:∀b,H b=none->b≠e:=fun b n z=>by
  subst z
  rcases he with r | r
  ·exact hx b n r
  ·rw[n]at r;cases r
 have hm:∀b u,H b=some u->¬Mut (some u)->b≠x:=fun b u q nm z=>by subst z;rw[q]at mu;exact nm mu
 refine⟨fun b u q n _ _=>k b u (hb b n) q,fun b u q n _ _=>⟨u.slots,k b u (hb b n) q⟩,fun b u q n _=>by rw[Yn (hx b n)];exact n,fun b u q _=>?_,
  fun b xs q=>by rw[Yn (hm b _ q fun z=>z)];exact q,fun b u xs q=>by rw[Yn (hm b _ q fun z=>z)];exact q,fun b ps q=>⟨#[],by rw[Yn (hm b _ q fun z=>z),q];simp⟩⟩
 by_cases hbe:b=e
 ·subst hbe;exact heo
 ·exact⟨u,k b u hbe q⟩
end
def trk(h:Heap)(H:Hp):List Addr:=(List.range h.objs.size).filter fun a=>(H a).isSome
def hidT(h:Heap)(H:Hp):Heap:=W.hideAll h (trk h H)
theorem Ys1(h:Heap)(H:Hp):(hidT h H).objs.size=h.objs.size:=W.hideAll_size _ _
theorem Yw3{h:Heap}{H:Hp}{b:Addr}{o:Obj}(e:h.get? b=some o)(n:H b=none):(hidT h H).get? b=some o:=
 W.hideAll_get _ e fun hm=>by
  have q:(H b).isSome=true:=(List.mem_filter.mp hm).2
  rw[n]at q;simp at q
theorem y0q{h:Heap}{H:Hp}{b:Addr}{o:Obj}(e:(hidT h H).get? b=some o):h.get? b=some o/\H b=none:=by
 have e':h.get? b=some o:=W.of_hideAll (trk h H) e
 refine⟨e',?_⟩
 cases q:H b with
 | none=>rfl
 | some x=>
   have hm:b∈trk h H:=List.mem_filter.mpr ⟨List.mem_range.mpr (ql e'),by simp[q]⟩
   have z:(hidT h H).get? b=none:=W.hideAll_none (trk h H) hm
   rw[z]at e;cases e
end L2
namespace L2
open PySem PySem.Spec PyProof.Rows
structure Mod(K:W.Frag)(mg:Str->Option Value)(base:Heap):Prop where
 kin:K.In base
 glob:base.Ns mainGlobals mg
 blt:∃mb,base.Ns builtinsNs mb/\∀x:Str,x≠"__name__"->mb x=bootBuiltins x
 nolimit:base.NoLimit
structure Cx where
 prog:Program
 w:World
 K:W.Frag
 mg:Str->Option Value
 base:Heap
 A:Around
 N:List Str
 s₀:Shared
 H₀:Hp
 env:Env
 outer:List Env
 stack:List Env
 ex:List Addr
 fn:Str->Bool
 calm:Bool
 pn:List (Addr × Obj)
 xe:Value->Shared->Prop
def frs(l:List Env):List Addr:=l.filterMap (·.frame)
abbrev Cx.fs(X:Cx):List Addr:=frs X.outer
def Vis(sc:Scope)(x:Str):Prop:=sc.names.lookup x=some .local\/sc.names.lookup x=some .cell\/sc.names.lookup x=some .free
def Loc(sc:Scope)(x:Str):Prop:=sc.names.lookup x=some .local\/sc.names.lookup x=some .cell
def Look(env:Env)(h:Heap)(m:Str->Option Value)(x:Str)(u:Value):Prop:=
 (env.kindOf x=some .local/\m x=some u)\/((env.kindOf x=some .cell\/env.kindOf x=some .free)/\∃c,env.cells.lookup x=some c/\h.IsCell c (some u))
structure Cx.Ok(X:Cx):Prop where
 mod:Mod X.K X.mg X.base
 kind:X.env.scope.kind=.function
 glob:X.env.globals=mainGlobals
 blt:X.env.builtins=builtinsNs
 above:X.s₀.heap.objs.size<=X.env.locals
 inj:∀x y c,X.env.cells.lookup x=some c->X.env.cells.lookup y=some c->x=y
 has:∀x,(X.env.kindOf x=some .cell\/X.env.kindOf x=some .free)->∃c,X.env.cells.lookup x=some c
 cab:∀x c,X.fn x=true->X.env.cells.lookup x=some c->X.s₀.heap.objs.size<=c
 hd:X.calm=true->X.A.handled=none
 frames:X.A.frames=some X.stack
 stk:X.stack=X.outer\/(X.stack=X.env::X.outer/\X.env.frame=some X.env.locals)
 exf:∀b∈X.ex,b≠X.env.locals/\∀x c,X.env.cells.lookup x=some c->c≠b
 bs:∀b o,X.base.get? b=some o->X.s₀.heap.get? b=some o/\X.H₀ b=none
 bsz:X.base.objs.size<=X.s₀.heap.objs.size
 noex:∀b o,X.base.get? b=some o->b∉X.ex
 exfs:∀b∈X.ex,b∉X.fs
 funs:X.s₀.heap.FunFrames X.base X.outer
 frf:∀b∈X.fs,X.H₀ b=none
structure Inv(X:Cx)(pins:List (Addr × Obj))(σ:List (Option V))(H:Hp)(s:Shared):Prop where
 ok:X.Ok
 os:s.os=X.s₀.os
 bare:AllBare s.gens
 base:Un X.fs X.ex X.H₀ H X.s₀.heap s.heap
 loc:∃m,s.heap.Ns X.env.locals m/\∀(i:Nat) (x:Str) (v:V),X.N[i]?=some x->σ[i]?=some (some v)->Vis X.env.scope x->∃u,RelV v u/\Look X.env s.heap m x u
 cell:∀x c,X.env.cells.lookup x=some c->∃v,s.heap.IsCell c v
 free:H X.env.locals=none
 freeC:∀x c,X.env.cells.lookup x=some c->H c=none
 pin:∀p∈X.pn++pins,s.heap.get? p.1=some p.2/\H p.1=none/\p.1≠X.env.locals/\p.1∉X.fs/\∀v,p.2.data≠.cell v
 hok:HOk X.prog X.w H s.heap
 len:σ.length=X.N.length
section
variable {X:Cx} {pins:List (Addr × Obj)} {σ:List (Option V)} {H H':Hp} {s:Shared} {h':Heap}
theorem Cx.Ok.nofr(ok:X.Ok){b:Addr}{o:Obj}(e:X.base.get? b=some o):b∉X.fs:=fun hb=>by
 have:=(ok.funs.mem hb).1
 rw[e]at this;cases this
theorem Inv.bs(I:Inv X pins σ H s):∀b o,X.base.get? b=some o->s.heap.get? b=some o/\H b=none:=fun b o e=>
 ⟨I.base.keep b o (I.ok.bs b o e).1 (I.ok.bs b o e).2 (I.ok.nofr e) (I.ok.noex b o e),I.base.free b o (I.ok.bs b o e).1 (I.ok.bs b o e).2 (I.ok.noex b o e)⟩
theorem Inv.bk(I:Inv X pins σ H s):∀b o,X.base.get? b=some o->s.heap.get? b=some o:=fun b o e=>(I.bs b o e).1
theorem Inv.mod(I:Inv X pins σ H s):Mod X.K X.mg X.base:=I.ok.mod
theorem Inv.kIn(I:Inv X pins σ H s):X.K.In s.heap:=I.ok.mod.kin.keeps I.bk
theorem Inv.lt(I:Inv X pins σ H s):X.env.locals < s.heap.objs.size:=let ⟨_,hn,_⟩:=I.loc;hn.lt
theorem Inv.sz(I:Inv X pins σ H s):X.s₀.heap.objs.size<=s.heap.objs.size:=qy I.ok.above (Nat.le_of_lt I.lt)
theorem Inv.nofs(I:Inv X pins σ H s){a:Addr}(h:s.heap.objs.size<=a):a∉X.fs:=fun hb=>by
 obtain⟨_,o,ho,_⟩:=I.ok.funs.mem hb
 exact absurd (Qd (ql ho) (qy I.sz h)) (Nat.lt_irrefl _)
theorem Inv.cne(I:Inv X pins σ H s):∀x c,X.env.cells.lookup x=some c->c≠X.env.locals:=fun x c e z=>by
 obtain⟨v,o,ho,hd⟩:=I.cell x c e
 obtain⟨m,⟨o',es,ep,ho',hd',_⟩,_⟩:=I.loc
 rw[z,ho']at ho;cases ho;rw[hd']at hd;cases hd
theorem Inv.funs(I:Inv X pins σ H s):s.heap.FunFrames X.base X.outer:=by
 have all:∀(l:List Env),(∀b∈frs l,b∈X.fs)->X.s₀.heap.FunFrames X.base l->s.heap.FunFrames X.base l:=by
  intro l
  induction l with
  | nil=>intro _ _;trivial
  | cons env r ih=>
    intro hs hl
    obtain⟨hk,⟨L,o,hf,hn,ho,hd⟩,hr⟩:=hl
    have hL:L∈X.fs:=hs L (by unfold frs;rw[List.filterMap_cons,hf];exact qh)
    obtain⟨sl,e⟩:=I.base.slot L o ho (I.ok.frf L hL) hL fun z=>I.ok.exfs L z hL
    exact⟨hk,⟨L,_,hf,hn,e,hd⟩,ih (fun b hb=>hs b (by unfold frs;rw[List.filterMap_cons,hf];exact qg _ hb)) hr⟩
 exact all X.outer (fun _ hb=>hb) I.ok.funs
theorem Inv.stack(I:Inv X pins σ H s):s.heap.FunFrames X.base X.stack:=by
 rcases I.ok.stk with e | ⟨e,hf⟩
 ·rw[e];exact I.funs
 ·rw[e]
  obtain⟨m,hn,_⟩:=I.loc
  refine .cons (by rw[I.ok.kind];decide) hf hn ?_ I.funs
  exact Heap.get?_none_of_le (qy I.ok.bsz I.ok.above)
theorem Inv.stkSub(I:Inv X pins σ H s):∀b∈frs X.stack,b∈X.env.locals::X.fs:=fun b hb=>by
 rcases I.ok.stk with e | ⟨e,hf⟩
 ·rw[e]at hb;exact qg _ hb
 ·rw[e]at hb
  unfold frs at hb
  rw[List.filterMap_cons,hf]at hb
  exact hb
theorem Inv.stkFree(I:Inv X pins σ H s):∀b∈frs X.stack,H b=none:=fun b hb=>by
 rcases qt (I.stkSub b hb)with e | hb
 ·rw[e];exact I.free
 ·obtain⟨_,o,ho,_⟩:=I.ok.funs.mem hb
  exact I.base.free b o ho (I.ok.frf b hb) fun z=>I.ok.exfs b z hb
theorem Inv.step{g':Array GenState}{t':Nat}{d':Drawn}{ch:List Addr}(I:Inv X pins σ H s)
 (hch:∀b∈ch,(b∈X.ex\/X.s₀.heap.objs.size<=b)/\b≠X.env.locals/\(∀x c,X.env.cells.lookup x=some c->c≠b)/\∀p∈X.pn++pins,p.1≠b)
 (keep:∀b o,b≠X.env.locals->b∉X.fs->b∉ch->s.heap.get? b=some o->H b=none->h'.get? b=some o)
 (slot:∀b o,b≠X.env.locals->b∈X.fs->b∉ch->s.heap.get? b=some o->H b=none->∃sl,h'.get? b=some { o with slots:=sl }) (free:∀b o,b∉ch->s.heap.get? b=some o->H b=none->H' b=none)
 (there:∀b o,b∉ch->s.heap.get? b=some o->∃o',h'.get? b=some o')
 (tups:∀b xs,H b=some (.tup xs)->H' b=some (.tup xs)) (frzs:∀b o u,H b=some (.frz o u)->H' b=some (.frz o u)) (tbls:∀b ps,H b=some (.tbl ps)->∃more,H' b=some (.tbl (ps++more)))
 (ns:∀m,s.heap.Ns X.env.locals m->h'.Ns X.env.locals m) (hok:HOk X.prog X.w H' h') (hg:AllBare g') :
 Inv X pins σ H' { s with heap:=h',gens:=g',drawn:=d',toks:=t' }:=by
 have neL:∀b o,X.s₀.heap.get? b=some o->b≠X.env.locals:=fun b o e=>qm (Qd (ql e) I.ok.above)
 have neC:∀b o,X.s₀.heap.get? b=some o->b∉X.ex->b∉ch:=fun b o e hx hb=>by
  rcases(hch b hb).1 with z | z
  ·exact hx z
  ·exact absurd (Qd (ql e) z) (Nat.lt_irrefl _)
 have cellK:∀x c,X.env.cells.lookup x=some c->∀v,s.heap.IsCell c v->h'.IsCell c v:=fun x c e v hx_=>by
  obtain⟨o,ho,hd⟩:=hx_
  have nch:c∉ch:=fun z=>(hch c z).2.2.1 x c e rfl
  by_cases hc:c∈X.fs
  ·obtain⟨sl,q⟩:=slot c o (I.cne x c e) hc nch ho (I.freeC x c e)
   exact⟨_,q,hd⟩
  ·exact⟨o,keep c o (I.cne x c e) hc nch ho (I.freeC x c e),hd⟩
 refine⟨I.ok,I.os,hg,⟨fun b o e n hb hx=>?_,fun b o e n hb hx=>?_,fun b o e n hx=>?_,fun b o e hx=>?_,fun b xs e=>tups b xs (I.base.tups b xs e),fun b o xs e=>frzs b o xs (I.base.frzs b o xs e),fun b ps e=>?_⟩,?_,fun x c e=>?_,?_,fun x c e=>?_,fun p hp=>?_,hok,I.len⟩
 ·exact keep b o (neL b o e) hb (neC b o e hx) (I.base.keep b o e n hb hx) (I.base.free b o e n hx)
 ·obtain⟨sl,e1⟩:=I.base.slot b o e n hb hx
  obtain⟨sl',e2⟩:=slot b _ (neL b o e) hb (neC b o e hx) e1 (I.base.free b o e n hx)
  exact⟨sl',e2⟩
 ·obtain⟨o',e1⟩:=I.base.there b o e hx
  exact free b o' (neC b o e hx) e1 (I.base.free b o e n hx)
 ·obtain⟨o',e1⟩:=I.base.there b o e hx
  exact there b o' (neC b o e hx) e1
 ·obtain⟨m1,e1⟩:=I.base.tbls b ps e
  obtain⟨m2,e2⟩:=tbls b _ e1
  exact⟨m1++m2,by rw[e2,Array.append_assoc]⟩
 ·obtain⟨m,hn,hl⟩:=I.loc
  refine⟨m,ns m hn,fun i x v e1 e2 e3=>?_⟩
  obtain⟨u,r,l⟩:=hl i x v e1 e2 e3
  refine⟨u,r,?_⟩
  rcases l with l | ⟨k,c,e,z⟩
  ·exact .inl l
  ·exact .inr ⟨k,c,e,cellK x c e _ z⟩
 ·obtain⟨v,z⟩:=I.cell x c e
  exact⟨v,cellK x c e v z⟩
 ·obtain⟨m,⟨o,_,_,ho,_⟩,_⟩:=I.loc
  exact free _ o (fun z=>(hch _ z).2.1 rfl) ho I.free
 ·obtain⟨v,o,ho,hd⟩:=I.cell x c e
  exact free c o (fun z=>(hch c z).2.2.1 x c e rfl) ho (I.freeC x c e)
 ·obtain⟨e,n,ne,nf,d⟩:=I.pin p hp
  have nch:p.1∉ch:=fun z=>(hch p.1 z).2.2.2 p hp rfl
  exact⟨keep p.1 p.2 ne nf nch e n,free p.1 p.2 nch e n,ne,nf,d⟩
theorem Inv.un{t':Nat}(I:Inv X pins σ H s)(u:Un X.fs [] H H' s.heap h')(hok:HOk X.prog X.w H' h'):Inv X pins σ H' { s with heap:=h',toks:=t' }:=by
 obtain⟨m,⟨o,es,ep,ho,r⟩,_⟩:=id I.loc
 obtain⟨sl,hL⟩:=u.any ho I.free (by simp)
 exact I.step (g':=s.gens) (d':=s.drawn) (ch:=[]) (fun _ z=>nomatch z) (fun b o _ hb _ e n=>u.keep b o e n hb (by simp)) (fun b o _ hb _ e n=>u.slot b o e n hb (by simp)) (fun b o _ e n=>u.free b o e n (by simp)) (fun b o _ e=>u.there b o e (by simp)) u.tups u.frzs u.tbls (fun m' hm=>by
  obtain⟨o',es',ep',ho',r'⟩:=hm
  rw[ho]at ho';cases ho'
  exact⟨_,es',ep',hL,r'⟩) hok I.bare
theorem Inv.call{g':Array GenState}{t':Nat}{d':Drawn}{ch:List Addr}(I:Inv X pins σ H s)(u:Un (frs X.stack) ch H H' s.heap h')(hok:HOk X.prog X.w H' h')(hg:AllBare g')
 (hch:∀b∈ch,(b∈X.ex\/X.s₀.heap.objs.size<=b)/\b≠X.env.locals/\(∀x c,X.env.cells.lookup x=some c->c≠b)/\∀p∈X.pn++pins,p.1≠b) :
 Inv X pins σ H' { s with heap:=h',gens:=g',drawn:=d',toks:=t' }:=by
 obtain⟨m,⟨o,es,ep,ho,r⟩,_⟩:=id I.loc
 obtain⟨sl,hL⟩:=u.any ho I.free fun z=>(hch _ z).2.1 rfl
 exact I.step (ch:=ch) hch (fun b o hL hb hc e n=>u.keep b o e n (fun z=>(qt (I.stkSub b z)).elim hL hb) hc) (fun b o _ _ hc e n=>u.any e n hc) (fun b o hc e n=>u.free b o e n hc) (fun b o hc e=>u.there b o e hc) u.tups u.frzs u.tbls (fun m' hm=>by
  obtain⟨o',es',ep',ho',r'⟩:=hm
  rw[ho]at ho';cases ho'
  exact⟨_,es',ep',hL,r'⟩) hok hg
theorem Inv.turned{t':Nat}{it:Addr}(I:Inv X pins σ H s)(k:∀b o,b≠it->s.heap.get? b=some o->h'.get? b=some o)(hn:H it=none)(hL:it≠X.env.locals)
 (h1:it∈X.ex\/X.s₀.heap.objs.size<=it) (h2:∀x c,X.env.cells.lookup x=some c->c≠it) (h3:∀p∈X.pn++pins,p.1≠it):Inv X pins σ H { s with heap:=h',toks:=t' }:=by
 have nit:∀b u,H b=some u->b≠it:=fun b u e z=>by rw[z,hn]at e;cases e
 refine I.step (g':=s.gens) (d':=s.drawn) (ch:=[it]) (fun b hb=>?_) (fun b o _ _ hc e _=>k b o (fun z=>hc (by simp[z])) e) (fun b o _ _ hc e _=>⟨o.slots,k b o (fun z=>hc (by simp[z])) e⟩) (fun _ _ _ _ n=>n)
  (fun b o hc e=>⟨o,k b o (fun z=>hc (by simp[z])) e⟩) (fun _ _ e=>e) (fun _ _ _ e=>e) (fun b ps e=>⟨#[],by rw[e];simp⟩) (fun m hm=>?_) (fun b u e=>?_) I.bare
 ·have e:b=it:=by simpa using hb
  subst e
  exact⟨h1,hL,h2,h3⟩
 ·obtain⟨o,es,ep,ho,r⟩:=hm
  exact⟨o,es,ep,k _ o (Ne.symm hL) ho,r⟩
 ·refine(I.hok b u e).stay (fun c v hc q=>k c v ?_ q) (fun _ q=>q) fun _ _ q=>q
  rcases hc with z | z
  ·rw[z];exact nit b u e
  ·exact nit c _ z
theorem Inv.tok(I:Inv X pins σ H s)(t:Nat):Inv X pins σ H { s with toks:=t }:=I.un (h':=s.heap) (t':=t) Un.refl I.hok
theorem Inv.kept{t':Nat}(I:Inv X pins σ H s)(k:∀b u,s.heap.get? b=some u->h'.get? b=some u):Inv X pins σ H { s with heap:=h',toks:=t' }:=I.un (Un.kept k) (I.hok.kept k)
theorem Inv.laid{a:Addr}{o:HO}{t':Nat}(I:Inv X pins σ H s)(k:∀b u,s.heap.get? b=some u->h'.get? b=some u)(hp:s.heap.objs.size<=a)(new:ObjOk X.prog X.w (upd H a o) h' a o) :
 Inv X pins σ (upd H a o) { s with heap:=h',toks:=t' }:=I.un (Un.laid k hp (I.hok.fresh hp)) (I.hok.laid k hp new)
theorem Inv.write{x e:Addr}{o:HO}{t':Nat}(I:Inv X pins σ H s)(mu:Mut (H x))(he:e=x\/H e=some (.own x))(k:∀b u,b≠e->s.heap.get? b=some u->h'.get? b=some u)(heo:∃u,h'.get? e=some u)
 (new:ObjOk X.prog X.w (upd H x o) h' x o):Inv X pins σ (upd H x o) { s with heap:=h',toks:=t' }:=I.un (Un.write mu he k heo) (I.hok.write mu he k heo new)
theorem Inv.pins_of{pins':List (Addr × Obj)}(I:Inv X pins σ H s)(h:∀p∈pins',s.heap.get? p.1=some p.2/\H p.1=none/\p.1≠X.env.locals/\p.1∉X.fs/\∀v,p.2.data≠.cell v):Inv X pins' σ H s:=
 ⟨I.ok,I.os,I.bare,I.base,I.loc,I.cell,I.free,I.freeC,fun p hp=>(qv hp).elim (fun z=>I.pin p (List.mem_append_left _ z)) (h p),I.hok,I.len⟩
theorem Yl1{N:List Str}(hN:N.Nodup){i j:Nat}{x:Str}(a:N[i]?=some x)(b:N[j]?=some x):i=j:=by
 obtain⟨h1,e1⟩:=qo a
 obtain⟨h2,e2⟩:=qo b
 exact(List.getElem_inj hN).mp (e1.trans e2.symm)
theorem Ys2{M:Model}{A:Around}{E:Value->Shared->Prop}{i:Nat}{x:Str}{v:V}{u:Value}{Q:Unit->Shared->Prop}(I:Inv X pins σ H s)(hN:X.N.Nodup)(hi:X.N[i]?=some x)(hx:Loc X.env.scope x)(r:RelV v u)
 (h:∀s',Inv X pins (σ.set i (some v)) H s'->(∃a,Heap.SameBut a s.heap s'.heap/\(a=X.env.locals\/X.env.cells.lookup x=some a))->Q () s') (hf:X.fn x=true\/X.env.scope.names.lookup x=some .local:=by first | exact .inl rfl | exact .inr rfl | assumption):wpAny M A (storeName X.env x u) Q E s:=by
 obtain⟨m,hn,hl⟩:=id I.loc
 have hcls:(X.env.scope.kind==.class||(X.env.scope.kind==.module&&X.env.locals != X.env.globals))=false:=by rw[I.ok.kind];rfl
 have hiσ:i < σ.length:=by rw[I.len];exact(qo hi).1
 have cne:=I.cne
 have tracked:∀{a:Addr} {h':Heap},(∃o,s.heap.get? a=some o/\H a=none)->Heap.SameBut a s.heap h'->HOk X.prog X.w H h':=fun {a h'} ha hs b ob e=>by
  obtain⟨_,_,hfree⟩:=ha
  refine(I.hok b ob e).stay (fun c w' hc q=>(hs.2 c ?_).trans q) (fun _ q=>q) fun _ _ q=>q
  rintro rfl
  rcases hc with rfl | hc
  ·rw[hfree]at e;cases e
  ·rw[hfree]at hc;cases hc
 rcases hx with hk | hk
 ·refine wpAny_storeName_local hk hn (fun h' hn' hs=>?_) hcls
  obtain⟨oL,_,_,hoL,_⟩:=id hn
  refine h _ ⟨I.ok,I.os,I.bare,⟨fun b o e n hb hx=>?_,fun b o e n hb hx=>?_,I.base.free,fun b o e hx=>?_,I.base.tups,I.base.frzs,I.base.tbls⟩,⟨_,hn',fun j y v' e1 e2 e3=>?_⟩,fun y c e=>?_,I.free,I.freeC,fun p hp=>?_,tracked ⟨oL,hoL,I.free⟩ hs,by simpa using I.len⟩ ⟨_,hs,.inl rfl⟩
  ·exact(hs.2 b (qm (Qd (ql e) I.ok.above))).trans (I.base.keep b o e n hb hx)
  ·obtain⟨sl,e1⟩:=I.base.slot b o e n hb hx
   exact⟨sl,(hs.2 b (qm (Qd (ql e) I.ok.above))).trans e1⟩
  ·obtain⟨o',e1⟩:=I.base.there b o e hx
   exact⟨o',(hs.2 b (qm (Qd (ql e) I.ok.above))).trans e1⟩
  ·by_cases hj:j=i
   ·subst hj
    rw[hi]at e1;cases e1
    rw[List.getElem?_set_self hiσ]at e2
    cases e2
    exact⟨u,r,.inl ⟨hk,by simp⟩⟩
   ·rw[Qb (Ne.symm hj)]at e2
    obtain⟨u',r',q⟩:=hl j y v' e1 e2 e3
    refine⟨u',r',?_⟩
    rcases q with⟨k,e⟩ | ⟨k,c,e,z⟩
    ·refine .inl ⟨k,?_⟩
     have:y≠x:=fun e=>hj (Yl1 hN e1 (e ▸ hi))
     simp[this,e]
    ·exact .inr ⟨k,c,e,z.sameBut hs (cne y c e)⟩
  ·obtain⟨w',z⟩:=I.cell y c e
   exact⟨w',z.sameBut hs (cne y c e)⟩
  ·obtain⟨e,n,ne,nf,d⟩:=I.pin p hp
   exact⟨(hs.2 p.1 ne).trans e,n,ne,nf,d⟩
 ·have hfn:X.fn x=true:=by
   rcases hf with z | z
   ·exact z
   ·rw[z]at hk;cases hk
  obtain⟨c,hc⟩:=I.ok.has x (.inl hk)
  obtain⟨w',z⟩:=I.cell x c hc
  refine wpAny_storeName_cell I.ok.kind hk hc z (fun h' hc' hs=>?_)
  obtain⟨oc,hoc,hocd⟩:=id z
  refine h { s with heap:=h' } ⟨I.ok,I.os,I.bare,⟨fun b o e n hb hx=>?_,fun b o e n hb hx=>?_,I.base.free,fun b o e hx=>?_,I.base.tups,I.base.frzs,I.base.tbls⟩,⟨m,hn.sameBut hs (Ne.symm (cne x c hc)),fun j y v' e1 e2 e3=>?_⟩,fun y c' e=>?_,I.free,I.freeC,fun p hp=>?_,tracked ⟨oc,hoc,I.freeC x c hc⟩ hs,by simpa using I.len⟩ ⟨c,hs,.inr hc⟩
  ·exact(hs.2 b (qm (Qd (ql e) (I.ok.cab x c hfn hc)))).trans (I.base.keep b o e n hb hx)
  ·obtain⟨sl,e1⟩:=I.base.slot b o e n hb hx
   exact⟨sl,(hs.2 b (qm (Qd (ql e) (I.ok.cab x c hfn hc)))).trans e1⟩
  ·obtain⟨o',e1⟩:=I.base.there b o e hx
   exact⟨o',(hs.2 b (qm (Qd (ql e) (I.ok.cab x c hfn hc)))).trans e1⟩
  ·by_cases hj:j=i
   ·subst hj
    rw[hi]at e1;cases e1
    rw[List.getElem?_set_self hiσ]at e2
    cases e2
    exact⟨u,r,.inr ⟨.inl hk,c,hc,hc'⟩⟩
   ·rw[Qb (Ne.symm hj)]at e2
    obtain⟨u',r',q⟩:=hl j y v' e1 e2 e3
    refine⟨u',r',?_⟩
    rcases q with q | ⟨k,c',e,z'⟩
    ·exact .inl q
    ·refine .inr ⟨k,c',e,z'.sameBut hs ?_⟩
     rintro rfl
     exact hj (Yl1 hN e1 (I.ok.inj _ _ _ e hc ▸ hi))
  ·by_cases hcc:c'=c
   ·subst hcc;exact⟨_,hc'⟩
   ·obtain⟨w2,z2⟩:=I.cell y c' e
    exact⟨w2,z2.sameBut hs hcc⟩
  ·obtain⟨e,n,ne,nf,d⟩:=I.pin p hp
   refine⟨(hs.2 p.1 ?_).trans e,n,ne,nf,d⟩
   intro q
   rw[q,hoc]at e
   have q':oc=p.2:=Option.some.inj e
   exact d w' (by rw[<-q'];exact hocd)
theorem Yl2{M:Model}{A:Around}{E:Value->Shared->Prop}{i:Nat}{x:Str}{v:V}{u:Value}{Q:Unit->Shared->Prop}(I:Inv X pins σ H s)(hN:X.N.Nodup)(hi:X.N[i]?=some x)(hx:Loc X.env.scope x)(r:RelV v u)
 (h:∀s',Inv X pins (σ.set i (some v)) H s'->Q () s') (hf:X.fn x=true\/X.env.scope.names.lookup x=some .local:=by first | exact .inl rfl | exact .inr rfl | assumption):wpAny M A (storeName X.env x u) Q E s:=
 Ys2 I hN hi hx r (fun s' I' _=>h s' I') hf
theorem Inv.call'{s':Shared}{ch:List Addr}(I:Inv X pins σ H s)(ho:s'.os=s.os)(u:Un (frs X.stack) ch H H' s.heap s'.heap)(hok:HOk X.prog X.w H' s'.heap)(hg:AllBare s'.gens)
 (hch:∀b∈ch,(b∈X.ex\/X.s₀.heap.objs.size<=b)/\b≠X.env.locals/\(∀x c,X.env.cells.lookup x=some c->c≠b)/\∀p∈X.pn++pins,p.1≠b):Inv X pins σ H' s':=by
 obtain⟨h',g',d',t',o'⟩:=s'
 have e:o'=s.os:=ho
 subst e
 exact I.call (g':=g') (t':=t') (d':=d') u hok hg hch
end
abbrev XK:=Value->Option Addr->Hp->Prop
abbrev St:=List (Option V)
abbrev VK:=V->Hp->Prop
abbrev TE:=St->Hp->VK->Prop
abbrev TT:=St->Hp->(Bool->Hp->Prop)->Prop
abbrev TA:=St->Hp->(List V->Hp->Prop)->Prop
structure Ends where
 nx:St->Hp->Prop
 rt:VK
 bk:St->Hp->Prop:=fun _ _=>False
 ct:St->Hp->Prop:=fun _ _=>False
abbrev TS:=Ends->St->Hp->Prop
def EP(X:Cx)(pins:List (Addr × Obj))(σ:St)(Q:VK)(u:Value)(s':Shared):Prop:=∃v H',Inv X pins σ H' s'/\RelV v u/\Q v H'
def TP(X:Cx)(pins:List (Addr × Obj))(σ:St)(Q:Bool->Hp->Prop)(b:Bool)(s':Shared):Prop:=∃H',Inv X pins σ H' s'/\Q b H'
def AP(X:Cx)(pins:List (Addr × Obj))(σ:St)(Q:List V->Hp->Prop)(us:List Value)(s':Shared):Prop:=∃vs H',Inv X pins σ H' s'/\Vals vs us/\Q vs H'
def SP(X:Cx)(pins:List (Addr × Obj))(D:Ends)(f:Flow)(s':Shared):Prop:=
 match f with
 | .next=>∃σ' H',Inv X pins σ' H' s'/\D.nx σ' H'
 | .brk=>∃σ' H',Inv X pins σ' H' s'/\D.bk σ' H'
 | .cont=>∃σ' H',Inv X pins σ' H' s'/\D.ct σ' H'
 | .ret u=>∃v σ' H',Inv X pins σ' H' s'/\RelV v u/\D.rt v H'
def PE(X:Cx)(e:Expr)(t:TE):Prop:=
 ∀(pins:List (Addr × Obj)) (s:Shared) (σ:St) (H:Hp) (Q:VK),Inv X pins σ H s->t σ H Q->wpAny (model X.prog X.w) X.A (eval e X.env) (EP X pins σ Q) X.xe s
def PT(X:Cx)(e:Expr)(t:TT):Prop:=
 ∀(pins:List (Addr × Obj)) (s:Shared) (σ:St) (H:Hp) (Q:Bool->Hp->Prop),Inv X pins σ H s->t σ H Q->wpAny (model X.prog X.w) X.A (isTrue e X.env (eval e X.env)) (TP X pins σ Q) X.xe s
def PW(X:Cx)(e:Expr)(t:TT):Prop:=
 ∀(whole:Sem Value) (pins:List (Addr × Obj)) (s:Shared) (σ:St) (H:Hp) (Q:Bool->Hp->Prop),Inv X pins σ H s->t σ H Q->wpAny (model X.prog X.w) X.A (isTrue e X.env whole) (TP X pins σ Q) X.xe s
theorem PW.pt{X:Cx}{e:Expr}{t:TT}(h:PW X e t):PT X e t:=h _
def PA(X:Cx)(es:List Expr)(t:TA):Prop:=
 ∀(pos:Pos) (pins:List (Addr × Obj)) (s:Shared) (σ:St) (H:Hp) (Q:List V->Hp->Prop),Inv X pins σ H s->t σ H Q->wpAny (model X.prog X.w) X.A (spliced (backTo pos (starEach es X.env))) (AP X pins σ Q) X.xe s
def PS(X:Cx)(st:Stmt)(t:TS):Prop:=
 ∀(pins:List (Addr × Obj)) (s:Shared) (σ:St) (H:Hp) (D:Ends),Inv X pins σ H s->t D σ H->wpAny (model X.prog X.w) X.A (exec st X.env) (SP X pins D) X.xe s
def PSs(X:Cx)(st:List Stmt)(t:TS):Prop:=
 ∀(pins:List (Addr × Obj)) (s:Shared) (σ:St) (H:Hp) (D:Ends),Inv X pins σ H s->t D σ H->wpAny (model X.prog X.w) X.A (execs st X.env) (SP X pins D) X.xe s
theorem thn{α:Type}{t:Sem α}{Q Q':α->Shared->Prop}{M:Model}{A:Around}{E:Value->Shared->Prop}{s:Shared}(h:wpAny M A t Q E s)(hQ:∀a s,Q a s->Q' a s):wpAny M A t Q' E s:=wpAny_mono h hQ fun _ _ x=>x
end L2
namespace L2
open PySem PySem.Spec PyProof.Rows
section
variable {X:Cx}
def tVar(i:Nat):TE:=fun σ H Q=>∃v,σ[i]?=some (some v)/\Q v H
def tC(v:V):TE:=fun _ H Q=>Q v H
theorem Yd3{i:Nat}{x:Str}{pos:Pos}(hN:X.N[i]?=some x)(hv:Vis X.env.scope x)(hd:(x==("__debug__":Str))=false:=by decide)(hcd:(x==("__classdict__":Str))=false:=by decide):PE X (.Name x pos) (tVar i):=by
 intro pins s σ H Q I h
 obtain⟨v,e,h⟩:=h
 obtain⟨m,hn,hl⟩:=I.loc
 obtain⟨u,r,l⟩:=hl i x v hN e hv
 have fin:EP X pins σ Q u s:=⟨v,H,I,r,h⟩
 rcases l with⟨hk,hm⟩ | ⟨hk,c,hc,hcell⟩
 ·exact wpAny_Name (wpAny_loadName_local I.ok.kind hk hn hm fin) hd
 ·rcases hk with hk | hk
  ·exact wpAny_Name (wpAny_loadName_cell I.ok.kind hk hc hcell fin) hd
  ·exact wpAny_Name (wpAny_loadName_free I.ok.kind hk hc hcell fin hcd) hd
theorem Yqh{i j pos}:PE X (.Constant (.int i) j pos) (tC (.int i)):=fun _ _ _ H _ I h=>wpAny_Constant_int ⟨.int i,H,I.tok _,⟨_,rfl⟩,h⟩
theorem y6p{b j pos}:PE X (.Constant (.bool b) j pos) (tC (.bl b)):=fun _ _ _ H _ I h=>Constant_bool ⟨.bl b,H,I,rfl,h⟩
theorem y3j{j pos}:PE X (.Constant .none j pos) (tC .non):=fun _ _ _ H _ I h=>Constant_none ⟨.non,H,I,rfl,h⟩
theorem Ys3{x j pos}:PE X (.Constant (.str x) j pos) (tC (.str x)):=fun _ _ _ H _ I h=>Calls.Constant_str ⟨.str x,H,I.tok _,⟨_,rfl⟩,h⟩
def Gl(X:Cx)(x:Str):Prop:=X.env.kindOf x=some .globalImplicit
theorem Yd4{E:Value->Shared->Prop}{pins:List (Addr × Obj)}{s:Shared}{σ:St}{H:Hp}{x:Str}{u:Value}{pos:Pos}{Q:Value->Shared->Prop}(I:Inv X pins σ H s)(hg:Gl X x)(hm:X.mg x=some u)(h:Q u s)
 (hd:(x==("__debug__":Str))=false:=by decide):wpAny (model X.prog X.w) X.A (eval (.Name x pos) X.env) Q E s:=
 Calls.Name_function_global I.ok.kind hg (Calls.loadGlobal_global (by rw[I.ok.glob];exact I.mod.glob.keeps I.bk) hm h) hd
theorem Ylj{E:Value->Shared->Prop}{pins:List (Addr × Obj)}{s:Shared}{σ:St}{H:Hp}{x:Str}{u:Value}{pos:Pos}{Q:Value->Shared->Prop}(I:Inv X pins σ H s)(hg:Gl X x)(hm:X.mg x=none)(hv:bootBuiltins x=some u)(h:Q u s)
 (hn:x≠"__name__":=by decide) (hd:(x==("__debug__":Str))=false:=by decide):wpAny (model X.prog X.w) X.A (eval (.Name x pos) X.env) Q E s:=by
 obtain⟨mb,h1,h2⟩:=I.mod.blt
 exact Calls.Name_function_global I.ok.kind hg (Calls.loadGlobal_builtin (by rw[I.ok.glob];exact I.mod.glob.keeps I.bk) hm (by rw[I.ok.blt];exact h1.keeps I.bk) ((h2 x hn).trans hv) h) hd
theorem Yjt{x:Str}{v:V}{u:Value}{pos:Pos}(hg:Gl X x)(hm:X.mg x=some u)(r:RelV v u)(hd:(x==("__debug__":Str))=false:=by decide):PE X (.Name x pos) (tC v):=
 fun _ _ _ H _ I h=>Yd4 I hg hm ⟨v,H,I,r,h⟩ hd
theorem Ys4{x:Str}{v:V}{u:Value}{pos:Pos}(hg:Gl X x)(hm:X.mg x=none)(hv:bootBuiltins x=some u)(r:RelV v u)(hn:x≠"__name__":=by decide)(hd:(x==("__debug__":Str))=false:=by decide):PE X (.Name x pos) (tC v):=
 fun _ _ _ H _ I h=>Ylj I hg hm hv ⟨v,H,I,r,h⟩ hn hd
variable {a b:Expr} {ta tb:TE} {pos:Pos}
def tB(t:TE):TT:=fun σ H Q=>t σ H fun x H1=>∃c,x=.bl c/\Q c H1
theorem y3k{e:Expr}{t:TE}(h:PE X e t)(he:∀whole,isTrue e X.env whole=(do let v <-whole;standAt e.pos;holding [v] (truthy v)):=by intro _;rfl):PT X e (tB t):=by
 intro pins s σ H Q I hw
 refine isTrue_plain (thn (h pins s σ H _ I hw) fun v s1 hx_=>?_) (he _)
 obtain⟨x,H1,I1,r1,q1⟩:=hx_
 obtain⟨d,rfl,q⟩:=q1
 cases r1
 exact wpAny_truthy_bool ⟨H1,I1,q⟩
variable {tA tB':TT} {rest:List Expr}
def tAnd(t u:TT):TT:=fun σ H Q=>t σ H fun c H1=>if c=true then u σ H1 Q else Q false H1
def tOr(t u:TT):TT:=fun σ H Q=>t σ H fun c H1=>if c=true then Q true H1 else u σ H1 Q
def tNot(t:TT):TT:=fun σ H Q=>t σ H fun c H1=>Q (!c) H1
theorem y0r(ha:PT X a tA):PW X (.BoolOp .And [a] pos) tA:=by
 intro wh pins s σ H Q I h
 refine isTrue_and (thn (ha pins s σ H Q I h) fun c s1 e=>?_)
 cases c with
 | true=>exact isTrue_and_nil e
 | false=>exact e
theorem y3l(ha:PT X a tA):PW X (.BoolOp .Or [a] pos) tA:=by
 intro wh pins s σ H Q I h
 refine isTrue_or (thn (ha pins s σ H Q I h) fun c s1 e=>?_)
 cases c with
 | false=>exact isTrue_or_nil e
 | true=>exact e
theorem y3m(ha:PT X a tA)(hb:PW X (.BoolOp .And (b::rest) pos) tB'):PW X (.BoolOp .And (a::b::rest) pos) (tAnd tA tB'):=by
 intro wh pins s σ H Q I h
 refine isTrue_and (thn (ha pins s σ H _ I h) fun c s1 hx_=>?_)
 obtain⟨H1,I1,q1⟩:=hx_
 cases c with
 | true=>exact hb wh pins s1 σ H1 Q I1 q1
 | false=>exact⟨H1,I1,q1⟩
theorem y6q(ha:PT X a tA)(hb:PW X (.BoolOp .Or (b::rest) pos) tB'):PW X (.BoolOp .Or (a::b::rest) pos) (tOr tA tB'):=by
 intro wh pins s σ H Q I h
 refine isTrue_or (thn (ha pins s σ H _ I h) fun c s1 hx_=>?_)
 obtain⟨H1,I1,q1⟩:=hx_
 cases c with
 | true=>exact⟨H1,I1,q1⟩
 | false=>exact hb wh pins s1 σ H1 Q I1 q1
theorem Yzh(ha:PT X a tA):PT X (.UnaryOp .Not a pos) (tNot tA):=by
 intro pins s σ H Q I h
 exact isTrue_not (ha pins s σ H (fun c H1=>Q (!c) H1) I h)
def y6r(ta tb:TE):TE:=fun σ H Q=>ta σ H fun x H1=>∃c,x=.bl c/\if c=true then tb σ H1 Q else Q (.bl false) H1
def tOrV(ta tb:TE):TE:=fun σ H Q=>ta σ H fun x H1=>∃c,x=.bl c/\if c=true then Q (.bl true) H1 else tb σ H1 Q
def y6s(ta:TE):TE:=fun σ H Q=>ta σ H fun x H1=>∃c,x=.bl c/\Q (.bl (!c)) H1
theorem Yzi{op}{t:TE}(h:PE X a t):PE X (.BoolOp op [a] pos) t:=fun pins s σ H Q I hw=>BoolOp_one (h pins s σ H Q I hw)
theorem y3n(ha:PE X a ta)(hb:PE X (.BoolOp .And (b::rest) pos) tb):PE X (.BoolOp .And (a::b::rest) pos) (y6r ta tb):=by
 intro pins s σ H Q I h
 refine BoolOp_and (thn (ha pins s σ H _ I h) fun v s1 hx_=>?_)
 obtain⟨x,H1,I1,r1,q1⟩:=hx_
 obtain⟨c,rfl,q1⟩:=q1
 cases r1
 refine wpAny_truthy_bool ?_
 cases c with
 | true=>exact hb pins s1 σ H1 Q I1 q1
 | false=>exact⟨.bl false,H1,I1,rfl,q1⟩
theorem y6t(ha:PE X a ta)(hb:PE X (.BoolOp .Or (b::rest) pos) tb):PE X (.BoolOp .Or (a::b::rest) pos) (tOrV ta tb):=by
 intro pins s σ H Q I h
 refine BoolOp_or (thn (ha pins s σ H _ I h) fun v s1 hx_=>?_)
 obtain⟨x,H1,I1,r1,q1⟩:=hx_
 obtain⟨c,rfl,q1⟩:=q1
 cases r1
 refine wpAny_truthy_bool ?_
 cases c with
 | false=>exact hb pins s1 σ H1 Q I1 q1
 | true=>exact⟨.bl true,H1,I1,rfl,q1⟩
theorem y3o(ha:PE X a ta):PE X (.UnaryOp .Not a pos) (y6s ta):=by
 intro pins s σ H Q I h
 refine UnaryOp_ (thn (ha pins s σ H _ I h) fun v s1 hx_=>?_)
 obtain⟨x,H1,I1,r1,q1⟩:=hx_
 obtain⟨c,rfl,q1⟩:=q1
 cases r1
 exact not_of (wpAny_truthy_bool ⟨.bl (!c),H1,I1,rfl,q1⟩)
def tIf(t:TT)(ta tb:TE):TE:=fun σ H Q=>t σ H fun c H1=>if c=true then ta σ H1 Q else tb σ H1 Q
theorem Yw4{c:Expr}(hc:PT X c tA)(ha:PE X a ta)(hb:PE X b tb):PE X (.IfExp c a b pos) (tIf tA ta tb):=by
 intro pins s σ H Q I h
 refine wpAny_IfExp (thn (hc pins s σ H _ I h) fun d s1 hx_=>?_)
 obtain⟨H1,I1,q1⟩:=hx_
 cases d with
 | true=>exact ha pins s1 σ H1 Q I1 q1
 | false=>exact hb pins s1 σ H1 Q I1 q1
end
end L2
namespace L2
open PySem PySem.Spec PyProof.Rows
def SqL(K:W.Frag)(H:Hp)(a:Addr)(xs:List V):Prop:=
 Rd H a (.lst xs)\/
  ∃(o:Obj) (its:Array Value) (n:Nat),K.lookup a=some o/\o.cls=.type "list"/\o.dict=none/\o.data=.seq its n/\its.size<=sizeLine/\Vals xs its.toList
def SqT(K:W.Frag)(H:Hp)(a:Addr)(xs:List V):Prop:=
 Rd H a (.tup xs)\/
  ∃(o:Obj) (its:Array Value) (n:Nat),K.lookup a=some o/\o.cls=.type "tuple"/\o.data=.seq its n/\its.size<=sizeLine/\Vals xs its.toList
def absV:Value->Option V
 | .none=>some .non
 | .bool b=>some (.bl b)
 | .int i _=>some (.int i)
 | .str x _=>some (.str x)
 | .bytes b _=>some (.byt b)
 | .float b _=>some (.flt b)
 | .ref a=>some (.ref a)
 | .type n=>some (.ty n)
 | _=>none
theorem RelV.abs{x:V}{u:Value}(r:RelV x u):absV u=some x:=by
 cases x with
 | non=>cases r;rfl
 | bl _=>cases r;rfl
 | int _=>obtain⟨t,rfl⟩:=r;rfl
 | str _=>obtain⟨t,rfl⟩:=r;rfl
 | byt _=>obtain⟨t,rfl⟩:=r;rfl
 | flt _=>obtain⟨t,rfl⟩:=r;rfl
 | ref _=>cases r;rfl
 | ty _=>cases r;rfl
theorem RelV.inj{x y:V}{u:Value}(r:RelV x u)(q:RelV y u):x=y:=Option.some.inj (r.abs.symm.trans q.abs)
theorem Vals.inj:∀{xs ys:List V} {us:List Value},Vals xs us->Vals ys us->xs=ys
 :=by
  intro xs ys us h
  induction h generalizing ys with
  | nil=>
    intro h2
    cases h2
    rfl
  | cons r t ih=>
    intro h2
    cases h2 with
    | cons r' t'=>rw[r.inj r',ih t']
section
variable {X:Cx} {pins:List (Addr × Obj)} {σ:St} {H:Hp} {s:Shared} {a:Addr} {xs ys:List V}
theorem SqL.of{K:W.Frag}(h:H a=some (.lst xs)):SqL K H a xs:=.inl (.inl h)
theorem SqT.of{K:W.Frag}(h:H a=some (.tup xs)):SqT K H a xs:=.inl (.inl h)
theorem Inv.list(I:Inv X pins σ H s)(h:SqL X.K H a xs):∃its:List Value,Vals xs its/\PlainL s.heap a its.toArray/\xs.length<=sizeLine:=by
 rcases h with h | ⟨o,its,n,hk,hc,hd,hs,hz,r⟩
 ·obtain⟨z,its,n,r,e⟩:=h.ok I.hok
  exact⟨its,r,⟨_,n,e,rfl,rfl,rfl⟩,z⟩
 ·refine⟨its.toList,r,⟨o,n,I.kIn a o hk,hc,hd,by simpa using hs⟩,?_⟩
  have e:=r.length
  simp only[qj]at e
  lia
theorem Inv.tuple(I:Inv X pins σ H s)(h:SqT X.K H a xs):∃its:List Value,Vals xs its/\IsTup s.heap a its.toArray/\xs.length<=sizeLine:=by
 rcases h with h | ⟨o,its,n,hk,hc,hs,hz,r⟩
 ·obtain⟨z,its,r,p⟩:=h.ok I.hok
  exact⟨its,r,p,z⟩
 ·refine⟨its.toList,r,⟨o,I.kIn a o hk,hc,n,by simpa using hs⟩,?_⟩
  have e:=r.length
  simp only[qj]at e
  lia
theorem Inv.list_inj(I:Inv X pins σ H s)(h:SqL X.K H a xs)(h':SqL X.K H a ys):xs=ys:=by
 obtain⟨its,r,⟨o,n,e,_,_,d⟩,_⟩:=I.list h
 obtain⟨its',r',⟨o',n',e',_,_,d'⟩,_⟩:=I.list h'
 rw[e]at e';cases e'
 rw[d]at d'
 injection d' with d1 _
 have:its=its':=by simpa using congrArg Array.toList d1
 subst this
 exact r.inj r'
theorem Inv.tuple_inj(I:Inv X pins σ H s)(h:SqT X.K H a xs)(h':SqT X.K H a ys):xs=ys:=by
 obtain⟨its,r,⟨o,e,_,n,d⟩,_⟩:=I.tuple h
 obtain⟨its',r',⟨o',e',_,n',d'⟩,_⟩:=I.tuple h'
 rw[e]at e';cases e'
 rw[d]at d'
 injection d' with d1 _
 have:its=its':=by simpa using congrArg Array.toList d1
 subst this
 exact r.inj r'
end
abbrev Cx.wish(X:Cx)(E:Value->Shared->Prop):Cx:={ X with xe:=E }
abbrev Cx.nox(X:Cx):Cx:=X.wish fun _ _=>False
theorem Cx.Ok.wish{X:Cx}(ok:X.Ok)(E:Value->Shared->Prop):(X.wish E).Ok:=
 ⟨ok.mod,ok.kind,ok.glob,ok.blt,ok.above,ok.inj,ok.has,ok.cab,ok.hd,ok.frames,ok.stk,ok.exf,ok.bs,ok.bsz,ok.noex,ok.exfs,ok.funs,ok.frf⟩
theorem Cx.Ok.unwish{X:Cx}{E:Value->Shared->Prop}(ok:(X.wish E).Ok):X.Ok:=
 ⟨ok.mod,ok.kind,ok.glob,ok.blt,ok.above,ok.inj,ok.has,ok.cab,ok.hd,ok.frames,ok.stk,ok.exf,ok.bs,ok.bsz,ok.noex,ok.exfs,ok.funs,ok.frf⟩
section
variable {X:Cx} {pins:List (Addr × Obj)} {σ:St} {H:Hp} {s:Shared} {E:Value->Shared->Prop} {st:Stmt} {rest:List Stmt} {t u:TS} {e:Expr} {te:TE} {pos:Pos}
theorem Inv.wish(I:Inv X pins σ H s)(E:Value->Shared->Prop):Inv (X.wish E) pins σ H s:=⟨I.ok.wish E,I.os,I.bare,I.base,I.loc,I.cell,I.free,I.freeC,I.pin,I.hok,I.len⟩
theorem Inv.unwish(I:Inv (X.wish E) pins σ H s):Inv X pins σ H s:=⟨I.ok.unwish,I.os,I.bare,I.base,I.loc,I.cell,I.free,I.freeC,I.pin,I.hok,I.len⟩
theorem SP.unwish{D:Ends}{f:Flow}{s':Shared}(h:SP (X.wish E) pins D f s'):SP X pins D f s':=by
 cases f with
 | next=>obtain⟨σ',H',I,q⟩:=h;exact⟨σ',H',I.unwish,q⟩
 | brk=>obtain⟨σ',H',I,q⟩:=h;exact⟨σ',H',I.unwish,q⟩
 | cont=>obtain⟨σ',H',I,q⟩:=h;exact⟨σ',H',I.unwish,q⟩
 | ret u=>obtain⟨v,σ',H',I,r,q⟩:=h;exact⟨v,σ',H',I.unwish,r,q⟩
theorem PE.nox{e:Expr}{t:TE}(h:PE X.nox e t):PE X e t:=fun pins s σ H Q I hw=>
 wpAny_mono (h pins s σ H Q (I.wish _) hw) (fun _ _ ⟨v,H',I',r,q⟩=>⟨v,H',I'.unwish,r,q⟩) fun _ _ z=>False.elim z
theorem PT.nox{e:Expr}{t:TT}(h:PT X.nox e t):PT X e t:=fun pins s σ H Q I hw=>
 wpAny_mono (h pins s σ H Q (I.wish _) hw) (fun _ _ ⟨H',I',q⟩=>⟨H',I'.unwish,q⟩) fun _ _ z=>False.elim z
theorem PSs.nox{st:List Stmt}{t:TS}(h:PSs X.nox st t):PSs X st t:=fun pins s σ H D I hw=>
 wpAny_mono (h pins s σ H D (I.wish _) hw) (fun _ _ q=>q.unwish) fun _ _ z=>False.elim z
def y6u:TS:=fun D σ H=>D.nx σ H
def tSeq(t u:TS):TS:=fun D σ H=>t { D with nx:=u D } σ H
theorem Yox:PSs X [] y6u:=fun _ _ σ H _ I h=>wpAny_execs_nil ⟨σ,H,I,h⟩
theorem Ydg(h1:PS X st t)(h2:PSs X rest u):PSs X (st::rest) (tSeq t u):=by
 intro pins s σ H D I h
 refine wpAny_execs_cons (thn (h1 pins s σ H { D with nx:=u D } I h) fun f s1 q=>?_)
 cases f with
 | next=>
   obtain⟨σ',H',I',q⟩:=q
   exact h2 pins s1 σ' H' D I' q
 | ret v=>exact q
 | brk=>exact q
 | cont=>exact q
theorem Yl3(h1:PS X st t):PSs X [st] t:=by
 intro pins s σ H D I h
 refine wpAny_execs_cons (thn (h1 pins s σ H D I h) fun f s1 q=>?_)
 cases f with
 | next=>exact wpAny_execs_nil q
 | ret v=>exact q
 | brk=>exact q
 | cont=>exact q
theorem Inv.quiet{pins:List (Addr × Obj)}{σ:St}{H:Hp}{s:Shared}(I:Inv X pins σ H s):interactive X.env=false:=by simp[interactive,I.ok.kind]
def y6v(te:TE):TS:=fun D σ H=>te σ H fun _ H1=>D.nx σ H1
theorem Yoy(he:PE X e te)(hs:swapsWith e none pos.line X.env=pure false:=by rfl):PS X (.Expr e pos) (y6v te):=by
 intro pins s σ H D I h
 refine wpAny_Expr_any (thn (he pins s σ H _ I h) fun v s1 hx_=>?_) I.quiet hs
 obtain⟨x,H1,I1,r1,q1⟩:=hx_
 exact⟨σ,H1,I1,q1⟩
def tRet(te:TE):TS:=fun D σ H=>te σ H D.rt
theorem Yni(he:PE X e te):PS X (.Return (some e) pos) (tRet te):=by
 intro pins s σ H D I h
 refine wpAny_Return_some (thn (he pins s σ H _ I h) fun v s1 hx_=>?_)
 obtain⟨x,H1,I1,r1,q1⟩:=hx_
 exact⟨x,σ,H1,I1,r1,q1⟩
def tIfS(c:TT)(t u:TS):TS:=fun D σ H=>c σ H fun b H1=>if b=true then t D σ H1 else u D σ H1
theorem Ys5{c:Expr}{a b:List Stmt}{tc:TT}(hc:PT X c tc)(ha:PSs X a t)(hb:PSs X b u):PS X (.If c a b pos) (tIfS tc t u):=by
 intro pins s σ H D I h
 refine wpAny_If (thn (hc pins s σ H _ I h) fun d s1 hx_=>?_)
 obtain⟨H1,I1,q1⟩:=hx_
 cases d with
 | true=>exact ha pins s1 σ H1 D I1 q1
 | false=>exact hb pins s1 σ H1 D I1 q1
def Yzj:TS:=fun _ _ _=>False
theorem Yw5:PS X st Yzj:=fun _ _ _ _ _ _ h=>h.elim
theorem Yfs{sts:List Stmt}:PSs X sts Yzj:=fun _ _ _ _ _ _ h=>h.elim
end
abbrev TG:=V->St->Hp->(St->Hp->Prop)->Prop
def PG(X:Cx)(target:Expr)(t:TG):Prop:=
 ∀(pins:List (Addr × Obj)) (s:Shared) (σ:St) (H:Hp) (v:V) (u:Value) (Q:St->Hp->Prop),Inv X pins σ H s->RelV v u->t v σ H Q->
  wpAny (model X.prog X.w) X.A (assign target X.env u) (fun _ s'=>∃σ' H',Inv X pins σ' H' s'/\Q σ' H') X.xe s
section
variable {X:Cx} {pos:Pos}
def Yw6(i:Nat):TG:=fun v σ H Q=>Q (σ.set i (some v)) H
theorem y0s{i:Nat}{x:Str}(hN:X.N.Nodup)(hi:X.N[i]?=some x)(hx:Loc X.env.scope x)(hf:X.fn x=true\/X.env.scope.names.lookup x=some .local:=by first | exact .inl rfl | exact .inr rfl | assumption):PG X (.Name x pos) (Yw6 i):=by
 intro pins s σ H v u Q I r h
 exact wpAny_assign_Name (Yl2 I hN hi hx r (fun s' I'=>⟨_,H,I',h⟩) hf)
def tAsg(te:TE)(g:TG):TS:=fun D σ H=>te σ H fun x H1=>g x σ H1 D.nx
theorem Ylk{i:Nat}{x:Str}{e:Expr}{te:TE}{pos':Pos}(hN:X.N.Nodup)(hi:X.N[i]?=some x)(hx:Loc X.env.scope x)(he:PE X e te)(hs:swapsWith e (some (.Name x pos')) pos.line X.env=pure false:=by rfl)(hf:X.fn x=true\/X.env.scope.names.lookup x=some .local:=by first | exact .inl rfl | exact .inr rfl | assumption) :
 PS X (.Assign [.Name x pos'] e pos) (tAsg te (Yw6 i)):=by
 intro pins s σ H D I h
 refine wpAny_Assign_Name (thn (he pins s σ H _ I h) fun v s1 hx_=>?_) hs
 obtain⟨y,H1,I1,r1,q1⟩:=hx_
 exact Yl2 I1 hN hi hx r1 (fun s2 I2=>⟨_,H1,I2,q1⟩) hf
end
structure It where
 go:Nat->Hp->Prop
 yld:Nat->Hp->V->Hp->Prop
 stop:Nat->Hp->Prop
def FpOk(X:Cx)(pins:List (Addr × Obj))(H:Hp)(b:Addr):Prop:=
 H b=none/\b≠X.env.locals/\b∉X.fs/\(b∈X.ex\/X.s₀.heap.objs.size<=b)/\(∀x c,X.env.cells.lookup x=some c->c≠b)/\∀p∈X.pn++pins,p.1≠b
theorem Inv.fpOk{X:Cx}{pins:List (Addr × Obj)}{σ:St}{H H':Hp}{s:Shared}{b:Addr}(I:Inv X pins σ H s)(hb:s.heap.objs.size<=b)(hn:H' b=none):FpOk X pins H' b:=by
 refine⟨hn,Nat.ne_of_gt (Qd I.lt hb),I.nofs hb,.inr (qy I.sz hb),fun x c e z=>?_,fun p hp z=>?_⟩
 ·obtain⟨v,q⟩:=I.cell x c e
  exact absurd (Qd q.lt (by rw[z];exact hb)) (Nat.lt_irrefl _)
 ·exact absurd (Qd (ql (I.pin p hp).1) (by rw[z];exact hb)) (Nat.lt_irrefl _)
structure Turn(P:Program)(w:World)(K:W.Frag)(tg:Expr)(J:It)(fp:List Addr)(it:Addr)(tn:Nat->Heap->Prop):Prop where
 mem:it∈fp
 obj:∀i h,tn i h->∀b∈fp,∃o,h.get? b=some o/\∀v,o.data≠.cell v
 keep:∀i h h',tn i h->(∀b∈fp,∀o,h.get? b=some o->h'.get? b=some o)->tn i h'
 item:∀(X:Cx),X.prog=P->X.w=w->X.K=K->X.calm=true->∀(i:Nat) (pins:List (Addr × Obj)) (s:Shared) (σ:St) (H:Hp) (E:Value->Shared->Prop),Inv X pins σ H s->(∀b∈fp,FpOk X pins H b)->tn i s.heap->J.go i H->
  wpAny (model P w) X.A (pyNext (.ref it)) (fun r s1=>∃u,r=some u/\
   wpAny (model P w) X.A (letOwnedTupleGo tg (.ref it) u) (fun _ s2=>∃x H',Inv X pins σ H' s2/\RelV x u/\J.yld i H x H'/\tn (i+1) s2.heap/\∀b∈fp,H' b=none) E s1) E s
 done:∀(X:Cx),X.prog=P->X.w=w->X.K=K->X.calm=true->∀(i:Nat) (pins:List (Addr × Obj)) (s:Shared) (σ:St) (H:Hp) (E:Value->Shared->Prop),Inv X pins σ H s->(∀b∈fp,FpOk X pins H b)->tn i s.heap->J.stop i H->
  wpAny (model P w) X.A (pyNext (.ref it)) (fun r s1=>r=none/\Inv X pins σ H s1) E s
 self:∀(A:Around) (i:Nat) (s:Shared) (Q:Value->Shared->Prop) (E:Value->Shared->Prop),tn i s.heap->Q (.ref it) s->wpAny (model P w) A (pyIter (.ref it)) Q E s
abbrev TI:=St->Hp->(It->Hp->Prop)->Prop
def PIE(X:Cx)(pins:List (Addr × Obj))(σ:St)(tg:Expr)(R:It->Hp->Prop)(itv:Value)(s2:Shared):Prop:=
 ∃(it:Addr) (fp:List Addr) (tn:Nat->Heap->Prop) (J:It) (H':Hp),itv=.ref it/\Inv X pins σ H' s2/\Turn X.prog X.w X.K tg J fp it tn/\tn 0 s2.heap/\(∀b∈fp,FpOk X pins H' b)/\R J H'
def PI(X:Cx)(tg iter:Expr)(wi:TI):Prop:=
 ∀(pins:List (Addr × Obj)) (s:Shared) (σ:St) (H:Hp) (R:It->Hp->Prop),Inv X pins σ H s->wi σ H R->
  wpAny (model X.prog X.w) X.A (eval iter X.env) (fun v s1=>wpAny (model X.prog X.w) X.A (pyIter v) (PIE X pins σ tg R) X.xe s1) X.xe s
theorem Yw7{M:Model}{A:Around}{E:Value->Shared->Prop}{s:Shared}{tg:Expr}{it:Addr}{u:Value}{o:Obj}{n:String}{vs:Array Value}{Q:Unit->Shared->Prop}(ho:s.heap.get? it=some o)(hc:o.cls=.type n)(hd:o.data=.fields vs)
 (hn:["enumerate","zip","dict_itemiterator","dict_reverseitemiterator","odict_iterator","itertools.zip_longest","itertools.pairwise"].contains n=false) (hQ:Q () s):wpAny M A (letOwnedTupleGo tg (.ref it) u) Q E s:=by
 unfold letOwnedTupleGo
 cases tg<;>first
  | exact wpAny_pure hQ
  | (cases u<;>first
   | exact wpAny_pure hQ
   | (refine wpAny_bind (wpAny_load ho ?_)
      rw[hc,hd]
      show wpAny M A (if (["enumerate","zip","dict_itemiterator","dict_reverseitemiterator","odict_iterator","itertools.zip_longest","itertools.pairwise"].contains n&&vs[0]?==some (rawInt _))=true then _ else _) Q E s
      rw[if_neg (by intro h;rw[hn,Bool.false_and]at h;cases h)]
      exact wpAny_pure hQ))
def Itl(K:W.Frag)(a:Addr):It:=
 ⟨fun i H=>∃xs x,SqL K H a xs/\xs[i]?=some x,fun i H x H'=>H'=H/\∀xs,SqL K H a xs->xs[i]?=some x,fun i H=>∃xs,SqL K H a xs/\xs.length<=i⟩
def Itt(K:W.Frag)(a:Addr):It:=
 ⟨fun i H=>∃xs x,SqT K H a xs/\xs[i]?=some x,fun i H x H'=>H'=H/\∀xs,SqT K H a xs->xs[i]?=some x,fun i H=>∃xs,SqT K H a xs/\xs.length<=i⟩
def Itr(lo:Int)(n:Nat):It:=⟨fun i _=>i < n,fun i H x H'=>H'=H/\x=.int (lo+i),fun i _=>n<=i⟩
theorem Ys6{P:Program}{w:World}{K:W.Frag}{tg:Expr}(a it:Addr):Turn P w K tg (Itl K a) [it] it (fun i h=>h.IsListIter it a i) where
 mem:=by simp
 obj:=fun i h st b hb=>by
  have e:b=it:=by simpa using hb
  subst e
  obtain⟨o,e,c,d⟩:=st
  exact⟨o,e,fun v z=>by rw[d]at z;cases z⟩
 keep:=fun i h h' st k=>st.at fun o e=>k it (by simp) o e
 item:=by
  intro X hP hw hK hc i pins s σ H E I hf st hg
  subst hP hw hK
  obtain⟨xs,x,hq,hx⟩:=hg
  obtain⟨its,rv,p,hz⟩:=I.list hq
  obtain⟨u,hu,ru⟩:=rv.get hx
  obtain⟨f0,f1,f2,f3,f4,f5⟩:=hf it (by simp)
  refine wpAny_pyNext_list_item st p.isList (x:=u) (by simpa using hu) fun h' st' sb=>?_
  have I1:Inv X pins σ H { s with heap:=h' }:=I.turned (t':=s.toks) (fun b o hb e=>(sb.2 b hb).trans e) f0 f1 f3 f4 f5
  obtain⟨o,e,c,d⟩:=id st'
  exact⟨u,rfl,Yw7 (s:={ s with heap:=h' }) e c d (by decide) ⟨x,H,I1,ru,⟨rfl,fun ys hy=>by rw[I.list_inj hy hq];exact hx⟩,st',fun b hb=>(hf b hb).1⟩⟩
 done:=by
  intro X hP hw hK hc i pins s σ H E I hf st hg
  subst hP hw hK
  obtain⟨xs,hq,hx⟩:=hg
  obtain⟨its,rv,p,hz⟩:=I.list hq
  obtain⟨f0,f1,f2,f3,f4,f5⟩:=hf it (by simp)
  have hl:=rv.length
  exact wpAny_pyNext_list_end (I.ok.hd hc) st p.isList (by simp;lia) fun h' eb=>⟨rfl,I.turned (t':=s.toks) (fun b o hb e=>eb b o hb e) f0 f1 f3 f4 f5⟩
 self:=fun _ _ _ _ _ st h=>wpAny_pyIter_listiter st h
theorem Yll{P:Program}{w:World}{K:W.Frag}{tg:Expr}(a it:Addr):Turn P w K tg (Itt K a) [it] it (fun i h=>h.IsTupleIter it a i) where
 mem:=by simp
 obj:=fun i h st b hb=>by
  have e:b=it:=by simpa using hb
  subst e
  obtain⟨o,e,c,d⟩:=st
  exact⟨o,e,fun v z=>by rw[d]at z;cases z⟩
 keep:=fun i h h' st k=>st.at fun o e=>k it (by simp) o e
 item:=by
  intro X hP hw hK hc i pins s σ H E I hf st hg
  subst hP hw hK
  obtain⟨xs,x,hq,hx⟩:=hg
  obtain⟨its,rv,p,hz⟩:=I.tuple hq
  obtain⟨u,hu,ru⟩:=rv.get hx
  obtain⟨f0,f1,f2,f3,f4,f5⟩:=hf it (by simp)
  refine wpAny_pyNext_tuple_item st (show s.heap.IsTuple a its.toArray from p) (x:=u) (by simpa using hu) fun h' st' sb=>?_
  have I1:Inv X pins σ H { s with heap:=h' }:=I.turned (t':=s.toks) (fun b o hb e=>(sb.2 b hb).trans e) f0 f1 f3 f4 f5
  obtain⟨o,e,c,d⟩:=id st'
  exact⟨u,rfl,Yw7 (s:={ s with heap:=h' }) e c d (by decide) ⟨x,H,I1,ru,⟨rfl,fun ys hy=>by rw[I.tuple_inj hy hq];exact hx⟩,st',fun b hb=>(hf b hb).1⟩⟩
 done:=by
  intro X hP hw hK hc i pins s σ H E I hf st hg
  subst hP hw hK
  obtain⟨xs,hq,hx⟩:=hg
  obtain⟨its,rv,p,hz⟩:=I.tuple hq
  obtain⟨f0,f1,f2,f3,f4,f5⟩:=hf it (by simp)
  have hl:=rv.length
  exact wpAny_pyNext_tuple_end (I.ok.hd hc) st (show s.heap.IsTuple a its.toArray from p) (by simp;lia) fun h' eb=>⟨rfl,I.turned (t':=s.toks) (fun b o hb e=>eb b o hb e) f0 f1 f3 f4 f5⟩
 self:=fun _ _ _ _ _ st h=>wpAny_pyIter_tupleiter st h
theorem Yr9{P:Program}{w:World}{K:W.Frag}{tg:Expr}(it:Addr)(lo:Int)(n:Nat):Turn P w K tg (Itr lo n) [it] it (fun i h=>IsRangeIter h it (lo+(i:Nat) * 1) ((n:Int) - (i:Nat)) 1) where
 mem:=by simp
 obj:=fun i h st b hb=>by
  have e:b=it:=by simpa using hb
  subst e
  exact⟨_,st,fun v z=>by
   have z':Data.fields _=Data.cell v:=z
   cases z'⟩
 keep:=fun i h h' st k=>k it (by simp) _ st
 item:=by
  intro X hP hw hK hc i pins s σ H E I hf st hg
  subst hP hw hK
  obtain⟨f0,f1,f2,f3,f4,f5⟩:=hf it (by simp)
  have W:=Walks.range (prog:=X.prog) (w:=X.w) (I.ok.hd hc) it lo 1 n
  refine W.item i s _ _ hg st fun v h' tk hv st' kk=>?_
  obtain⟨t,rfl⟩:=hv
  have I1:Inv X pins σ H { s with heap:=h',toks:=tk }:=I.turned (fun b o hb e=>kk b o (by simpa using hb) e) f0 f1 f3 f4 f5
  refine⟨_,rfl,Yw7 (s:={ s with heap:=h',toks:=tk }) (n:="range_iterator") st' rfl rfl (by decide) ⟨.int (lo+i),H,I1,⟨t,?_⟩,⟨rfl,rfl⟩,st',fun b hb=>(hf b hb).1⟩⟩
  rw[Int.mul_one]
 done:=by
  intro X hP hw hK hc i pins s σ H E I hf st hg
  subst hP hw hK
  obtain⟨f0,f1,f2,f3,f4,f5⟩:=hf it (by simp)
  exact wpAny_pyNext_range_end (I.ok.hd hc) st (by have:n<=i:=hg;lia) fun h' eb=>⟨rfl,I.turned (t':=s.toks) (fun b o hb e=>eb b o hb e) f0 f1 f3 f4 f5⟩
 self:=fun _ _ _ _ _ st h=>wpAny_pyIter_rangeiter st h
end L2
namespace L2
open PySem PySem.Spec PyProof.Rows
section
variable {X:Cx} {tg:Expr}
def iTup(K:W.Frag)(tl:TE):TI:=fun σ H R=>tl σ H fun x H1=>∃a,x=.ref a/\(∃xs,SqT K H1 a xs)/\R (Itt K a) H1
theorem y3p{l:Expr}{tl:TE}(hl:PE X l tl):PI X tg l (iTup X.K tl):=by
 intro pins s σ H R I h
 refine thn (hl pins s σ H _ I h) fun v s1 hx_=>?_
 obtain⟨x,H1,I1,r1,q1⟩:=hx_
 obtain⟨a,e,⟨xs,hq⟩,q⟩:=q1
 subst e
 cases r1
 obtain⟨its,rv,p,hz⟩:=I1.tuple hq
 refine wpAny_pyIter_tuple (show s1.heap.IsTuple a its.toArray from p) ?_
 refine⟨s1.heap.objs.size,[s1.heap.objs.size],_,_,H1,rfl,I1.kept (t':=s1.toks) fun b o e=>qe _ e,Yll a _,⟨_,qp _ rfl,rfl,rfl⟩,fun b hb=>?_,q⟩
 have e:b=s1.heap.objs.size:=by simpa using hb
 subst e
 exact I1.fpOk (qu _) (I1.hok.fresh (qu _))
theorem Yw8{pins:List (Addr × Obj)}{σ:St}{H:Hp}{s:Shared}{R:It->Hp->Prop}{E:Value->Shared->Prop}{lo hi:Int}{t u v:Tok}{tk:Nat}(I:Inv X pins σ H s)(h1:-(2 ^ 62)<=lo)(h2:lo < 2 ^ 62)(h3:-(2 ^ 62)<=hi)(h4:hi < 2 ^ 62)
 (q:R (Itr lo (hi - lo).toNat) H):wpAny (model X.prog X.w) X.A (pyIter (.ref s.heap.objs.size)) (PIE X pins σ tg R) E { s with heap:=s.heap.push { cls:=.type "range",data:=.fields #[.int lo t,.int hi u,.int 1 v] },toks:=tk }:=by
 refine wpAny_pyIter_range (IsRange.new ..) (small_one h1 h2 h3 h4) ?_
 have I1:Inv X pins σ H { s with heap:=s.heap.push { cls:=.type "range",data:=.fields #[.int lo t,.int hi u,.int 1 v] },toks:=tk }:=I.kept fun b o e=>qe _ e
 refine⟨(s.heap.push { cls:=.type "range",data:=.fields #[.int lo t,.int hi u,.int 1 v] }).objs.size,[(s.heap.push { cls:=.type "range",data:=.fields #[.int lo t,.int hi u,.int 1 v] }).objs.size],_,_,H,rfl,
  I1.kept (t':=tk) fun b o e=>qe _ e,Yr9 _ lo (hi - lo).toNat,?_,fun b hb=>?_,q⟩
 ·have e1:lo+((0:Nat):Int) * 1=lo:=by simp
  have e2:(((hi - lo).toNat:Nat):Int) - ((0:Nat):Int)=Builtin.Range.rangeSize lo hi 1:=by rw[rangeSize_one];split<;>lia
  show IsRangeIter _ _ (lo+((0:Nat):Int) * 1) ((((hi - lo).toNat:Nat):Int) - ((0:Nat):Int)) 1
  rw[e1,e2]
  exact qp _ rfl
 ·have e:b=(s.heap.push { cls:=.type "range",data:=.fields #[.int lo t,.int hi u,.int 1 v] }).objs.size:=by simpa using hb
  subst e
  exact I1.fpOk (qu _) (I1.hok.fresh (qu _))
def y3q(ta:TA):TI:=fun σ H R=>ta σ H fun vs H1=>∃j:Int,vs=[.int j]/\-(2 ^ 62)<=j/\j < 2 ^ 62/\R (Itr 0 j.toNat) H1
theorem Yju{a:Expr}{ta:TA}{p pos:Pos}(hg:Gl X "range")(hm:X.mg "range"=none)(ha:PA X [a] ta)(hs:starEach [a] X.env=[(false,eval a X.env)]:=by rfl):PI X tg (.Call (.Name "range" p) [a] [] pos) (y3q ta):=by
 intro pins s σ H R I h
 refine Call_ (Ylj I hg hm boot_range (PyProof.Rows.callWith_type1 (thn (ha pos pins s σ H _ I h) fun us s1 hx_=>?_) hs rfl))
 obtain⟨vs,H1,I1,r1,q1⟩:=hx_
 obtain⟨j,e,q1,q2,q⟩:=q1
 subst e
 cases r1 with
 | cons r rr=>
   cases rr
   obtain⟨t,rfl⟩:=r
   exact call_range_1 (Yw8 I1 (by lia) (by lia) q1 q2 (by simpa using q))
def tFor(wi:TI)(g:TG)(tb:TS):TS:=fun D σ H=>wi σ H fun J H1=>∃W:Nat->Nat->St->Hp->Prop,(∃m,W 0 m σ H1)/\∀i m σ H,W i m σ H->
 (J.stop i H/\D.nx σ H)\/(J.go i H/\∃N:St->Hp->Prop,(∀σ' H',N σ' H'->∃m',m' < m/\W (i+1) m' σ' H')/\∀x H',J.yld i H x H'->g x σ H' fun σ2 H2=>tb { D with nx:=N,ct:=N,bk:=D.nx } σ2 H2)
def Yjv(fp:List Addr)(h:Heap):List (Addr × Obj):=fp.filterMap fun b=>(h.get? b).map fun o=>(b,o)
theorem Ydy{fp:List Addr}{h:Heap}{b:Addr}{o:Obj}(hb:b∈fp)(e:h.get? b=some o):(b,o)∈Yjv fp h:=List.mem_filterMap.mpr ⟨b,hb,by rw[e];rfl⟩
theorem Ys7{fp:List Addr}{h:Heap}{p:Addr × Obj}(hp:p∈Yjv fp h):p.1∈fp/\h.get? p.1=some p.2:=by
 obtain⟨b,hb,e⟩:=List.mem_filterMap.mp hp
 cases q:h.get? b with
 | none=>rw[q]at e;cases e
 | some o=>
   rw[q]at e
   have e':(b,o)=p:=Option.some.inj e
   subst e'
   exact⟨hb,q⟩
theorem Inv.pinned{pins:List (Addr × Obj)}{σ:St}{H:Hp}{s:Shared}{fp:List Addr}(I:Inv X pins σ H s)(hf:∀b∈fp,FpOk X pins H b)(ho:∀b∈fp,∃o,s.heap.get? b=some o/\∀v,o.data≠.cell v):Inv X (pins++Yjv fp s.heap) σ H s:=
 I.pins_of fun p hp=>(qv hp).elim (fun z=>I.pin p (Qj _ z)) fun z=>by
  obtain⟨hb,e⟩:=Ys7 z
  obtain⟨f0,f1,f2,_⟩:=hf p.1 hb
  obtain⟨o,e',d⟩:=ho p.1 hb
  rw[e]at e';cases e'
  exact⟨e,f0,f1,f2,d⟩
theorem Inv.unpinned{pins pl:List (Addr × Obj)}{σ:St}{H:Hp}{s:Shared}(I:Inv X (pins++pl) σ H s):Inv X pins σ H s:=I.pins_of fun p hp=>I.pin p (Qj _ (List.mem_append_left _ hp))
theorem Ys8{iter:Expr}{body:List Stmt}{wi:TI}{g:TG}{tb:TS}{pos:Pos}(hp:PassesOwn (model X.prog X.w) X.A X.env X.xe)(hc:X.calm=true)(hi:PI X tg iter wi)(hg:PG X tg g)(hb:PSs X body tb)
 (hs:∀x,foldedSetIterable iter X.env x=pure x:=by intro _;rfl):PS X (.For tg iter body [] pos) (tFor wi g tb):=by
 intro pins s σ H D I h
 refine wpAny_For (thn (hi pins s σ H _ I h) fun v s1 h1=>thn h1 fun itv s2 h2=>?_) hs
 obtain⟨it,fp,tn,J,H2,e,I2,T,st2,f2,W,⟨m0,w0⟩,turn⟩:=h2
 subst e
 have stat:∀{H':Hp},(∀b∈fp,H' b=none)->∀b∈fp,FpOk X pins H' b:=fun hn b hb=>⟨hn b hb,(f2 b hb).2⟩
 refine codeAny_forLoop_any (fun n s'=>∃i σ' H',Inv X pins σ' H' s'/\tn i s'.heap/\(∀b∈fp,H' b=none)/\W i n σ' H') ?_ m0 ⟨0,σ,H2,I2,st2,fun b hb=>(f2 b hb).1,w0⟩
 rintro n s3 ⟨i,σ3,H3,I3,st3,fr3,w3⟩
 rcases turn i n σ3 H3 w3 with⟨stop,qn⟩ | ⟨go,N,hN,step⟩
 ·refine wpAny_passesOwn hp (thn (T.done X rfl rfl rfl hc i pins s3 σ3 H3 X.xe I3 (stat fr3) st3 stop) fun r s4 hx_=>?_)
  obtain⟨hr,I4⟩:=hx_
  subst hr
  exact wpAny_execs_nil ⟨σ3,H3,I4,qn⟩
 ·refine wpAny_passesOwn hp (thn (T.item X rfl rfl rfl hc i pins s3 σ3 H3 X.xe I3 (stat fr3) st3 go) fun r s4 hx_=>?_)
  obtain⟨u,hr,h4⟩:=hx_
  subst hr
  refine wpAny_passesOwn hp (thn h4 fun _ s5 hx_=>?_)
  obtain⟨x,H5,I5,r5,y5,st5,fr5⟩:=hx_
  have I5':=I5.pinned (stat fr5) (T.obj _ _ st5)
  refine wpAny_passesOwn hp (thn (hg _ s5 σ3 H5 x u _ I5' r5 (step x H5 y5)) fun _ s6 hx_=>?_)
  obtain⟨σ6,H6,I6,q6⟩:=hx_
  refine wpAny_passesOwn hp (thn (hb _ s6 σ6 H6 _ I6 q6) fun f s7 q7=>?_)
  have again:∀{σ7:St} {H7:Hp},Inv X (pins++Yjv fp s5.heap) σ7 H7 s7->N σ7 H7->∃m,m < n/\∃i σ' H',Inv X pins σ' H' s7/\tn i s7.heap/\(∀b∈fp,H' b=none)/\W i m σ' H':=fun {σ7 H7} I7 n7=>by
   obtain⟨m',hm,w7⟩:=hN σ7 H7 n7
   refine⟨m',hm,i+1,σ7,H7,I7.unpinned,T.keep _ _ _ st5 fun b hb o e=>(I7.pin (b,o) (Qj _ (Qj _ (Ydy hb e)))).1,fun b hb=>?_,w7⟩
   obtain⟨o,e,d⟩:=T.obj _ _ st5 b hb
   exact(I7.pin (b,o) (Qj _ (Qj _ (Ydy hb e)))).2.1
  cases f with
  | next=>obtain⟨σ7,H7,I7,n7⟩:=q7;exact again I7 n7
  | cont=>obtain⟨σ7,H7,I7,n7⟩:=q7;exact again I7 n7
  | brk=>obtain⟨σ7,H7,I7,q7⟩:=q7;exact⟨σ7,H7,I7.unpinned,q7⟩
  | ret v=>obtain⟨x7,σ7,H7,I7,r7,q7⟩:=q7;exact⟨x7,σ7,H7,I7.unpinned,r7,q7⟩
end
end L2
namespace L2
open PySem PySem.Spec PyProof.Rows
abbrev R2:=V->V->Hp->VK->Prop
def OpR(X:Cx)(f:Value->Value->Sem Value)(r:R2):Prop:=
 ∀(pins:List (Addr × Obj)) (s:Shared) (σ:St) (H:Hp) (x y:V) (v u:Value) (Q:VK),Inv X pins σ H s->RelV x v->RelV y u->r x y H Q->
  wpAny (model X.prog X.w) X.A (f v u) (EP X pins σ Q) X.xe s
def Ye6(X:Cx)(f:Value)(r:List V->Hp->VK->Prop):Prop:=
 ∀(pins:List (Addr × Obj)) (s:Shared) (σ:St) (H:Hp) (xs:List V) (us:List Value) (Q:VK),Inv X pins σ H s->Vals xs us->r xs H Q->
  wpAny (model X.prog X.w) X.A (call f us) (EP X pins σ Q) X.xe s
def TruR(X:Cx)(r:V->Hp->(Bool->Hp->Prop)->Prop):Prop:=
 ∀(pins:List (Addr × Obj)) (s:Shared) (σ:St) (H:Hp) (x:V) (v:Value) (Q:Bool->Hp->Prop),Inv X pins σ H s->RelV x v->r x H Q->
  wpAny (model X.prog X.w) X.A (truthy v) (TP X pins σ Q) X.xe s
def tOp(r:R2)(ta tb:TE):TE:=fun σ H Q=>ta σ H fun x H1=>tb σ H1 fun y H2=>r x y H2 Q
def rI(C:Int->Int->Prop)(g:Int->Int->V):R2:=fun x y H Q=>∃i j,x=.int i/\y=.int j/\C i j/\Q (g i j) H
def rI0(g:Int->Int->V):R2:=fun x y H Q=>∃i j,x=.int i/\y=.int j/\Q (g i j) H
section
variable {X:Cx} {a b c:Expr} {ta tb tc:TE} {pos:Pos}
theorem binT(ha:PE X a ta)(hb:PE X b tb){pins:List (Addr × Obj)}{s:Shared}{σ:St}{H:Hp}{R:V->V->Hp->Prop}(I:Inv X pins σ H s)
 (h:ta σ H fun x H1=>tb σ H1 fun y H2=>R x y H2) {Q:Value->Shared->Prop} {f:Value->Value->Sem Value}
 (hf:∀v u s2 x y H2,Inv X pins σ H2 s2->RelV x v->RelV y u->R x y H2->wpAny (model X.prog X.w) X.A (f v u) Q X.xe s2) :
 wpAny (model X.prog X.w) X.A (eval a X.env) (fun v s₁=>wpAny (model X.prog X.w) X.A (eval b X.env) (fun u s₂=>wpAny (model X.prog X.w) X.A (f v u) Q X.xe s₂) X.xe s₁) X.xe s:=by
 refine thn (ha pins s σ H _ I h) fun v s1 hx_=>?_
 obtain⟨x,H1,I1,r1,q1⟩:=hx_
 refine thn (hb pins s1 σ H1 _ I1 q1) fun u s2 hx_=>?_
 obtain⟨y,H2,I2,r2,q2⟩:=hx_
 exact hf v u s2 x y H2 I2 r1 r2 q2
theorem Yw9{op:Operator}{r:R2}(ho:OpR X (binaryOp op) r)(ha:PE X a ta)(hb:PE X b tb):PE X (.BinOp a op b pos) (tOp r ta tb):=by
 intro pins s σ H Q I h
 exact wpAny_BinOp (binT ha hb I h fun v u s2 x y H2 I2 rx ry q=>ho pins s2 σ H2 x y v u Q I2 rx ry q)
theorem opI{f:Value->Value->Sem Value}{C:Int->Int->Prop}{g:Int->Int->Int}
 (rule:∀(i j:Int) (t u:Tok) (s:Shared) (Q:Value->Shared->Prop) (E:Value->Shared->Prop),C i j->Q (.int (g i j) s.toks) { s with toks:=s.toks+1 }->wpAny (model X.prog X.w) X.A (f (.int i t) (.int j u)) Q E s) :
 OpR X f (rI C fun i j=>.int (g i j)):=by
 intro pins s σ H x y v u Q I rx ry h
 obtain⟨i,j,rfl,rfl,hc,q⟩:=h
 obtain⟨t,rfl⟩:=rx
 obtain⟨t',rfl⟩:=ry
 exact rule i j t t' s _ _ hc ⟨.int (g i j),H,I.tok _,⟨_,rfl⟩,q⟩
theorem opI0{f:Value->Value->Sem Value}{g:Int->Int->Int}
 (rule:∀(i j:Int) (t u:Tok) (s:Shared) (Q:Value->Shared->Prop) (E:Value->Shared->Prop),Q (.int (g i j) s.toks) { s with toks:=s.toks+1 }->wpAny (model X.prog X.w) X.A (f (.int i t) (.int j u)) Q E s) :
 OpR X f (rI0 fun i j=>.int (g i j)):=by
 intro pins s σ H x y v u Q I rx ry h
 obtain⟨i,j,rfl,rfl,q⟩:=h
 obtain⟨t,rfl⟩:=rx
 obtain⟨t',rfl⟩:=ry
 exact rule i j t t' s _ _ ⟨.int (g i j),H,I.tok _,⟨_,rfl⟩,q⟩
theorem opB0{f:Value->Value->Sem Value}{g:Int->Int->Bool}
 (rule:∀(i j:Int) (t u:Tok) (s:Shared) (Q:Value->Shared->Prop) (E:Value->Shared->Prop),Q (.bool (g i j)) s->wpAny (model X.prog X.w) X.A (f (.int i t) (.int j u)) Q E s) :
 OpR X f (rI0 fun i j=>.bl (g i j)):=by
 intro pins s σ H x y v u Q I rx ry h
 obtain⟨i,j,rfl,rfl,q⟩:=h
 obtain⟨t,rfl⟩:=rx
 obtain⟨t',rfl⟩:=ry
 exact rule i j t t' s _ _ ⟨.bl (g i j),H,I,rfl,q⟩
def CDiv(i j:Int):Prop:=0 < j/\j < 1073741824
def CMul(i j:Int):Prop:=(-(2 ^ 64) < i/\i < 2 ^ 64)\/(-(2 ^ 64) < j/\j < 2 ^ 64)
theorem CMul.ok{i j:Int}(h:CMul i j):IntMulOk i j:=by
 rcases h with⟨h1,h2⟩ | ⟨h1,h2⟩
 ·exact .of_left (intBits_le_64 h1 h2)
 ·exact .of_right (intBits_le_64 h1 h2)
theorem Yzk:OpR X (binaryOp .Add) (rI0 fun i j=>.int (i+j)):=opI0 fun _ _ _ _ _ _ _ q=>add_int q
theorem y3r:OpR X (binaryOp .Sub) (rI0 fun i j=>.int (i - j)):=opI0 fun _ _ _ _ _ _ _ q=>sub_int q
theorem y3s:OpR X (binaryOp .Mult) (rI CMul fun i j=>.int (i * j)):=opI fun _ _ _ _ _ _ _ hc q=>mul_int q hc.ok
theorem y0t:OpR X (binaryOp .FloorDiv) (rI CDiv fun i j=>.int (i / j)):=opI fun i j _ _ _ _ _ hc q=>by
 have h1:(0:Int) < j:=hc.1
 have h2:j < 1073741824:=hc.2
 exact floordiv_int (by lia) (by rw[Int.fdiv_eq_ediv_of_nonneg i (by lia)];exact q) (.inl (PyProof.noPylong_small (by lia)))
theorem Yzl:OpR X (binaryOp .Mod) (rI (fun _ j=>0 < j) fun i j=>.int (i % j)):=opI fun i j _ _ _ _ _ hc q=>by
 have h1:(0:Int) < j:=hc
 exact mod_int' (by lia) (by rw[Int.fmod_eq_emod_of_nonneg i (by lia)];exact q)
end
def scal:V->V->Bool
 | .non,.non=>true | .non,.int _=>true | .int _,.non=>true | .non,.bl _=>true | .bl _,.non=>true | .non,.str _=>true | .str _,.non=>true
 | .int _,.int _=>true | .bl _,.bl _=>true | .str _,.str _=>true | .byt _,.byt _=>true
 | .int _,.str _=>true | .str _,.int _=>true | .bl _,.str _=>true | .str _,.bl _=>true
 | _,_=>false
section
variable {X:Cx} {a b c:Expr} {ta tb tc:TE} {pos:Pos}
theorem Yzm{pins:List (Addr × Obj)}{σ:St}{H:Hp}{s:Shared}{Q:VK}{k k':Bool}(I:Inv X pins σ H s)(q:Q (.bl k) H)(e:k=k'):EP X pins σ Q (.bool k') s:=by
 subst e
 exact⟨.bl k,H,I,rfl,q⟩
theorem y3t:OpR X (compareOp .Lt) (rI0 fun i j=>.bl (decide (i < j))):=opB0 fun _ _ _ _ _ _ _ q=>lt_int q
theorem y0u:OpR X (compareOp .LtE) (rI0 fun i j=>.bl (decide (i<=j))):=opB0 fun _ _ _ _ _ _ _ q=>le_int q
theorem y6w:OpR X (compareOp .Gt) (rI0 fun i j=>.bl (decide (j < i))):=opB0 fun _ _ _ _ _ _ _ q=>gt_int q
theorem Ys9:OpR X (compareOp .In) (fun x y H Q=>∃i j,x=.str i/\y=.str j/\Q (.bl (!(Builtin.Str.occurrences j i 0 j.length 1).isEmpty)) H):=by
 intro pins s σ H x y v u Q I rx ry h
 obtain⟨i,j,rfl,rfl,q⟩:=h
 obtain⟨t,rfl⟩:=rx
 obtain⟨t',rfl⟩:=ry
 exact in_str (Yzm I q rfl)
theorem y3u:OpR X (compareOp .Is) (fun x y H Q=>y=.non/\Q (.bl (decide (x=.non))) H):=by
 intro pins s σ H x y v u Q I rx ry h
 obtain⟨rfl,q⟩:=h
 cases ry
 refine is_none_gen (Yzm I q ?_)
 cases x<;>first
  | (cases rx;rfl)
  | (obtain⟨t,rfl⟩:=rx;rfl)
theorem Ylm(b:Expr){op:CmpOp}(h:op≠.In:=by decide)(h2:op≠.NotIn:=by decide):behindInMarks op b=false:=by
 have e1:(op==CmpOp.In)=false:=by cases op<;>first | rfl | exact absurd rfl h
 have e2:(op==CmpOp.NotIn)=false:=by cases op<;>first | rfl | exact absurd rfl h2
 cases b with
 | Set elts k p=>
   show((k==0)&&((op==CmpOp.In)||(op==CmpOp.NotIn))&&_)=false
   rw[e1,e2]
   cases (k==0)<;>rfl
 | _=>rfl
theorem y0v{op:CmpOp}{r:R2}(ho:OpR X (compareOp op) r)(ha:PE X a ta)(hb:PE X b tb)(hm:behindInMarks op b=false):PE X (.Compare a [op] [b] pos) (tOp r ta tb):=by
 intro pins s σ H Q I h
 exact wpAny_Compare1 (binT ha hb I h fun v u s2 x y H2 I2 rx ry q=>ho pins s2 σ H2 x y v u Q I2 rx ry q) hm
def y0w(t:TE):TT:=fun σ H Q=>t σ H fun x H'=>∃k,x=.bl k/\Q k H'
theorem Yoz{op:CmpOp}{r:R2}(ho:OpR X (compareOp op) r)(ha:PE X a ta)(hb:PE X b tb)(hm:behindInMarks op b=false):PT X (.Compare a [op] [b] pos) (y0w (tOp r ta tb)):=by
 intro pins s σ H Q I h
 refine wpAny_isTrue_Compare1 (thn (ha pins s σ H _ I h) fun v s1 hx_=>?_) hm
 obtain⟨x,H1,I1,r1,q1⟩:=hx_
 refine thn (hb pins s1 σ H1 _ I1 q1) fun u s2 hx_=>?_
 obtain⟨y,H2,I2,r2,q2⟩:=hx_
 refine thn (ho pins s2 σ H2 x y v u _ I2 r1 r2 q2) fun c s3 hx_=>?_
 obtain⟨z,H3,I3,r3,k,e,q3⟩:=hx_
 subst e
 cases r3
 exact wpAny_truthy_bool ⟨H3,I3,q3⟩
def Yzn(r r':R2)(ta tb tc:TE):TE:=fun σ H Q=>ta σ H fun x H1=>tb σ H1 fun y H2=>r x y H2 fun z H3=>∃k,z=.bl k/\
 (if k=true then tc σ H3 fun w' H4=>r' y w' H4 Q else Q (.bl false) H3)
theorem Yxa{op op':CmpOp}{r r':R2}(ho:OpR X (compareOp op) r)(ho':OpR X (compareOp op') r')(ha:PE X a ta)(hb:PE X b tb)(hc:PE X c tc)
 (hm:lastMarks [op,op'] [b,c]=false:=by with_unfolding_all rfl):PE X (.Compare a [op,op'] [b,c] pos) (Yzn r r' ta tb tc):=by
 intro pins s σ H Q I h
 refine Compare_chain (thn (ha pins s σ H _ I h) fun v s1 hx_=>?_) hm
 obtain⟨x,H1,I1,r1,q1⟩:=hx_
 refine chain_link (thn (hb pins s1 σ H1 _ I1 q1) fun u s2 hx_=>?_)
 obtain⟨y,H2,I2,r2,q2⟩:=hx_
 refine thn (ho pins s2 σ H2 x y v u _ I2 r1 r2 q2) fun d s3 hx_=>?_
 obtain⟨z,H3,I3,r3,k,e,q3⟩:=hx_
 subst e
 cases r3
 refine wpAny_truthy_bool ?_
 cases k with
 | false=>exact ite_ff ⟨.bl false,H3,I3,rfl,q3⟩
 | true=>
   refine ite_tt (chain_last (thn (hc pins s3 σ H3 _ I3 q3) fun w' s4 hx_=>?_))
   obtain⟨z',H4,I4,r4,q4⟩:=hx_
   exact ho' pins s4 σ H4 y z' u w' Q I4 r2 r4 q4
theorem Yxb{op op':CmpOp}{r r':R2}(ho:OpR X (compareOp op) r)(ho':OpR X (compareOp op') r')(ha:PE X a ta)(hb:PE X b tb)(hc:PE X c tc)
 (hm:lastMarks [op,op'] [b,c]=false:=by with_unfolding_all rfl):PT X (.Compare a [op,op'] [b,c] pos) (y0w (Yzn r r' ta tb tc)):=by
 intro pins s σ H Q I h
 refine isTrue_chain (thn (ha pins s σ H _ I h) fun v s1 hx_=>?_) hm
 obtain⟨x,H1,I1,r1,q1⟩:=hx_
 refine test_link (thn (hb pins s1 σ H1 _ I1 q1) fun u s2 hx_=>?_)
 obtain⟨y,H2,I2,r2,q2⟩:=hx_
 refine thn (ho pins s2 σ H2 x y v u _ I2 r1 r2 q2) fun d s3 hx_=>?_
 obtain⟨z,H3,I3,r3,k,e,q3⟩:=hx_
 subst e
 cases r3
 refine wpAny_truthy_bool ?_
 cases k with
 | false=>
   obtain⟨k',e',q'⟩:=q3
   cases e'
   exact ite_ff ⟨H3,I3,q'⟩
 | true=>
   refine ite_tt (test_last (thn (hc pins s3 σ H3 _ I3 q3) fun w' s4 hx_=>?_))
   obtain⟨z',H4,I4,r4,q4⟩:=hx_
   refine thn (ho' pins s4 σ H4 y z' u w' _ I4 r2 r4 q4) fun d' s5 hx_=>?_
   obtain⟨z2,H5,I5,r5,k2,e2,q5⟩:=hx_
   subst e2
   cases r5
   exact wpAny_truthy_bool ⟨H5,I5,q5⟩
def TruV(K:W.Frag)(x:V)(H:Hp)(k:Bool):Prop:=
 match x with
 | .non=>k=false
 | .bl b=>k=b
 | .int i=>k=(i != 0)
 | .str y=>y.length<=sizeLine/\k=((y.length:Int) != 0)
 | .byt y=>y.size<=sizeLine/\k=((y.size:Int) != 0)
 | .ref p=>(∃xs,SqL K H p xs/\k=!xs.isEmpty)\/(∃xs,SqT K H p xs/\k=!xs.isEmpty)\/∃kvs,H p=some (.dK kvs)/\k=!kvs.isEmpty
 | _=>False
theorem Ysa{κ:Type}{kvs:List (κ × V)}{vs:List (κ × Value)}(r:KV kvs vs):(!vs.isEmpty)=!kvs.isEmpty:=by
 cases r<;>rfl
theorem Yln{xs:List V}{its:List Value}(r:Vals xs its):(!its.toArray.isEmpty)=!xs.isEmpty:=by
 cases r<;>simp
theorem Ylo:(sizeLine:Nat) < 2 ^ 63:=by rw[sizeLine_eq];decide
theorem y3v:TruR X (fun x H Q=>∃k,TruV X.K x H k/\Q k H):=by
 intro pins s σ H x v Q I rx h
 obtain⟨k,e,q⟩:=h
 have hl:=Ylo
 have hs:sizeLine=16777216:=sizeLine_eq
 cases x with
 | non=>
   cases rx
   have e':k=false:=e
   subst e'
   exact truthy_none ⟨H,I,q⟩
 | bl b=>
   cases rx
   have e':k=b:=e
   subst e'
   exact wpAny_truthy_bool ⟨H,I,q⟩
 | int i=>
   obtain⟨t,rfl⟩:=rx
   have e':k=(i != 0):=e
   subst e'
   exact PySem.P.truthy_int ⟨H,I,q⟩
 | str y=>
   obtain⟨t,rfl⟩:=rx
   obtain⟨hy,e'⟩:y.length<=sizeLine/\k=((y.length:Int) != 0):=e
   subst e'
   exact PySem.P.truthy_str (by lia) ⟨H,I.tok _,q⟩
 | byt y=>
   obtain⟨t,rfl⟩:=rx
   obtain⟨hy,e'⟩:y.size<=sizeLine/\k=((y.size:Int) != 0):=e
   subst e'
   exact W.truthy_bytes (by lia) ⟨H,I.tok _,q⟩
 | ref p=>
   cases rx
   have e':(∃xs,SqL X.K H p xs/\k=!xs.isEmpty)\/(∃xs,SqT X.K H p xs/\k=!xs.isEmpty)\/∃kvs,H p=some (.dK kvs)/\k=!kvs.isEmpty:=e
   rcases e' with⟨xs,hx,e'⟩ | ⟨xs,hx,e'⟩ | ⟨kvs,hx,e'⟩
   ·subst e'
    obtain⟨its,r,pl,hz⟩:=I.list hx
    have hlen:=r.length
    exact wpAny_truthy_list pl.isList (by simp only[qk];lia) ⟨H,I.tok _,by rw[Yln r];exact q⟩
   ·subst e'
    obtain⟨its,r,pl,hz⟩:=I.tuple hx
    have hlen:=r.length
    exact truthy_tuple pl (by simp only[qk];lia) ⟨H,I.tok _,by rw[Yln r];exact q⟩
   ·subst e'
    obtain⟨hz,hS,vs,r,m⟩:kvs.length<=sizeLine/\(p==sysModules)=false/\∃vs,KV kvs vs/\s.heap.DictOf (Yow X.prog X.w) p vs:=I.hok p _ hx
    have hlen:kvs.length=vs.length:=Paired.length r
    exact wpAny_truthy_dict hS m (by lia) ⟨H,I.tok _,by rw[Ysa r];exact q⟩
 | _=>exact(show False from e).elim
theorem Yxc(ha:PE X a ta)(he:∀whole,isTrue a X.env whole=(do let v <-whole;standAt a.pos;holding [v] (truthy v))) :
 PT X a (fun σ H Q=>ta σ H fun x H'=>∃k,TruV X.K x H' k/\Q k H'):=by
 intro pins s σ H Q I h
 refine isTrue_plain (thn (ha pins s σ H _ I h) fun v s1 hx_=>?_) (he _)
 obtain⟨x,H1,I1,r1,q1⟩:=hx_
 exact y3v pins s1 σ H1 x v Q I1 r1 q1
theorem Ysb:OpR X (binaryOp .Add) (fun x y H Q=>∃i j,x=.str i/\y=.str j/\i.length+j.length<=sizeLine/\Q (.str (i++j)) H):=by
 intro pins s σ H x y v u Q I rx ry h
 obtain⟨i,j,rfl,rfl,hz,q⟩:=h
 obtain⟨t,rfl⟩:=rx
 obtain⟨t',rfl⟩:=ry
 exact add_str (fun t' tk=>⟨.str (i++j),H,I.tok _,⟨_,rfl⟩,q⟩) hz
theorem Yjk{x:V}{us:List Value}(r:Vals [x] us):∃u,us=[u]/\RelV x u:=by
 cases r with
 | cons r1 r2=>cases r2;exact⟨_,rfl,r1⟩
theorem y0x{x y:V}{us:List Value}(r:Vals [x,y] us):∃u w',us=[u,w']/\RelV x u/\RelV y w':=by
 cases r with
 | cons r1 r2=>
   cases r2 with
   | cons r3 r4=>cases r4;exact⟨_,_,rfl,r1,r3⟩
theorem Yjw:Ye6 X (.type "int") (fun xs H Q=>(∃i,xs=[.int i]/\Q (.int i) H)\/∃k,xs=[.bl k]/\Q (.int (if k then 1 else 0)) H):=by
 intro pins s σ H xs us Q I r h
 rcases h with⟨i,rfl,q⟩ | ⟨k,rfl,q⟩
 ·obtain⟨u,rfl,t,rfl⟩:=Yjk r
  exact call_int_int ⟨.int i,H,I,⟨_,rfl⟩,q⟩
 ·obtain⟨u,rfl,r1⟩:=Yjk r
  cases r1
  exact call_int_bool ⟨.int (if k then 1 else 0),H,I.tok _,⟨_,rfl⟩,q⟩
theorem Ybp:Ye6 X (.type "str") (fun xs H Q=>∃i,xs=[.int i]/\i.natAbs.log2 < 1920/\Q (.str (toString i)) H):=by
 intro pins s σ H xs us Q I r h
 obtain⟨i,rfl,hz,q⟩:=h
 obtain⟨u,rfl,t,rfl⟩:=Yjk r
 exact PySem.P.str_of_int hz ⟨.str _,H,I.tok _,⟨_,rfl⟩,q⟩
end
end L2
namespace L2
open PySem PySem.Spec PyProof.Rows
structure ObjM(h:Heap)(x dx C:Addr)(mA:Str->Option Value):Prop where
 obj:h.get? x=some (W.instObj C dx)
 ns:h.Ns1 dx mA
 ne:dx≠x
theorem Yta{h:Heap}{dx:Addr}{mA:Str->Option Value}(n:h.Ns1 dx mA):∃od,h.get? dx=some od/\∀name,W.lookIn name od=some (mA name):=by
 obtain⟨o,es,ep,ho,hd,hk,_,hm⟩:=n
 refine⟨o,ho,fun name=>?_⟩
 have e:=hm name
 unfold nsFind findBy at e
 rw[<-Array.find?_toList]at e
 unfold W.lookIn
 rw[hd]
 dsimp only
 split
 ·rename_i y q
  rw[q]at e
  exact congrArg some e
 ·rename_i q
  rw[q]at e
  have a:es.toList.any (·.refKey)=false:=by
   rw[List.any_eq_false]
   intro y hy
   obtain⟨z,t,hkey⟩:=hk y (Array.mem_toList_iff.mp hy)
   simp[DictEntry.refKey,hkey]
  have a':¬es.toList.any (·.refKey)=true:=by rw[a];exact qi
  rw[if_neg a']
  exact congrArg some e
theorem ObjM.look{h:Heap}{x dx C:Addr}{mA:Str->Option Value}(I:ObjM h x dx C mA):∃od,W.InstAt h x (W.instObj C dx) C (some od)/\∀name,W.lookIn name od=some (mA name):=
 let ⟨od,ho,hl⟩:=Yta I.ns
 ⟨od,⟨I.obj,rfl,rfl,ho⟩,hl⟩
section
variable {prog:Program} {w:World} {A:Around} {E:Value->Shared->Prop} {s:Shared} {K:W.Frag} {x dx C f:Addr} {mA:Str->Option Value} {name:Str} {v:Value}
theorem y0y{expr:Bool}{Q:Value->Shared->Prop}(X:K.In s.heap)(I:ObjM s.heap x dx C mA)(hg:W.plainGet K C name=true)(hh:W.hasDictIn K C=true)
 (ha:W.findIn K (.ref C) name=some none) (hv:mA name=some v) (hv':W.handedIn v=true) (h:Q v { s with toks:=s.toks+1 }) :
 wpAny (model prog w) A (getAttr (.ref x) name expr) Q E s:=by
 obtain⟨od,J,hl⟩:=I.look
 exact W.get_value X J (W.plainGet_of hg).1 (W.findObj_own hh ha rfl (by rw[hl,hv])) hv' h
theorem Yxd{pl:Sem Bool}{Q:Value × List Value->Shared->Prop}(X:K.In s.heap)(I:ObjM s.heap x dx C mA)(hg:W.plainGet K C name=true)
 (hf:W.findIn K (.ref C) name=some (some (.ref f))) (ht:W.isFn K (.ref f)=true) (hv:mA name=none) (h:Q (.ref f,[.ref x]) s) :
 wpAny (model prog w) A (getMethod (.ref x) name pl) Q E s:=by
 obtain⟨od,J,hl⟩:=I.look
 exact W.method_fn X J (W.plainGet_of hg).1 (W.plainGet_of hg).2 hf (beq_iff_eq.mp ht) (by show(W.lookIn name od).map (·.isSome)=some false;rw[hl,hv];rfl) h
theorem y0z{ns:List Str}{Q:Unit->Shared->Prop}(X:K.In s.heap)(I:ObjM s.heap x dx C mA)
 (hs:W.findIn K (.ref C) "__setattr__"=some (some (.builtin "object.__setattr__"))) (hp:W.plainOver K C=true) (ht:W.takerIn K C name=some none) (hh:W.hasDictIn K C=true)
 (hw:PySem.Within mA ns) (hsz:ns.length<=sizeLine)
 (h:∀h',ObjM h' x dx C (fun y=>if y=name then some v else mA y)->Heap.SameBut dx s.heap h'->Q () { s with heap:=h',toks:=s.toks+2 }) :
 wpAny (model prog w) A (setAttr (.ref x) name v) Q E s:=by
 obtain⟨od,J,hl⟩:=I.look
 refine W.set_plain X J hs (W.osa_open (s:={ s with toks:=s.toks+1 }) (r:=none) X J hp ht fun b=>?_)
 obtain⟨cd,hc,hd'⟩:=W.any_some hh
 have hx:s.heap.get? x=some ⟨.ref C,some dx,.plain,#[]⟩:=I.obj
 refine wpAny_bind (wpAny_pure (wpAny_bind (wpAny_bind (wpAny_loadPart hx (wpAny_bind (W.Looks.here (s:={ s with toks:=s.toks+1 }) (W.looks_clsIn X hc) ?_))))))
 rw[hd']
 refine wpAny_pure (a:=some dx) (wpAny_bind (wpAny_pure (wpAny_bind ?_)))
 refine wpAny_nsSet1 (s:={ s with toks:=s.toks+1 }) I.ns fun h' hn2 hs2=>?_
 obtain⟨oD,esD,epD,hoD,hdD,hcD⟩:=hn2.count (PySem.Within.cons name v hw)
 refine wpAny_bind (wpAny_lookBehind hoD (by rw[hdD];exact pastItsLine_dict (qy hcD (by rw[qs];lia))) ?_)
 exact wpAny_pure (h _ ⟨(hs2.2 _ (Ne.symm I.ne)).trans I.obj,hn2,I.ne⟩ hs2)
theorem Yxe{R:Result->Shared->Prop}{vs:List Value}{kw:List (Str × Value)}(X:K.In s.heap)(hm:W.makesIn K C=true)
 (hi:W.findIn K (.ref C) "__init__"=some (some (.ref f))) (hf:W.typeIn K (.ref f)=some (.type "function"))
 (h:codeAny (model prog w) (A.under (.builtin "type.__call__" ⟨.ref C::vs,kw⟩)) (.call (.ref f) ⟨.ref (s.heap.objs.size+1)::vs,kw⟩) (W.InitBack (s.heap.objs.size+1) R)
  { s with heap:=(s.heap.push W.emptyDict).push (W.instObj C s.heap.objs.size) }) :
 codeAny (model prog w) A (.call (.ref C) ⟨vs,kw⟩) R s:=by
 obtain⟨hh,g,d,t,os⟩:=s
 exact W.make_core (W.makes_of X hm) (W.looks_findIn X hi) (fun self=>W.bind_fn X self hf) (.inl rfl) h
end
def putF(f:Str)(v:V):List (Str × V)->List (Str × V)
 | []=>[(f,v)]
 | (g,x)::r=>if g=f then (g,v)::r else (g,x)::putF f v r
theorem Yjx(f g:Str)(v:V):∀fs:List (Str × V),(putF f v fs).lookup g=if g=f then some v else fs.lookup g
 | []=>by
   show List.lookup g [(f,v)]=_
   by_cases h:g=f
   ·have hb:(g==f)=true:=beq_iff_eq.mpr h
    simp only[List.lookup,hb,if_pos h]
   ·have hb:(g==f)=false:=beq_eq_false_iff_ne.mpr h
    simp only[List.lookup,hb,if_neg h]
 | (k,x)::r=>by
   have ih:=Yjx f g v r
   rw[show putF f v ((k,x)::r)=(if k=f then (k,v)::r else (k,x)::putF f v r) from rfl]
   by_cases hk:k=f
   ·rw[if_pos hk]
    by_cases h:g=k
    ·have hb:(g==k)=true:=beq_iff_eq.mpr h
     simp only[List.lookup,hb,if_pos (h.trans hk)]
    ·have hb:(g==k)=false:=beq_eq_false_iff_ne.mpr h
     simp only[List.lookup,hb,if_neg (fun e:g=f=>h (e.trans hk.symm))]
   ·rw[if_neg hk]
    by_cases h:g=k
    ·have hb:(g==k)=true:=beq_iff_eq.mpr h
     simp only[List.lookup,hb,if_neg (fun e:g=f=>hk (h.symm.trans e))]
    ·have hb:(g==k)=false:=beq_eq_false_iff_ne.mpr h
     simp only[List.lookup,hb]
     exact ih
theorem Yjy(f:Str)(v:V):∀fs:List (Str × V),f∈(putF f v fs).map (·.1)/\∀g,g∈fs.map (·.1)->g∈(putF f v fs).map (·.1)
 | []=>⟨by simp[putF],fun g h=>by simp at h⟩
 | (k,x)::r=>by
   obtain⟨i1,i2⟩:=Yjy f v r
   rw[show putF f v ((k,x)::r)=(if k=f then (k,v)::r else (k,x)::putF f v r) from rfl]
   by_cases hk:k=f
   ·rw[if_pos hk]
    subst hk
    exact⟨by simp,fun g h=>by simpa using h⟩
   ·rw[if_neg hk]
    refine⟨?_,fun g h=>?_⟩
    ·rw[qz]
     exact qg _ i1
    ·rw[qz]at h ⊢
     rcases qt h with e | e
     ·exact List.mem_cons.mpr (.inl e)
     ·exact qg _ (i2 g e)
theorem Yjz(f:Str)(v:V):∀fs:List (Str × V),(putF f v fs).length<=fs.length+1
 | []=>by simp[putF]
 | (k,x)::r=>by
   have ih:=Yjz f v r
   rw[show putF f v ((k,x)::r)=(if k=f then (k,v)::r else (k,x)::putF f v r) from rfl]
   by_cases hk:k=f
   ·rw[if_pos hk,qs,qs];lia
   ·rw[if_neg hk,qs,qs];lia
theorem RelO.some_of{v:V}{o:Option Value}(r:RelO (some v) o):∃u,o=some u/\RelV v u:=by
 cases o with
 | none=>exact(show False from r).elim
 | some u=>exact⟨u,rfl,r⟩
theorem RelO.none_of{o:Option Value}(r:RelO none o):o=none:=by
 cases o with
 | none=>rfl
 | some u=>exact(show False from r).elim
theorem Ytb{v:V}{u:Value}(r:RelV v u):W.handedIn u=true:=by
 cases v with
 | non=>cases (show u=Value.none from r);rfl
 | bl b=>cases (show u=Value.bool b from r);rfl
 | int i=>obtain⟨t,e⟩:=(show ∃t,u=Value.int i t from r);cases e;rfl
 | str x=>obtain⟨t,e⟩:=(show ∃t,u=Value.str x t from r);cases e;rfl
 | byt b=>obtain⟨t,e⟩:=(show ∃t,u=Value.bytes b t from r);cases e;rfl
 | flt b=>obtain⟨t,e⟩:=(show ∃t,u=Value.float b t from r);cases e;rfl
 | ref a=>cases (show u=Value.ref a from r);rfl
 | ty n=>cases (show u=Value.type n from r);rfl
section
variable {P:Program} {w:World} {H H':Hp} {h h':Heap} {a C dx:Addr} {fs fs':List (Str × V)}
theorem Yl4(hok:HOk P w H h)(e:H a=some (.ins C dx fs)):∃mA,ObjM h a dx C mA/\(∀f,RelO (fs.lookup f) (mA f))/\PySem.Within mA (fs.map (·.1))/\fs.length<=1000/\H dx=some (.own a):=by
 obtain⟨d,z,ne,ob,mA,n,r,q⟩:=(show ObjOk P w H h a (.ins C dx fs) from hok a _ e)
 exact⟨mA,⟨ob,n,ne⟩,r,q,z,d⟩
end
structure Cls(K:W.Frag)(C:Addr):Prop where
 pg:W.plainGet K C Str.empty=true
 hd:W.hasDictIn K C=true
 po:W.plainOver K C=true
 sa:W.findIn K (.ref C) "__setattr__"=some (some (.builtin "object.__setattr__"))
theorem Cls.get{K:W.Frag}{C:Addr}(c:Cls K C)(f:Str):W.plainGet K C f=true:=c.pg
def NoAttr(K:W.Frag)(C:Addr)(f:Str):Prop:=W.findIn K (.ref C) f=some none
theorem NoAttr.taker{K:W.Frag}{C:Addr}{f:Str}(n:NoAttr K C f):W.takerIn K C f=some none:=by
 unfold W.takerIn
 rw[show W.findIn K (.ref C) f=some none from n]
 rfl
structure Con(K:W.Frag)(C:Addr)(f:Str)(v:V)(u:Value):Prop where
 at_:W.findIn K (.ref C) f=some (some u)
 rel:RelV v u
 get:W.specialIn K u "__get__"=some none
 cp:W.copiedNames.contains f=false
structure Meth(K:W.Frag)(C:Addr)(m:Str)(f:Addr):Prop where
 at_:W.findIn K (.ref C) m=some (some (.ref f))
 fn:W.isFn K (.ref f)=true
 kp:W.keepIn K (.ref f)=true
section
variable {X:Cx} {pins:List (Addr × Obj)} {σ:St} {H:Hp} {s:Shared} {a C dx:Addr} {fs:List (Str × V)} {f:Str} {v:V} {A:Around} {E:Value->Shared->Prop}
theorem Ylp{b:Bool}{Q:Value->Shared->Prop}(I:Inv X pins σ H s)(e:H a=some (.ins C dx fs))(c:Cls X.K C)(n:NoAttr X.K C f)(l:fs.lookup f=some v)
 (h:∀u s',Inv X pins σ H s'->RelV v u->Q u s'):wpAny (model X.prog X.w) A (getAttr (.ref a) f b) Q E s:=by
 obtain⟨mA,O,r,_,_,_⟩:=Yl4 I.hok e
 obtain⟨u,hu,ru⟩:=RelO.some_of (v:=v) (o:=mA f) (by rw[<-l];exact r f)
 exact y0y I.kIn O (c.get f) c.hd n hu (Ytb ru) (h u _ (I.tok _) ru)
theorem Ysc{m:Str}{g:Addr}{pl:Sem Bool}{Q:Value × List Value->Shared->Prop}(I:Inv X pins σ H s)(e:H a=some (.ins C dx fs))(c:Cls X.K C)(k:Meth X.K C m g)(l:fs.lookup m=none)
 (h:Q (.ref g,[.ref a]) s):wpAny (model X.prog X.w) A (getMethod (.ref a) m pl) Q E s:=by
 obtain⟨mA,O,r,_,_,_⟩:=Yl4 I.hok e
 have hn:mA m=none:=RelO.none_of (by rw[<-l];exact r m)
 exact Yxd I.kIn O (c.get m) k.at_ k.fn hn h
theorem Ylq{y:V}{u:Value}{Q:Unit->Shared->Prop}(I:Inv X pins σ H s)(e:H a=some (.ins C dx fs))(c:Cls X.K C)(n:NoAttr X.K C f)(hl:fs.length < 1000)(ry:RelV y u)
 (h:∀s',Inv X pins σ (upd H a (.ins C dx (putF f y fs))) s'->Q () s'):wpAny (model X.prog X.w) A (setAttr (.ref a) f u) Q E s:=by
 obtain⟨mA,O,r,wi,_,ho⟩:=Yl4 I.hok e
 have hz:(fs.map (·.1)).length<=sizeLine:=by rw[qf,sizeLine_eq];lia
 refine y0z I.kIn O c.sa c.po n.taker c.hd wi hz fun h' O' sb=>h _ ?_
 have hd:∃o,h'.get? dx=some o:=let ⟨o,_,_,e',_⟩:=O'.ns;⟨o,e'⟩
 refine I.write (x:=a) (e:=dx) (by rw[e];exact True.intro) (.inr ho) (fun b q hb z=>(sb.2 b hb).trans z) hd ?_
 refine⟨by rw[Yn O.ne];exact ho,?_,O.ne,O'.obj,_,O'.ns,fun g=>?_,fun g hg=>?_⟩
 ·have:=Yjz f y fs;lia
 ·show RelO ((putF f y fs).lookup g) (if g=f then some u else mA g)
  rw[Yjx]
  by_cases q:g=f
  ·rw[if_pos q,if_pos q];exact ry
  ·rw[if_neg q,if_neg q];exact r g
 ·by_cases q:g=f
  ·rw[q];exact(Yjy f y fs).1
  ·refine(Yjy f y fs).2 g (wi g fun z=>hg ?_)
   show(if g=f then some u else mA g)=none
   rw[if_neg q];exact z
theorem Inv.made(I:Inv X pins σ H s):Inv X pins σ (upd (upd H s.heap.objs.size (.own (s.heap.objs.size+1))) (s.heap.objs.size+1) (.ins C s.heap.objs.size []))
 { s with heap:=(s.heap.push W.emptyDict).push (W.instObj C s.heap.objs.size) }:=by
 have e1:(s.heap.push W.emptyDict).get? s.heap.objs.size=some W.emptyDict:=qp s.heap rfl
 have e2:((s.heap.push W.emptyDict).push (W.instObj C s.heap.objs.size)).get? (s.heap.objs.size+1)=some (W.instObj C s.heap.objs.size):=by
  have:=qp (s.heap.push W.emptyDict) (o:=W.instObj C s.heap.objs.size) rfl
  rwa [Heap.size_push]at this
 have e3:(s.heap.push W.emptyDict).Ns s.heap.objs.size (fun _=>none):=⟨W.emptyDict,#[],_,e1,rfl,(fun e he=>absurd he (by simp)),fun _=>rfl⟩
 have I1:=I.laid (a:=s.heap.objs.size) (o:=.own (s.heap.objs.size+1)) (h':=s.heap.push W.emptyDict) (t':=s.toks) (fun b u q=>qe _ q) (qu _) ⟨_,e1⟩
 refine I1.laid (a:=s.heap.objs.size+1) (o:=.ins C s.heap.objs.size []) (t':=s.toks) (fun b u q=>qe _ q) (Nat.le_of_eq (Heap.size_push _ _)) ?_
 have ne:s.heap.objs.size≠s.heap.objs.size+1:=qm (Nat.lt_succ_self _)
 refine⟨by rw[Yn ne,Yq],Nat.zero_le _,ne,e2,fun _=>none,(Heap.Ns1.of_empty e3).at fun o q=>qe _ q,fun _=>True.intro,fun y hy=>absurd rfl hy⟩
theorem y00{prog:Program}{w:World}{env:Env}{e:Expr}{f:Str}{pos:Pos}{s:Shared}{Q:Value->Shared->Prop}(hb:attributeBase e f env (eval e env)=eval e env)
 (h:wpAny (model prog w) A (eval e env) (fun o s₁=>wpAny (model prog w) A (getAttr o f true) Q E s₁) E s):wpAny (model prog w) A (eval (.Attribute e f pos) env) Q E s:=
 Attribute_any_ h (by rw[arm_eval_Attribute,hb])
end
def tFld(K:W.Frag)(ta:TE)(f:Str):TE:=fun σ H Q=>ta σ H fun x H1=>∃a C dx fs v,x=.ref a/\H1 a=some (.ins C dx fs)/\Cls K C/\NoAttr K C f/\fs.lookup f=some v/\Q v H1
def sFld(K:W.Frag)(ta tv:TE)(f:Str):TS:=fun D σ H=>tv σ H fun y H1=>ta σ H1 fun x H2=>∃a C dx fs,x=.ref a/\H2 a=some (.ins C dx fs)/\Cls K C/\NoAttr K C f/\fs.length < 1000/\
 D.nx σ (upd H2 a (.ins C dx (putF f y fs)))
def InOp(X:Cx)(op:Operator)(rd:V->V->Hp->VK->Prop):Prop:=
 ∀(pins:List (Addr × Obj)) (s:Shared) (σ:St) (H:Hp) (x y:V) (u v:Value) (Q:VK),Inv X pins σ H s->RelV x u->RelV y v->rd x y H Q->wpAny (model X.prog X.w) X.A (inplaceOp op u v) (EP X pins σ Q) X.xe s
def y01(K:W.Frag)(ta tv:TE)(rd:V->V->Hp->VK->Prop)(f:Str):TS:=fun D σ H=>ta σ H fun x H1=>∃a C dx fs v,x=.ref a/\H1 a=some (.ins C dx fs)/\Cls K C/\NoAttr K C f/\fs.lookup f=some v/\
 tv σ H1 fun y H2=>rd v y H2 fun z H3=>∃dx' fs',H3 a=some (.ins C dx' fs')/\fs'.length < 1000/\D.nx σ (upd H3 a (.ins C dx' (putF f z fs')))
section
variable {X:Cx} {o e value:Expr} {f:Str} {pos pos' tpos:Pos} {ta tv:TE} {pins:List (Addr × Obj)} {σ:St} {H:Hp} {s:Shared} {A:Around} {E Q:Value->Shared->Prop} {c:Value} {b:Bool}
theorem y3w(he:PE X e ta)(hb:attributeBase e f X.env (eval e X.env)=eval e X.env):PE X (.Attribute e f pos) (tFld X.K ta f):=by
 intro pins s σ H Q I h
 refine y00 hb (thn (he pins s σ H _ I h) fun u s1 hx_=>?_)
 obtain⟨x,H1,I1,rx,a,C,dx,fs,v,ex,ea,c,n,l,q⟩:=hx_
 subst ex
 obtain rfl:u=Value.ref a:=rx
 exact Ylp I1 ea c n l fun u' s2 I2 ru=>⟨v,H1,I2,ru,q⟩
theorem Yzo(ha:PE X o ta)(hv:PE X value tv)(hs:swapsWith value (some (.Attribute o f pos')) pos.line X.env=pure false):PS X (.Assign [.Attribute o f pos'] value pos) (sFld X.K ta tv f):=by
 intro pins s σ H D I h
 refine plainObj_wpAny_Assign_Attribute (thn (hv pins s σ H _ I h) fun u s1 hx_=>?_) hs
 obtain⟨y,H1,I1,ry,q⟩:=hx_
 refine thn (ha pins s1 σ H1 _ I1 q) fun ov s2 hx_=>?_
 obtain⟨x,H2,I2,rx,a,C,dx,fs,ex,ea,c,n,l,q2⟩:=hx_
 subst ex
 obtain rfl:ov=Value.ref a:=rx
 exact Ylq I2 ea c n l ry fun s3 I3=>⟨σ,_,I3,q2⟩
theorem Ytc{op:Operator}{rd:V->V->Hp->VK->Prop}(ha:PE X o ta)(hv:PE X value tv)(hop:InOp X op rd):PS X (.AugAssign (.Attribute o f tpos) op value pos) (y01 X.K ta tv rd f):=by
 intro pins s σ H D I h
 refine wpAny_AugAssign_AttributeAny (thn (ha pins s σ H _ I h) fun ov s1 hx_=>?_)
 obtain⟨x,H1,I1,rx,a,C,dx,fs,v,ex,ea,c,n,l,q⟩:=hx_
 subst ex
 obtain rfl:ov=Value.ref a:=rx
 refine Ylp I1 ea c n l fun u s2 I2 ru=>thn (hv pins s2 σ H1 _ I2 q) fun w3 s3 hx_=>?_
 obtain⟨y,H2,I3,ry,q3⟩:=hx_
 refine thn (hop pins s3 σ H2 v y u w3 _ I3 ru ry q3) fun w4 s4 hx_=>?_
 obtain⟨z,H3,I4,rz,dx',fs',ea',l',q4⟩:=hx_
 exact Ylq I4 ea' c n l' rz fun s5 I5=>⟨σ,_,I5,q4⟩
def rAdd:V->V->Hp->VK->Prop:=fun x y H Q=>∃i j,x=.int i/\y=.int j/\Q (.int (i+j)) H
theorem y3x:InOp X .Add rAdd:=by
 rintro pins s σ H x y u v Q I rx ry ⟨i,j,rfl,rfl,q⟩
 obtain⟨t,rfl⟩:=(show ∃t,u=Value.int i t from rx)
 obtain⟨t',rfl⟩:=(show ∃t',v=Value.int j t' from ry)
 exact PyProof.Rows.iadd_int ⟨.int (i+j),H,I.tok _,⟨_,rfl⟩,q⟩
inductive TyOf (K:W.Frag) (H:Hp):V->Value->Prop where
 | non:TyOf K H .non (.type "NoneType")
 | bl (x:Bool):TyOf K H (.bl x) (.type "bool")
 | int (i:Int):TyOf K H (.int i) (.type "int")
 | str (x:Str):TyOf K H (.str x) (.type "str")
 | flt (x:UInt64):TyOf K H (.flt x) (.type "float")
 | lst {a:Addr} {xs:List V} (e:H a=some (.lst xs)):TyOf K H (.ref a) (.type "list")
 | frz {a:Addr} {o:Obj} {xs:List V} (e:H a=some (.frz o (.lst xs))):TyOf K H (.ref a) (.type "list")
 | tup {a:Addr} {xs:List V} (e:H a=some (.tup xs)):TyOf K H (.ref a) (.type "tuple")
 | dK {a:Addr} {kvs:List (Key × V)} (e:H a=some (.dK kvs)):TyOf K H (.ref a) (.type "dict")
 | dT {a:Addr} {kvs:List (List Key × V)} (e:H a=some (.dT kvs)):TyOf K H (.ref a) (.type "dict")
 | ins {a C dx:Addr} {fs:List (Str × V)} (e:H a=some (.ins C dx fs)) (cl:Cls K C) (ha:W.findIn K (.ref C) "__class__"=some (some (.builtin "object.__class__")))
  (hn:W.specialIn K (.builtin "object.__class__") "__get__"=some (some (.builtin "getset_descriptor.__get__"))) (htk:W.takesIn K (.builtin "object.__class__")=some true)
  (hm:W.mroIn K C (.type "object")=some true):TyOf K H (.ref a) (.ref C)
theorem Ytd{x:V}{u t:Value}(I:Inv X pins σ H s)(rx:RelV x u)(ty:TyOf X.K H x t)(e:W.kitOne X.K t c=some b)(h:∀tk,Q (.bool b) { s with toks:=tk }) :
 wpAny (model X.prog X.w) A (call (.builtin "isinstance") [u,c]) Q E s:=by
 cases ty with
 | non=>cases (show u=Value.none from rx);exact W.kia_one W.kitx_none I.kIn True.intro e (fun z=>nomatch z) h
 | bl y=>cases (show u=Value.bool y from rx);exact W.kia_one W.kitx_bool I.kIn True.intro e (fun z=>nomatch z) h
 | int i=>obtain⟨t,q⟩:=(show ∃t,u=Value.int i t from rx);cases q;exact W.kia_one W.kitx_int I.kIn True.intro e (fun z=>nomatch z) h
 | str y=>obtain⟨t,q⟩:=(show ∃t,u=Value.str y t from rx);cases q;exact W.kia_one W.kitx_str I.kIn True.intro e (fun z=>nomatch z) h
 | flt y=>obtain⟨t,q⟩:=(show ∃t,u=Value.float y t from rx);cases q;exact W.kia_one W.kitx_float I.kIn True.intro e (fun z=>nomatch z) h
 | @lst a xs ea=>
   cases (show u=Value.ref a from rx)
   obtain⟨_,_,n,_,h1⟩:=(show ObjOk X.prog X.w H s.heap a (.lst xs) from I.hok a _ ea)
   exact W.kia_one W.kitx_list I.kIn ⟨_,h1,rfl⟩ e (fun z=>nomatch z) h
 | @frz a ob xs ea=>
   cases (show u=Value.ref a from rx)
   obtain⟨_,_,_,n,_,h1⟩:=(show ObjOk X.prog X.w H s.heap a (.frz ob (.lst xs)) from I.hok a _ ea)
   exact W.kia_one W.kitx_list I.kIn ⟨_,h1,rfl⟩ e (fun z=>nomatch z) h
 | @tup a xs ea=>
   cases (show u=Value.ref a from rx)
   obtain⟨_,_,_,p⟩:=(show ObjOk X.prog X.w H s.heap a (.tup xs) from I.hok a _ ea)
   obtain⟨o,h1,h2,_⟩:=p
   exact W.kia_one W.kitx_tuple I.kIn ⟨o,h1,h2⟩ e (fun z=>nomatch z) h
 | @dK a kvs ea=>
   cases (show u=Value.ref a from rx)
   obtain⟨_,_,vs,_,p⟩:=(show ObjOk X.prog X.w H s.heap a (.dK kvs) from I.hok a _ ea)
   obtain⟨o,es,ep,h1,h2,_⟩:=p
   exact W.kia_one W.kitx_dict I.kIn ⟨o,h1,h2.1⟩ e (fun z=>nomatch z) h
 | @dT a kvs ea=>
   cases (show u=Value.ref a from rx)
   obtain⟨_,_,xs,_,o,es,ep,h1,h2,_⟩:=(show ObjOk X.prog X.w H s.heap a (.dT kvs) from I.hok a _ ea)
   exact W.kia_one W.kitx_dict I.kIn ⟨o,h1,h2.1⟩ e (fun z=>nomatch z) h
 | @ins a C dx fs ea cl ha hn htk hm=>
   cases (show u=Value.ref a from rx)
   obtain⟨mA,O,_⟩:=Yl4 I.hok ea
   obtain⟨od,J,_⟩:=O.look
   exact W.kia_one (W.kitx_own (cl.get _) cl.hd ha hn htk hm) I.kIn J e (fun z=>nomatch z) h
end
end L2
namespace L2
open PySem PySem.Spec PyProof.Rows
structure Room(k:Nat)(A:Around):Prop where
 hd:A.handled=none
 dp:A.depth+3 * k+5 < recursionLimit
 un:A.units+16 * k+200 < cLine
theorem Room.mono{j k:Nat}{A:Around}(r:Room k A)(h:j<=k):Room j A:=⟨r.hd,by have:=r.dp;lia,by have:=r.un;lia⟩
theorem Room.deeper{k:Nat}{A:Around}(r:Room (k+1) A)(env:Env):Room k (A.deeper env):=
 ⟨r.hd,by have:=r.dp;show A.depth+1+3 * k+5 < _;lia,by have:=r.un;show A.units+3+16 * k+200 < _;lia⟩
theorem Ysd{A:Around}{C:Addr}{us:List Value}{kw:List (Str × Value)}:(A.under (.builtin "type.__call__" ⟨.ref C::us,kw⟩)).depth=A.depth+1:=by
 first | rfl | simp[Around.under,Code.weight,Code.isCreation,Code.isGuard,Code.isCaller,Code.frames,Code.isFrame,guardIds]
theorem Yse{A:Around}{C:Addr}{us:List Value}{kw:List (Str × Value)}:(A.under (.builtin "type.__call__" ⟨.ref C::us,kw⟩)).units=A.units+1:=by
 first | rfl | simp[Around.under,Code.cUnits,Code.frames,Code.isFrame]
theorem Room.make{k:Nat}{A:Around}(r:Room (k+1) A)(C:Addr)(us:List Value)(kw:List (Str × Value)):Room k (A.under (.builtin "type.__call__" ⟨.ref C::us,kw⟩)):=
 ⟨r.hd,by have:=r.dp;rw[Ysd];lia,by have:=r.un;rw[Yse];lia⟩
theorem Room.depth{k:Nat}{A:Around}(r:Room k A):A.depth < recursionLimit:=by have:=r.dp;lia
theorem Room.units{k:Nat}{A:Around}(r:Room k A):A.units+64 < cLine:=by have:=r.un;lia
def tNil:TA:=fun _ H Q=>Q [] H
def y6x(ta:TE)(tr:TA):TA:=fun σ H Q=>ta σ H fun x H1=>tr σ H1 fun xs H2=>Q (x::xs) H2
section
variable {X:Cx} {e:Expr} {es:List Expr} {te:TE} {t:TA} {pos:Pos}
theorem Yd5:PA X [] tNil:=fun _ _ _ _ H Q I h=>Calls.spliced_nil ⟨[],H,I,.nil,h⟩
theorem Ybb(ha:PE X e te)(hr:PA X es t)(hs:starEach (e::es) X.env=(false,eval e X.env)::starEach es X.env:=by rfl):PA X (e::es) (y6x te t):=by
 intro pos pins s σ H Q I h
 rw[hs]
 show wpAny _ _ (spliced ((false,eval e X.env)::backTo pos (starEach es X.env))) _ _ s
 refine Calls.spliced_cons (thn (ha pins s σ H _ I h) fun u s1 hx_=>?_)
 obtain⟨x,H1,I1,r1,q1⟩:=hx_
 refine thn (hr pos pins s1 σ H1 _ I1 q1) fun us s2 hx_=>?_
 obtain⟨xs,H2,I2,r2,q2⟩:=hx_
 exact⟨x::xs,H2,I2,.cons r1 r2,q2⟩
def tTup(t:TA):TE:=fun σ H Q=>t σ H fun xs H1=>xs.length<=sizeLine/\∀p,H1 p=none->Q (.ref p) (upd H1 p (.tup xs))
def tLst(t:TA):TE:=fun σ H Q=>t σ H fun xs H1=>xs.length<=sizeLine/\∀p,H1 p=none->Q (.ref p) (upd H1 p (.lst xs))
theorem Yzp{x1}(h:PA X es t):PE X (.Tuple es x1 pos) (tTup t):=by
 intro pins s σ H Q I hq
 refine wpAny_Tuple_spliced (thn (h pos pins s σ H _ I hq) fun us s1 ⟨xs,H1,I1,r,z,q⟩=>⟨by rw[<-r.length];exact z,?_⟩)
 have hf:H1 s1.heap.objs.size=none:=I1.hok.fresh (qu _)
 refine⟨.ref s1.heap.objs.size,upd H1 s1.heap.objs.size (.tup xs),I1.laid (t':=s1.toks) (fun b u e=>qe _ e) (qu _) ?_,rfl,q _ hf⟩
 exact⟨z,us,r,⟨_,qp _ rfl,rfl,_,rfl⟩⟩
theorem y3y(h:PA X es t):PE X (.List es pos) (tLst t):=by
 intro pins s σ H Q I hq
 refine wpAny_List_spliced (thn (h pos pins s σ H _ I hq) fun us s1 ⟨xs,H1,I1,r,z,q⟩=>⟨by rw[<-r.length];exact z,?_⟩)
 have hf:H1 s1.heap.objs.size=none:=I1.hok.fresh (qu _)
 refine⟨.ref s1.heap.objs.size,upd H1 s1.heap.objs.size (.lst xs),I1.laid (t':=s1.toks) (fun b u e=>qe _ e) (qu _) ?_,rfl,q _ hf⟩
 exact⟨z,us,0,r,qp _ rfl⟩
end
abbrev Sp:=List V->Hp->VK->XK->Prop
abbrev CXT:=List Env->Hp->Shared->XK->Value->Shared->Prop
structure Env0(P:Program)(w:World)(K:W.Frag)(mg:Str->Option Value)(base:Heap)(A:Around)(outer:List Env)(s:Shared)(H:Hp):Prop where
 frames:A.frames=some outer
 mod:Mod K mg base
 bs:∀b o,base.get? b=some o->s.heap.get? b=some o/\H b=none
 bsz:base.objs.size<=s.heap.objs.size
 funs:s.heap.FunFrames base outer
 frf:∀b∈frs outer,H b=none
 hok:HOk P w H s.heap
 bare:AllBare s.gens
def CE(outer:List Env)(P:Program)(w:World)(H:Hp)(s:Shared)(Q:VK)(u:Value)(s':Shared):Prop:=
 ∃v H',s'.os=s.os/\AllBare s'.gens/\Un (frs outer) [] H H' s.heap s'.heap/\HOk P w H' s'.heap/\RelV v u/\Q v H'
def CR(CX:CXT)(outer:List Env)(P:Program)(w:World)(H:Hp)(s:Shared)(Q:VK)(E:XK)(r:Result)(s':Shared):Prop:=
 match r with
 | .ok (.ret u)=>CE outer P w H s Q u s'
 | .ok _=>False
 | .error e=>CX outer H s E e s'
structure FnOk(P:Program)(w:World)(K:W.Frag)(mg:Str->Option Value)(base:Heap)(CX:CXT)(k:Nat)(f:Addr)(fd:FuncData)(ps:List Str)(sp:Sp):Prop where
 len:∀vs H Q E,sp vs H Q E->vs.length=ps.length
 run:∀(A:Around) (outer:List Env) (s:Shared) (H:Hp) (args:Args) (us:List Value) (vs:List V) (Q:VK) (E:XK),Room k A->Env0 P w K mg base A outer s H->BindsTo s fd args (ps.zip us)->Vals vs us->sp vs H Q E->
  codeAny (model P w) A (.call (.ref f) args) (CR CX outer P w H s Q E) s
theorem FnOk.mono{P:Program}{w:World}{K:W.Frag}{mg:Str->Option Value}{base:Heap}{CX:CXT}{j k:Nat}{f:Addr}{fd:FuncData}{ps:List Str}{sp:Sp}(F:FnOk P w K mg base CX j f fd ps sp)(h:j<=k) :
 FnOk P w K mg base CX k f fd ps sp:=⟨F.len,fun A outer s H args us vs Q E hr=>F.run A outer s H args us vs Q E (hr.mono h)⟩
theorem Env0.make{P:Program}{w:World}{K:W.Frag}{mg:Str->Option Value}{base:Heap}{A:Around}{outer:List Env}{s:Shared}{H:Hp}(e:Env0 P w K mg base A outer s H)(C:Addr)(us:List Value)(kw:List (Str × Value)) :
 Env0 P w K mg base (A.under (.builtin "type.__call__" ⟨.ref C::us,kw⟩)) outer s H:=⟨by first | exact e.frames | (simpa [Around.under,Code.envs,Code.isFrame,pushEnvs]using e.frames),e.mod,e.bs,e.bsz,e.funs,e.frf,e.hok,e.bare⟩
section
variable {X:Cx} {pins:List (Addr × Obj)} {σ:St} {H:Hp} {s s':Shared}
theorem Inv.env0(I:Inv X pins σ H s):Env0 X.prog X.w X.K X.mg X.base X.A X.stack s H:=
 ⟨I.ok.frames,I.ok.mod,I.bs,qy I.ok.bsz I.sz,I.stack,I.stkFree,I.hok,I.bare⟩
theorem Inv.after{Q:VK}{u:Value}(I:Inv X pins σ H s)(h:CE X.stack X.prog X.w H s Q u s'):EP X pins σ Q u s':=by
 obtain⟨v,H',os,bare,un,hok,r,q⟩:=h
 obtain⟨hh,g,d,t,os'⟩:=s'
 obtain rfl:os'=s.os:=os
 exact⟨v,H',I.call (h':=hh) (g':=g) (d':=d) (t':=t) (ch:=[]) un hok bare (fun b z=>absurd z (by simp)),r,q⟩
end
def y6y(sp:Sp)(dvs:List V)(E:XK)(t:TA):TE:=fun σ H Q=>t σ H fun vs H1=>sp (vs++dvs) H1 Q E
def y6z(C:Addr)(m:Str)(sp:Sp)(dvs:List V)(E:XK)(ta:TE)(t:TA):TE:=fun σ H Q=>ta σ H fun x H1=>∃a dx fs,x=.ref a/\H1 a=some (.ins C dx fs)/\fs.lookup m=none/\
 t σ H1 fun vs H2=>sp (x::(vs++dvs)) H2 Q E
def y60(C:Addr)(sp:Sp)(dvs:List V)(E:XK)(t:TA):TE:=fun σ H Q=>t σ H fun vs H1=>∀x dx,H1 x=none->H1 dx=none->dx≠x->
 sp (.ref x::(vs++dvs)) (upd (upd H1 dx (.own x)) x (.ins C dx [])) (fun v H2=>v=.non/\Q (.ref x) H2) E
def Binds(K:W.Frag)(fd:FuncData)(ps:List Str)(ds:List Value):Prop:=
 ∀(s:Shared) (us:List Value),K.In s.heap->(us++ds).length=ps.length->BindsTo s fd ⟨us,[]⟩ (ps.zip (us++ds))
theorem Binds.all{K:W.Frag}{fd:FuncData}{ps:List Str}(h:∀us:List Value,us.length=ps.length->bindArgs fd ⟨us,[]⟩=pure (ps.zip us)):Binds K fd ps []:=fun s us _ hl=>by
 rw[Qf]at hl ⊢
 exact .of_eq (h us hl)
def Yez(CX:CXT)(X:Cx)(E:XK):Prop:=∀(pins:List (Addr × Obj)) (σ:St) (H:Hp) (s:Shared) (e:Value) (s':Shared),Inv X pins σ H s->CX X.stack H s E e s'->X.xe e s'
section
variable {X:Cx} {CX:CXT} {k:Nat} {f C:Addr} {fd:FuncData} {ps:List Str} {sp:Sp} {dvs:List V} {ds:List Value} {E:XK} {x m:Str} {p pos apos:Pos} {e o:Expr} {es:List Expr} {ta:TE} {t:TA}
theorem Yzq{pins:List (Addr × Obj)}{σ:St}{H:Hp}{s:Shared}{Q:VK}{us:List Value}{vs:List V}(F:FnOk X.prog X.w X.K X.mg X.base CX k f fd ps sp)(hr:Room k X.A)(hb:Binds X.K fd ps ds)(hd:Vals dvs ds)(hx:Yez CX X E)
 (I:Inv X pins σ H s) (r:Vals vs us) (h:sp (vs++dvs) H Q E):wpAny (model X.prog X.w) X.A (call (.ref f) us) (EP X pins σ Q) X.xe s:=by
 have r2:Vals (vs++dvs) (us++ds):=r.append hd
 have hl:(us++ds).length=ps.length:=by rw[<-r2.length];exact F.len _ _ _ _ h
 refine wpAny_call (codeAny_mono (F.run X.A X.stack s H ⟨us,[]⟩ (us++ds) (vs++dvs) Q E hr I.env0 (hb s us I.kIn hl) r2 h) fun r s' hq=>?_)
 cases r with
 | error e=>exact hx pins σ H s e s' I hq
 | ok fl=>
   cases fl with
   | ret u=>exact I.after hq
   | next=>exact False.elim hq
   | brk=>exact False.elim hq
   | cont=>exact False.elim hq
theorem Ye7(F:FnOk X.prog X.w X.K X.mg X.base CX k f fd ps sp)(hr:Room k X.A)(hg:Gl X x)(hm:X.mg x=some (.ref f))(hk:W.keepIn X.K (.ref f)=true)(hb:Binds X.K fd ps ds)(hd:Vals dvs ds)(hx:Yez CX X E)
 (ha:PA X (e::es) t) (hdb:(x==("__debug__":Str))=false:=by decide) (he:starEach (e::es) X.env=(false,eval e X.env)::starEach es X.env:=by rfl) (hpl:(backTo pos (starEach es X.env)).any (·.1)=false:=by rfl) :
 PE X (.Call (.Name x p) (e::es) [] pos) (y6y sp dvs E t):=by
 intro pins s σ H Q I h
 refine wpAny_Call_Name_kw (Yd4 I hg hm ?_ hdb)
 refine W.callWith_K (h₀:=X.base) I.ok.mod.kin hk (thn (ha pos pins s σ H _ I h) fun us s1 hx_=>?_) he hpl
 obtain⟨vs,H1,I1,r,q⟩:=hx_
 refine⟨I1.kIn,?_⟩
 exact Yzq F hr hb hd hx I1 r q
theorem Yqi{pl:Sem Bool}(he:PE X o ta)(c:Cls X.K C)(hm:Meth X.K C m f)(F:FnOk X.prog X.w X.K X.mg X.base CX k f fd ps sp)(hr:Room k X.A)(hb:Binds X.K fd ps ds)(hd:Vals dvs ds)(hx:Yez CX X E)
 (ht:eval (.Call (.Attribute o m apos) [] [] pos) X.env=(do
  let ov <-eval o X.env
  standAt apos.atName
  let (f,first) <-holding [ov] (getMethod ov m pl)
  callWith pos f first (backTo pos (starEach [] X.env)) (backToKw pos (keywordEach [] X.env))):=by rfl) :
 PE X (.Call (.Attribute o m apos) [] [] pos) (y6z C m sp dvs E ta tNil):=by
 intro pins s σ H Q I h
 refine W.methodCall_KW (pl:=pl) (thn (he pins s σ H _ I h) fun u s1 hx_=>?_) ht
 obtain⟨x,H1,I1,rx,a,dx,fs,ex,ea,l,q⟩:=hx_
 subst ex
 obtain rfl:u=Value.ref a:=rx
 refine Ysc I1 ea c hm l ?_
 exact W.callWith_K0 (first:=[.ref a]) I1.kIn hm.kp (Yzq (us:=[.ref a]) (vs:=[.ref a]) F hr hb hd hx I1 (.cons rfl .nil) q)
structure Mk(K:W.Frag)(C f:Addr):Prop where
 makes:W.makesIn K C=true
 init:W.findIn K (.ref C) "__init__"=some (some (.ref f))
 fn:W.isFn K (.ref f)=true
 kp:W.keepIn K (.ref C)=true
theorem Yxf{pins:List (Addr × Obj)}{σ:St}{H:Hp}{s:Shared}{Q:VK}{us:List Value}{vs:List V}(M:Mk X.K C f)(F:FnOk X.prog X.w X.K X.mg X.base CX k f fd ps sp)(hr:Room (k+1) X.A)(hb:Binds X.K fd ps ds)(hd:Vals dvs ds)
 (hx:Yez CX X E) (I:Inv X pins σ H s) (r:Vals vs us)
 (h:∀x dx,H x=none->H dx=none->dx≠x->sp (.ref x::(vs++dvs)) (upd (upd H dx (.own x)) x (.ins C dx [])) (fun v H2=>v=.non/\Q (.ref x) H2) E) :
 wpAny (model X.prog X.w) X.A (call (.ref C) us) (EP X pins σ Q) X.xe s:=by
 have hq:=h (s.heap.objs.size+1) s.heap.objs.size (I.hok.fresh (Nat.le_succ _)) (I.hok.fresh (qu _)) (qm (Nat.lt_succ_self _))
 have I2:=Inv.made (C:=C) I
 have r2:Vals (V.ref (s.heap.objs.size+1)::(vs++dvs)) (Value.ref (s.heap.objs.size+1)::(us++ds)):=.cons rfl (r.append hd)
 have hl:(Value.ref (s.heap.objs.size+1)::us++ds).length=ps.length:=by
  have e:=r2.length
  rw[F.len _ _ _ _ hq]at e
  exact e.symm
 refine wpAny_call (Yxe (f:=f) I.kIn M.makes M.init (beq_iff_eq.mp M.fn) (codeAny_mono (F.run _ X.stack _ _ ⟨Value.ref (s.heap.objs.size+1)::us,[]⟩ (Value.ref (s.heap.objs.size+1)::(us++ds)) _ _ E (hr.make C us [])
  (I2.env0.make C us []) (hb _ (Value.ref (s.heap.objs.size+1)::us) I2.kIn hl) r2 hq) fun r s' hq'=>?_))
 cases r with
 | error e=>exact hx pins σ _ _ e s' I2 hq'
 | ok fl=>
   cases fl with
   | ret u=>
     obtain⟨v,H',I3,rv,ev,q3⟩:=I2.after hq'
     subst ev
     exact⟨rv,⟨V.ref (s.heap.objs.size+1),H',I3,rfl,q3⟩⟩
   | next=>exact False.elim hq'
   | brk=>exact False.elim hq'
   | cont=>exact False.elim hq'
theorem Yte(M:Mk X.K C f)(F:FnOk X.prog X.w X.K X.mg X.base CX k f fd ps sp)(hr:Room (k+1) X.A)(hg:Gl X x)(hm:X.mg x=some (.ref C))(hb:Binds X.K fd ps ds)(hd:Vals dvs ds)(hx:Yez CX X E)
 (ha:PA X (e::es) t) (hdb:(x==("__debug__":Str))=false:=by decide) (he:starEach (e::es) X.env=(false,eval e X.env)::starEach es X.env:=by rfl) (hpl:(backTo pos (starEach es X.env)).any (·.1)=false:=by rfl) :
 PE X (.Call (.Name x p) (e::es) [] pos) (y60 C sp dvs E t):=by
 intro pins s σ H Q I h
 refine wpAny_Call_Name_kw (Yd4 I hg hm ?_ hdb)
 refine W.callWith_K (h₀:=X.base) I.ok.mod.kin M.kp (thn (ha pos pins s σ H _ I h) fun us s1 hx_=>?_) he hpl
 obtain⟨vs,H1,I1,r,q⟩:=hx_
 refine⟨I1.kIn,?_⟩
 exact Yxf M F hr hb hd hx I1 r q
end
section
variable {X:Cx} {CX:CXT} {k:Nat} {f C:Addr} {fd:FuncData} {ps ks:List Str} {sp:Sp} {E:XK} {x m:Str} {p pos apos kpos:Pos} {e o:Expr} {es:List Expr} {kws:List Keyword} {te ta:TE} {t tk:TA} {nm:Option Str}
structure KBinds(K:W.Frag)(fd:FuncData)(ps ks:List Str)(g:List Value->List Value->List Value)(gV:List V->List V->List V):Prop where
 to:∀(s:Shared) (us ws:List Value),K.In s.heap->(g us ws).length=ps.length->BindsTo s fd ⟨us,ks.zip ws⟩ (ps.zip (g us ws))
 rel:∀{vs:List V} {us:List Value} {zs:List V} {ws:List Value},Vals vs us->Vals zs ws->Vals (gV vs zs) (g us ws)
variable {g:List Value->List Value->List Value} {gV:List V->List V->List V}
end
structure FnScope(N P:List Str)(sc:Scope):Prop where
 kind:sc.kind=.function
 co:sc.isCoroutine=false
 gen:sc.isGenerator=false
 nd:N.Nodup
 pre:N.take P.length=P
 par:∀x∈P,sc.names.lookup x=some .local\/sc.names.lookup x=some .cell
 nofree:∀y∈sc.names,y.2≠.free
theorem Ynj{kindOf:Str->Option NameKind}{x:Str}:∀{binds:List (Str × Value)} {m:Str->Option Value},(∀v,(x,v)∉binds)->bindL kindOf binds m x=m x
 | [],_,_=>rfl
 | (n,v)::r,m,h=>by
   unfold bindL
   rw[Ynj fun w hw=>h w (qg _ hw)]
   split
   ·have:x≠n:=by rintro rfl;exact h v qh
    simp[this]
   ·rfl
theorem Ynk{kindOf:Str->Option NameKind}{x:Str}:∀{binds:List (Str × Value)} {m:Str->Option Value},(∀v,(x,v)∉binds)->bindC kindOf binds m x=m x
 | [],_,_=>rfl
 | (n,v)::r,m,h=>by
   unfold bindC
   rw[Ynk fun w hw=>h w (qg _ hw)]
   split
   ·rfl
   ·have:x≠n:=by rintro rfl;exact h v qh
    simp[this]
theorem Ynl{kindOf:Str->Option NameKind}{x:Str}{v:Value}:∀{P:List Str} {vs:List Value} {i:Nat} {m:Str->Option Value},P.Nodup->P[i]?=some x->vs[i]?=some v->kindOf x=some .local->
 bindL kindOf (P.zip vs) m x=some v
 | [],_,_,_,_,h,_,_=>by simp at h
 | _::_,[],_,_,_,_,h,_=>by simp at h
 | p::P,w::vs,0,m,nd,h1,h2,hk=>by
   simp at h1 h2;subst h1;subst h2
   show bindL kindOf ((p,w)::P.zip vs) m p=_
   unfold bindL
   rw[Ynj fun v hv=>(List.nodup_cons.mp nd).1 (List.of_mem_zip hv).1,if_pos hk]
   simp
 | p::P,w::vs,i+1,m,nd,h1,h2,hk=>by
   show bindL kindOf ((p,w)::P.zip vs) m x=_
   unfold bindL
   exact Ynl (i:=i) (List.nodup_cons.mp nd).2 (by simpa using h1) (by simpa using h2) hk
theorem Ynm{kindOf:Str->Option NameKind}{x:Str}{v:Value}:∀{P:List Str} {vs:List Value} {i:Nat} {m:Str->Option Value},P.Nodup->P[i]?=some x->vs[i]?=some v->kindOf x≠some .local->
 bindC kindOf (P.zip vs) m x=some v
 | [],_,_,_,_,h,_,_=>by simp at h
 | _::_,[],_,_,_,_,h,_=>by simp at h
 | p::P,w::vs,0,m,nd,h1,h2,hk=>by
   simp at h1 h2;subst h1;subst h2
   show bindC kindOf ((p,w)::P.zip vs) m p=_
   unfold bindC
   rw[Ynk fun v hv=>(List.nodup_cons.mp nd).1 (List.of_mem_zip hv).1,if_neg hk]
   simp
 | p::P,w::vs,i+1,m,nd,h1,h2,hk=>by
   show bindC kindOf ((p,w)::P.zip vs) m x=_
   unfold bindC
   exact Ynm (i:=i) (List.nodup_cons.mp nd).2 (by simpa using h1) (by simpa using h2) hk
def start(N:List Str)(vs:List V):St:=vs.map some++List.replicate (N.length - vs.length) none
def cxOf(CX:CXT)(P:Program)(w:World)(K:W.Frag)(mg:Str->Option Value)(base:Heap)(N:List Str)(qual:Str)(scope:Scope)(f:Addr)(cd:Value)(A:Around)(outer:List Env)(s:Shared)(H:Hp)(E:XK):Cx where
 prog:=P
 w:=w
 K:=K
 mg:=mg
 base:=base
 A:=A.deeper (envOfC qual scope s.heap.objs.size f cd)
 N:=N
 s₀:=s
 H₀:=H
 env:=envOfC qual scope s.heap.objs.size f cd
 outer:=outer
 stack:=envOfC qual scope s.heap.objs.size f cd::outer
 ex:=[]
 calm:=true
 fn:=fun _=>true
 pn:=[]
 xe:=fun e s'=>wpAny (model P w) (A.deeper (envOfC qual scope s.heap.objs.size f cd)) (leaving (envOfC qual scope s.heap.objs.size f cd) e) (fun _ s''=>CX outer H s E e s'') (fun e' s''=>CX outer H s E e' s'') s'
theorem Yqj{sc:Scope}{n:Nat}{x:Str}(h:sc.names.lookup x=some .cell):∃c,(cellsFrom n sc.names []).lookup x=some c:=by
 have q:=PySem.W.cellsFrom_some sc.names n [] (.inl h)
 exact Option.isSome_iff_exists.mp q
theorem Ytf{CX:CXT}{P:Program}{w:World}{K:W.Frag}{mg:Str->Option Value}{base:Heap}{N ps:List Str}{qual:Str}{scope:Scope}{f:Addr}{cd:Value}{A:Around}{outer:List Env}{s s1:Shared}{H:Hp}{E:XK}{us:List Value}{vs:List V}
 (S:FnScope N ps scope) (hd:A.handled=none) (e0:Env0 P w K mg base A outer s H) (hl:vs.length=ps.length) (r:Vals vs us)
 (x:InCallC s s.heap.objs.size (bindL (envOfC qual scope s.heap.objs.size f cd).kindOf (ps.zip us) fun _=>none) (cellsFrom (s.heap.objs.size+1) scope.names []) (bindC (envOfC qual scope s.heap.objs.size f cd).kindOf (ps.zip us) fun _=>none) s1) :
 Inv (cxOf CX P w K mg base N qual scope f cd A outer s H E) [] (start N vs) H s1:=by
 have hpl:ps.length<=N.length:=by have:=congrArg List.length S.pre;rw[List.length_take]at this;lia
 obtain⟨h1,tk,rfl,hk⟩:=x.done
 have noA:∀b:Addr,b∉(cxOf CX P w K mg base N qual scope f cd A outer s H E).ex:=fun b z=>absurd (show b∈([]:List Addr) from z) (by simp)
 refine⟨⟨e0.mod,S.kind,rfl,rfl,qu _,fun y z c h1 h2=>?_,fun y hy=>?_,fun y c _ h=>?_,fun _=>hd,Around.frames_deeper e0.frames,.inr ⟨rfl,rfl⟩,fun b z=>absurd z (noA b),e0.bs,e0.bsz,fun b _ _=>noA b,fun b z=>absurd z (noA b),e0.funs,e0.frf⟩,
  rfl,e0.bare,Un.kept hk,⟨_,x.toInCall.ns,fun i y v h1 h2 h3=>?_⟩,fun y c h=>⟨_,x.cell y c h⟩,e0.hok.fresh (qu _),fun y c h=>?_,fun p hp=>absurd (show p∈([]:List (Addr × Obj)) from hp) (by simp),e0.hok.kept hk,?_⟩
 ·exact name_of_addr x.apart (PySem.mem_of_lookup h1) (PySem.mem_of_lookup h2)
 ·have hy:scope.names.lookup y=some .cell\/scope.names.lookup y=some .free:=hy
  rcases hy with hy | hy
  ·exact Yqj hy
  ·exact absurd rfl (S.nofree _ (PySem.mem_of_lookup hy))
 ·exact Nat.le_of_lt (x.above y c (PySem.mem_of_lookup h))
 ·have hi:i < vs.length:=by
   unfold start at h2
   by_cases hi:i < vs.length
   ·exact hi
   ·rw[List.getElem?_append_right (by simpa using hi)]at h2
    rw[List.getElem?_replicate]at h2
    split at h2<;>cases h2
  have ha:vs[i]?=some v:=by
   unfold start at h2
   rw[List.getElem?_append_left (by simpa using hi),Qa]at h2
   cases e:vs[i]? with
   | none=>rw[e]at h2;cases h2
   | some a=>rw[e]at h2;cases h2;rfl
  obtain⟨u,hu,rv⟩:=r.get ha
  have hp:ps[i]?=some y:=by
   rw[<-S.pre,List.getElem?_take_of_lt (by lia)];exact h1
  have ndP:ps.Nodup:=by rw[<-S.pre];exact S.nd.sublist (List.take_sublist _ _)
  refine⟨u,rv,?_⟩
  rcases S.par y (List.mem_of_getElem? hp)with k | k
  ·exact .inl ⟨k,Ynl ndP hp hu k⟩
  ·obtain⟨c,e⟩:=Yqj (n:=s.heap.objs.size+1) k
   refine .inr ⟨.inl k,c,e,?_⟩
   have q:=x.cell y c e
   rw[Ynm ndP hp hu (by show scope.names.lookup y≠_;rw[k];decide)]at q
   exact q
 ·exact e0.hok.fresh (Nat.le_of_lt (x.above y c (PySem.mem_of_lookup h)))
 ·unfold start
  show _=N.length
  rw[qw,qf,List.length_replicate]
  lia
theorem y02{CX:CXT}{P:Program}{w:World}{K:W.Frag}{mg:Str->Option Value}{base:Heap}{k:Nat}{f:Addr}{name qual:Str}{params:Arguments}{body:List Stmt}{scope:Scope}{dV kV doc pm cdv ct oc:Value}{an od:Option Addr}
 {osl:Array (Option Value)} {N ps:List Str} {sp:Sp} (lk:K.lookup f=some ⟨oc,od,.func (W.fnOf name qual params body scope dV kV doc pm an cdv ct),osl⟩) (hcd:W.codeIn K cdv qual=true) (S:FnScope N ps scope)
 (len:∀vs H Q E,sp vs H Q E->vs.length=ps.length)
 (hbody:∀(A:Around) (outer:List Env) (s:Shared) (H:Hp) (vs:List V) (Q:VK) (E:XK),Room k (A.deeper (envOfC qual scope s.heap.objs.size f cdv))->sp vs H Q E->
  ∃t,PSs (cxOf CX P w K mg base N qual scope f cdv A outer s H E) body t/\t { nx:=fun _ H'=>Q .non H',rt:=Q } (start N vs) H) :
 FnOk P w K mg base CX (k+1) f (W.fnOf name qual params body scope dV kV doc pm an cdv ct) ps sp:=by
 refine⟨len,fun A outer s H args us vs Q E hr e0 hb r hsp=>?_⟩
 have hl:=len _ _ _ _ hsp
 have KX:K.In s.heap:=e0.mod.kin.keeps fun b o e=>(e0.bs b o e).1
 have lim:s.heap.NoLimit:=e0.mod.nolimit.keeps fun b o e=>(e0.bs b o e).1
 have hkind:∀y∈ps.zip us,scope.names.lookup y.1=some .local\/(scope.names.lookup y.1=some .cell/\((cellsFrom (s.heap.objs.size+1) scope.names []).lookup y.1).isSome=true):=fun⟨n,v⟩ hy=>by
  rcases S.par n (List.of_mem_zip hy).1 with q | q
  ·exact .inl q
  ·exact .inr ⟨q,PySem.W.cellsFrom_some _ _ _ (.inl q)⟩
 refine codeAny_call_function hr.depth (KX _ _ lk) rfl S.co S.gen rfl (W.codeRec_of KX hcd) (hb _ _ _ _ ?_)
 refine wpAny_newFunctionEnv_cells S.kind hkind fun env he s1 x=>?_
 subst he
 refine⟨lim.keeps x.toInCall.keep,codeAny_func ?_⟩
 obtain⟨t,ht,hq⟩:=hbody A outer s H vs Q E (hr.deeper _) hsp
 have I:Inv (cxOf CX P w K mg base N qual scope f cdv A outer s H E) [] (start N vs) H s1:=Ytf S hr.hd e0 hl r x
 refine wpAny_mono (ht [] s1 (start N vs) H _ I hq) (fun fl s' hs=>?_) fun e s' hs=>hs
 have fin:∀{σ':St} {H':Hp} {v:V} {u:Value},Inv (cxOf CX P w K mg base N qual scope f cdv A outer s H E) [] σ' H' s'->RelV v u->Q v H'->CE outer P w H s Q u s':=
  fun {σ' H' v u} J rv q=>⟨v,H',J.os,J.bare,J.base,J.hok,rv,q⟩
 cases fl with
 | ret u=>
   obtain⟨v,σ',H',J,rv,q⟩:=hs
   exact fin J rv q
 | next=>
   obtain⟨σ',H',J,q⟩:=hs
   exact fin (v:=V.non) (u:=Value.none) J rfl q
 | brk=>
   obtain⟨_,_,_,q⟩:=hs
   exact False.elim q
 | cont=>
   obtain⟨_,_,_,q⟩:=hs
   exact False.elim q
end L2
namespace L2
open PySem PySem.Spec PyProof.Rows
section
variable {X:Cx} {x:Str} {p pos:Pos} {e:Expr} {es:List Expr} {t:TA} {id T:String} {r:List V->Hp->VK->Prop}
def tCB(r:List V->Hp->VK->Prop)(t:TA):TE:=fun σ H Q=>t σ H fun vs H1=>r vs H1 Q
theorem Yjn(hc:Ye6 X (.builtin id) r)(hg:Gl X x)(hm:X.mg x=none)(hv:bootBuiltins x=some (.builtin id))(ha:PA X (e::es) t)(hn:x≠"__name__":=by decide)(hdb:(x==("__debug__":Str))=false:=by decide)
 (he:starEach (e::es) X.env=(false,eval e X.env)::starEach es X.env:=by rfl) (hpl:(backTo pos (starEach es X.env)).any (·.1)=false:=by rfl):PE X (.Call (.Name x p) (e::es) [] pos) (tCB r t):=by
 intro pins s σ H Q I h
 refine wpAny_Call_Name_kw (Ylj I hg hm hv ?_ hn hdb)
 refine PyProof.Rows.callWith_builtin1 (thn (ha pos pins s σ H _ I h) fun us s1 hx_=>?_) he hpl
 obtain⟨vs,H1,I1,r1,q1⟩:=hx_
 exact hc pins s1 σ H1 vs us Q I1 r1 q1
theorem Yj0(hc:Ye6 X (.type T) r)(hg:Gl X x)(hm:X.mg x=none)(hv:bootBuiltins x=some (.type T))(ha:PA X (e::es) t)(hn:x≠"__name__":=by decide)(hdb:(x==("__debug__":Str))=false:=by decide)
 (he:starEach (e::es) X.env=(false,eval e X.env)::starEach es X.env:=by rfl) (hpl:(backTo pos (starEach es X.env)).any (·.1)=false:=by rfl):PE X (.Call (.Name x p) (e::es) [] pos) (tCB r t):=by
 intro pins s σ H Q I h
 refine wpAny_Call_Name_kw (Ylj I hg hm hv ?_ hn hdb)
 refine PyProof.Rows.callWith_type1 (thn (ha pos pins s σ H _ I h) fun us s1 hx_=>?_) he hpl
 obtain⟨vs,H1,I1,r1,q1⟩:=hx_
 exact hc pins s1 σ H1 vs us Q I1 r1 q1
end
end L2
namespace L2
open PySem PySem.Spec PyProof.Rows
section
variable {κ:Type} [DecidableEq κ]
theorem RelO.isSome_eq{o:Option V}{u:Option Value}(r:RelO o u):o.isSome=u.isSome:=by
 cases o with
 | none=>cases u with
   | none=>rfl
   | some _=>exact(show False from r).elim
 | some _=>cases u with
   | none=>exact(show False from r).elim
   | some _=>rfl
end
def NoSl(i:Expr):Prop:=∀ov iv,subscripted i false ov iv=operate [ov,iv] (getItem ov iv)
theorem Yo0{prog:Program}{w:World}{A:Around}{E:Value->Shared->Prop}{s:Shared}{env:Env}{value slice:Expr}{pos:Pos}{T id:String}{Q:Value->Shared->Prop}
 (hl:typeLookup (.type T) "__getitem__"=pure (some (.builtin id))) (hs:NoSl slice)
 (h:wpAny (model prog w) A (eval value env) (fun o s₁=>wpAny (model prog w) A (eval slice env) (fun i s₂=>s₂.TypeIs o T/\wpAny (model prog w) A (getItem o i) Q E s₂) E s₁) E s) :
 wpAny (model prog w) A (eval (.Subscript value slice pos) env) Q E s:=by
 refine Subscript_ (wpAny_mono h (fun o s₁ h₁=>wpAny_mono h₁ (fun i s₂ h₂=>?_) fun _ _ x=>x) fun _ _ x=>x)
 obtain⟨hT,h₂⟩:=h₂
 unfold subscriptTail
 refine wpAny_bind ?_
 rw[getitemInPython_of_ne hT.not_modules]
 refine wpAny_bind (wpAny_specialOf hT hl ?_)
 have fin:wpAny (model prog w) A (subscripted slice false o i) (fun r s₃=>wpAny (model prog w) A (letTemporaryGo value o r >>= fun _=>pure r) Q E s₃) E s₂:=by
  rw[hs o i]
  exact wpAny_operating (wpAny_mono h₂ (fun r s₃ h₃=>wpAny_bind (wpAny_letTemporaryGo (wpAny_pure h₃))) fun _ _ x=>x)
 first
  | exact wpAny_pure (wpAny_bind fin)
  | exact wpAny_bind (wpAny_pure (wpAny_bind fin))
  | exact wpAny_bind fin
def Yzr:List (TE × TE)->St->Hp->(List (V × V)->Hp->Prop)->Prop
 | [],_,H,Q=>Q [] H
 | (tk,tv)::r,σ,H,Q=>tk σ H fun x H1=>tv σ H1 fun y H2=>Yzr r σ H2 fun ps H3=>Q ((x,y)::ps) H3
abbrev VV:List (V × V)->List (Value × Value)->Prop:=Paired fun p q=>RelV p.1 q.1/\RelV p.2 q.2
def PPs(X:Cx)(pos:Pos)(keys:List (Option Expr))(values:List Expr)(trs:List (TE × TE)):Prop:=
 ∀(pins:List (Addr × Obj)) (s:Shared) (σ:St) (H:Hp) (Q:List (V × V)->Hp->Prop),Inv X pins σ H s->Yzr trs σ H Q->
  wpAny (model X.prog X.w) X.A (evalPairs (pairTrees keys values X.env pos)) (fun vs s'=>∃ps H',Inv X pins σ H' s'/\VV ps vs/\Q ps H') X.xe s
structure M1(X:Cx)(o:Expr)(m:Str)(apos:Pos)(e:Expr)(cpos:Pos):Prop where
 base:attributeBase o m X.env (eval o X.env)=eval o X.env
 few:((backTo cpos (starEach [e] X.env)).all (fun x=>!x.1)&&(backToKw cpos (keywordEach [] X.env)).all (fun x=>x.1.isSome)
  &&decide (([e]:List Expr).length+([]:List Keyword).length+(if ([]:List Keyword).isEmpty then 0 else 1) < 30))=true
 line:(apos.endLine==cpos.line)=true
 trees:backTo cpos (starEach [e] X.env)=[(false,eval e X.env)]
structure M2(X:Cx)(o:Expr)(m:Str)(apos:Pos)(e f:Expr)(cpos:Pos):Prop where
 base:attributeBase o m X.env (eval o X.env)=eval o X.env
 few:((backTo cpos (starEach [e,f] X.env)).all (fun x=>!x.1)&&(backToKw cpos (keywordEach [] X.env)).all (fun x=>x.1.isSome)
  &&decide (([e,f]:List Expr).length+([]:List Keyword).length+(if ([]:List Keyword).isEmpty then 0 else 1) < 30))=true
 line:(apos.endLine==cpos.line)=true
 trees:backTo cpos (starEach [e,f] X.env)=[(false,eval e X.env),(false,eval f X.env)]
end L2
namespace HT
open PySem PyProof.Rows
section
variable {prog:Program} {w:World} {A:Around} {E:Value->Shared->Prop} {s:Shared}
theorem cat_tup{t b:Addr}{vs ws:List Value}{Q:Value->Shared->Prop}(ht:IsTup s.heap t vs.toArray)(hb:IsTup s.heap b ws.toArray)(hv:vs≠[])
 (h1:ws=[]->Q (.ref t) s) (h2:ws≠[]->Q (.ref s.heap.objs.size) { s with heap:=s.heap.push { cls:=.type "tuple",data:=.seq (vs++ws).toArray } })
 (hsz:vs.length+ws.length<=sizeLine):wpAny (model prog w) A (binaryOp .Add (.ref t) (.ref b)) Q E s:=by
 obtain⟨⟨cls,dd,data,sl⟩,ho,hc,n,hd⟩:=id ht
 obtain⟨⟨cls2,dd2,data2,sl2⟩,ho2,hc2,n2,hd2⟩:=id hb
 simp only at hc hd hc2 hd2
 subst hc hd hc2 hd2
 have e:vs.toArray++ws.toArray=(vs++ws).toArray:=by simp
 by_cases hw:ws=[]
 ·exact concat_meets ⟨_,ho,rfl⟩ ⟨_,ho2,rfl⟩ noFill_tuple_add seq_tuple_add PySem.F.slot_tuple_add PySem.F.entry_tuple_add (PySem.F.args_tuple_add_2 _ _)
   (tuple_addW1 t b vs.toArray ws.toArray n n2 dd dd2 sl sl2 (by simpa using hv) (by simp[hw])) ⟨ho,ho2,h1 hw⟩
 ·refine concat_meets ⟨_,ho,rfl⟩ ⟨_,ho2,rfl⟩ noFill_tuple_add seq_tuple_add PySem.F.slot_tuple_add PySem.F.entry_tuple_add (PySem.F.args_tuple_add_2 _ _)
   (tuple_addW2 t b vs.toArray ws.toArray n n2 dd dd2 sl sl2 (by simpa using hv) (by simpa using hw) (by rw[qk,qk];exact hsz)) ⟨ho,ho2,?_⟩
  rw[e]
  exact h2 hw
def sIx(n d:Nat):Option Int->Nat
 | none=>d
 | some v=>if v < 0 then (v+(n:Int)).toNat else min v.toNat n
theorem sIx_none(n d:Nat):sIx n d none=d:=rfl
theorem sIx_nat(n d k:Nat):sIx n d (some (k:Int))=min k n:=by
 show(if (k:Int) < 0 then ((k:Int)+(n:Int)).toNat else min (k:Int).toNat n)=min k n
 rw[if_neg (by lia),Int.toNat_natCast]
end
end HT
namespace L2
open PySem PySem.Spec PyProof.Rows
abbrev TO:=St->Hp->(Option Int->Hp->Prop)->Prop
def PO(X:Cx)(e:Option Expr)(t:TO):Prop:=
 ∀(pins:List (Addr × Obj)) (s:Shared) (σ:St) (H:Hp) (Q:Option Int->Hp->Prop),Inv X pins σ H s->t σ H Q->
  wpAny (model X.prog X.w) X.A (evalPart e X.env) (fun u s'=>∃o H',Inv X pins σ H' s'/\IsPart u o/\Q o H') X.xe s
def Ytg:TO:=fun _ H Q=>Q none H
def y3z(t:TE):TO:=fun σ H Q=>t σ H fun x H1=>∃i,x=.int i/\Q (some i) H1
theorem Ysf{ns:List Int}:∀{us:List Value},Vals (ns.map V.int) us->IntsAre us ns:=by
 induction ns with
 | nil=>intro us r;rw[List.map_nil]at r;cases r;exact .nil
 | cons n ns ih=>
   intro us r
   rw[qz]at r
   cases r with
   | cons r1 r2=>
     obtain⟨t,e⟩:=r1
     subst e
     exact .cons n t (ih r2)
section
variable {X:Cx} {e:Expr} {te:TE} {lo hi:Option Expr} {tl th:TO} {pos p2:Pos}
theorem Yth:PO X none Ytg:=by
 intro pins s σ H Q I h
 rw[evalPart_none]
 exact wpAny_pure ⟨none,H,I,.none,h⟩
theorem Yti(h:PE X e te):PO X (some e) (y3z te):=by
 intro pins s σ H Q I hw
 rw[evalPart_some]
 refine thn (h pins s σ H _ I hw) fun u s1 hx_=>?_
 obtain⟨x,H1,I1,r1,q1⟩:=hx_
 obtain⟨i,rfl,q⟩:=q1
 obtain⟨t,rfl⟩:=r1
 exact⟨some i,H1,I1,.int i t,q⟩
def SlR(X:Cx)(r:V->Option Int->Option Int->Hp->VK->Prop):Prop:=
 ∀(pins:List (Addr × Obj)) (s:Shared) (σ:St) (H:Hp) (x:V) (v vl vu:Value) (lo hi:Option Int) (sl:Addr) (Q:VK),Inv X pins σ H s->RelV x v->s.heap.IsSliceOf sl vl vu .none->IsPart vl lo->IsPart vu hi->r x lo hi H Q->
  ∃T id,typeLookup (.type T) "__getitem__"=pure (some (.builtin id))/\s.TypeIs v T/\wpAny (model X.prog X.w) X.A (getItem v (.ref sl)) (EP X pins σ Q) X.xe s
def tSl(r:V->Option Int->Option Int->Hp->VK->Prop)(te:TE)(tl th:TO):TE:=fun σ H Q=>te σ H fun x H1=>tl σ H1 fun l H2=>th σ H2 fun u H3=>r x l u H3 Q
theorem Yqk{r:V->Option Int->Option Int->Hp->VK->Prop}(hr:SlR X r)(he:PE X e te)(hl:PO X lo tl)(hu:PO X hi th):PE X (.Subscript e (.Slice lo hi none p2) pos) (tSl r te tl th):=by
 intro pins s σ H Q I h
 refine Subscript_ (thn (he pins s σ H _ I h) fun v s1 hx_=>?_)
 obtain⟨x,H1,I1,r1,q1⟩:=hx_
 refine wpAny_Slice (thn (hl pins s1 σ H1 _ I1 q1) fun vl s2 hx_=>?_)
 obtain⟨l,H2,I2,pl,q2⟩:=hx_
 refine thn (hu pins s2 σ H2 _ I2 q2) fun vu s3 hx_=>?_
 obtain⟨u,H3,I3,pu,q3⟩:=hx_
 rw[evalPart_none]
 refine wpAny_pure ?_
 have I4:Inv X pins σ H3 { s3 with heap:=s3.heap.push { cls:=.type "slice",data:=.fields #[vl,vu,.none] } }:=I3.kept (t':=s3.toks) fun b ob q=>qe _ q
 obtain⟨T,id,hT,ht,hg⟩:=hr pins { s3 with heap:=s3.heap.push { cls:=.type "slice",data:=.fields #[vl,vu,.none] } } σ H3 x v vl vu l u s3.heap.objs.size Q I4 r1 (Heap.IsSliceOf.new ..) pl pu q3
 show wpAny (model X.prog X.w) X.A (subscriptTail e (.Slice lo hi none p2) v (.ref s3.heap.objs.size)) (EP X pins σ Q) X.xe { s3 with heap:=s3.heap.push { cls:=.type "slice",data:=.fields #[vl,vu,.none] } }
 exact tail_any (ops:=[.ref s3.heap.objs.size,v]) ht hT hg (by with_unfolding_all rfl)
def cutV(xs:List V)(lo hi:Option Int):List V:=(xs.drop (HT.sIx xs.length 0 lo)).take (HT.sIx xs.length xs.length hi - HT.sIx xs.length 0 lo)
theorem Yo1(xs:List V)(lo hi:Option Int):(cutV xs lo hi).length<=xs.length:=by
 unfold cutV
 rw[List.length_take,List.length_drop]
 lia
def y61(K:W.Frag):R2:=fun x y H Q=>∃a b xs ys,x=.ref a/\y=.ref b/\SqT K H a xs/\SqT K H b ys/\xs≠[]/\xs.length+ys.length<=sizeLine/\
 (ys=[]->Q (.ref a) H)/\(ys≠[]->∀p,H p=none->Q (.ref p) (upd H p (.tup (xs++ys))))
theorem Vals.nil_iff{xs:List V}{us:List Value}(r:Vals xs us):us=[]↔xs=[]:=by
 cases r with
 | nil=>simp
 | cons _ _=>simp
theorem y03:OpR X (binaryOp .Add) (y61 X.K):=by
 intro pins s σ H x y v u Q I rx ry h
 obtain⟨a,b,xs,ys,rfl,rfl,ha,hb,hx,hz,q1,q2⟩:=h
 cases rx
 cases ry
 obtain⟨its,r1,p1,_⟩:=I.tuple ha
 obtain⟨its2,r2,p2,_⟩:=I.tuple hb
 refine HT.cat_tup p1 p2 (fun z=>hx (r1.nil_iff.mp z)) (fun z=>⟨.ref a,H,I,rfl,q1 (r2.nil_iff.mp z)⟩) (fun z=>?_) (by rw[<-r1.length,<-r2.length];exact hz)
 refine⟨.ref s.heap.objs.size,_,I.laid (t':=s.toks) (o:=.tup (xs++ys)) (fun b ob q=>qe _ q) (qu _) ?_,rfl,q2 (fun w=>z (r2.nil_iff.mpr w)) _ (I.hok.fresh (qu _))⟩
 exact⟨by rw[qw];exact hz,_,r1.append r2,IsTup.new _ _⟩
end
end L2
namespace L2
open PySem PySem.Spec PyProof.Rows
def ixN(n:Nat)(i:Int):Option Nat:=if 0<=i then (if i < n then some i.toNat else none)else if -(n:Int)<=i then some (i+n).toNat else none
def atI{α:Type}(xs:List α)(i:Int):Option α:=(ixN xs.length i).bind fun j=>xs[j]?
theorem y04{n:Nat}{i:Int}{j:Nat}(h:ixN n i=some j):seqIndex? i n=some j/\j < n/\-(n:Int)<=i/\i < n:=by
 unfold ixN at h
 by_cases h0:0<=i
 ·rw[if_pos h0]at h
  by_cases h1:i < n
  ·rw[if_pos h1]at h
   have e:i.toNat=j:=Option.some.inj h
   exact⟨by rw[seqIndex_of h0 h1,e],by lia,by lia,h1⟩
  ·rw[if_neg h1]at h;cases h
 ·rw[if_neg h0]at h
  by_cases h1:-(n:Int)<=i
  ·rw[if_pos h1]at h
   have e:(i+n).toNat=j:=Option.some.inj h
   exact⟨by rw[seqIndex_neg (by lia) h1,e],by lia,h1,by lia⟩
  ·rw[if_neg h1]at h;cases h
theorem Yo2{α:Type}{xs:List α}{i:Int}{v:α}(h:atI xs i=some v):∃j,seqIndex? i xs.length=some j/\xs[j]?=some v/\j < xs.length/\-(xs.length:Int)<=i/\i < xs.length:=by
 unfold atI at h
 cases e:ixN xs.length i with
 | none=>rw[e]at h;cases h
 | some j=>
   rw[e]at h
   obtain⟨h1,h2,h3,h4⟩:=y04 e
   exact⟨j,h1,h,h2,h3,h4⟩
theorem Yl5{α:Type}{xs:List α}{j:Nat}{v:α}(h:xs[j]?=some v):atI xs (j:Int)=some v:=by
 have hj:j < xs.length:=(qo h).1
 have e:ixN xs.length (j:Int)=some j:=by
  unfold ixN
  rw[if_pos (by lia),if_pos (by lia)];simp
 unfold atI;rw[e];exact h
def Yis(b:Expr):Prop:=∀o i,subscripted b false o i=operate [o,i] (getItem o i)
def IxR(X:Cx)(r:R2):Prop:=
 ∀(value slice:Expr) (pins:List (Addr × Obj)) (s:Shared) (σ:St) (H:Hp) (x y:V) (v u:Value) (Q:VK),Inv X pins σ H s->RelV x v->RelV y u->r x y H Q->
  subscripted slice false v u=operate [v,u] (getItem v u)->wpAny (model X.prog X.w) X.A (subscriptTail value slice v u) (EP X pins σ Q) X.xe s
def MtR(X:Cx)(id:String)(r:V->List V->Hp->VK->Prop):Prop:=
 ∀(pins:List (Addr × Obj)) (s:Shared) (σ:St) (H:Hp) (x:V) (xs:List V) (v:Value) (us:List Value) (Q:VK),Inv X pins σ H s->RelV x v->Vals xs us->r x xs H Q->
  wpAny (model X.prog X.w) X.A (call (.builtin id) (v::us)) (EP X pins σ Q) X.xe s
section
variable {X:Cx} {a b:Expr} {ta tb:TE} {pos:Pos}
theorem IxR.or{r r':R2}(h:IxR X r)(h':IxR X r'):IxR X (fun x y H Q=>r x y H Q\/r' x y H Q):=by
 intro value slice pins s σ H x y v u Q I rx ry q hs
 rcases q with q | q
 ·exact h value slice pins s σ H x y v u Q I rx ry q hs
 ·exact h' value slice pins s σ H x y v u Q I rx ry q hs
theorem y62{r:R2}(hr:IxR X r)(ha:PE X a ta)(hb:PE X b tb)(hs:Yis b):PE X (.Subscript a b pos) (tOp r ta tb):=by
 intro pins s σ H Q I h
 exact Subscript_ (binT ha hb I h fun v u s2 x y H2 I2 rx ry q=>hr a b pins s2 σ H2 x y v u Q I2 rx ry q (hs _ _))
def rIxL(K:W.Frag):R2:=fun x y H Q=>∃p xs i v,x=.ref p/\y=.int i/\SqL K H p xs/\atI xs i=some v/\Q v H
def rIxT(K:W.Frag):R2:=fun x y H Q=>∃p xs i v,x=.ref p/\y=.int i/\SqT K H p xs/\atI xs i=some v/\Q v H
def rIxS:R2:=fun x y H Q=>∃z i c,x=.str z/\y=.int i/\z.length<=sizeLine/\atI z.cps.toList i=some c/\Q (.str ⟨#[c]⟩) H
theorem ix_list:IxR X (rIxL X.K):=by
 intro value slice pins s σ H x y v u Q I rx ry h hs
 obtain⟨p,xs,i,z,rfl,rfl,hq,he,q⟩:=h
 cases rx
 obtain⟨t,rfl⟩:=ry
 obtain⟨its,r,pl,hz⟩:=I.list hq
 obtain⟨j,h1,h2,h3,h4,h5⟩:=Yo2 he
 obtain⟨w,ew,rw'⟩:=r.get h2
 have hl:=r.length
 have hn:=Ylo
 have fin:EP X pins σ Q w s:=⟨z,H,I,rw',q⟩
 by_cases h0:0<=i
 ·have hj:i.toNat=j:=by
   rw[seqIndex_of h0 h5]at h1
   exact Option.some.inj h1
  exact item_listR pl.isList h0 (by lia) (by rw[hj];simpa using ew) fin hs
 ·have hj:(i+(its.toArray.size:Int)).toNat=j:=by
   rw[seqIndex_neg (by lia) h4]at h1
   rw[qk,<-hl]
   exact Option.some.inj h1
  exact subscriptTail_builtinR (x:=w) pl.isList.typeIs slot_list_getitem.lookup
   (wpAny_getItem_list_neg (Q:=fun r s'=>r=w/\EP X pins σ Q r s') pl.isList (by lia) (by rw[qk]<;>lia) (by lia) (by rw[hj];simpa using ew) ⟨rfl,fin⟩) hs
theorem ix_tup:IxR X (rIxT X.K):=by
 intro value slice pins s σ H x y v u Q I rx ry h hs
 obtain⟨p,xs,i,z,rfl,rfl,hq,he,q⟩:=h
 cases rx
 obtain⟨t,rfl⟩:=ry
 obtain⟨its,r,pl,hz⟩:=I.tuple hq
 obtain⟨j,h1,h2,h3,h4,h5⟩:=Yo2 he
 obtain⟨w,ew,rw'⟩:=r.get h2
 have hl:=r.length
 have hn:=Ylo
 have fin:EP X pins σ Q w s:=⟨z,H,I,rw',q⟩
 exact subscriptTail_builtinR (x:=w) pl.typeIs slot_tuple_getitem.lookup
  (getItem_tuple (j:=j) (Q:=fun r s'=>r=w/\EP X pins σ Q r s') pl (by lia) (by lia) (by rw[qk,<-hl];exact h1) (by simpa using ew) ⟨rfl,fin⟩) hs
theorem Yzs:IxR X rIxS:=by
 intro value slice pins s σ H x y v u Q I rx ry h hs
 obtain⟨z,i,c,rfl,rfl,hz,he,q⟩:=h
 obtain⟨t,rfl⟩:=rx
 obtain⟨t',rfl⟩:=ry
 obtain⟨j,h1,h2,h3,h4,h5⟩:=Yo2 he
 have hl:z.cps.toList.length=z.length:=by simp[Str.length]
 rw[hl]at h1 h4 h5
 have hn:=Ylo
 exact tail_any (typeIs_str s z t) slot_str_getitem.lookup (getItem_str (c:=c) (by
  have e1:decide (i < -(2 ^ 63:Int))=false:=decide_eq_false (by lia)
  have e2:decide (i≥2 ^ 63)=false:=decide_eq_false (by lia)
  rw[e1,e2,Bool.or_false]) (by rw[h1];simpa using h2) ⟨.str ⟨#[c]⟩,H,I.tok _,⟨_,rfl⟩,q⟩) hs
def rIx(K:W.Frag):R2:=fun x y H Q=>rIxL K x y H Q\/rIxT K x y H Q\/rIxS x y H Q
theorem y30:IxR X (rIx X.K):=ix_list.or (ix_tup.or Yzs)
theorem Ynn(lo hi:Option Int)(n:Nat):(sliceBounds lo hi none n).1=((HT.sIx n 0 lo:Nat):Int)/\(sliceBounds lo hi none n).2.1=((HT.sIx n n hi:Nat):Int)/\(sliceBounds lo hi none n).2.2=1:=by
 refine⟨?_,?_,rfl⟩
 ·cases lo with
  | none=>simp[sliceBounds,HT.sIx]
  | some i=>
    simp only[sliceBounds,HT.sIx,Option.getD_none,show(1:Int) > 0 by decide,if_true]
    by_cases h:i < 0
    ·simp only[h,if_true]<;>lia
    ·simp only[h,if_false]<;>lia
 ·cases hi with
  | none=>simp[sliceBounds,HT.sIx]
  | some i=>
    simp only[sliceBounds,HT.sIx,Option.getD_none,show(1:Int) > 0 by decide,if_true]
    by_cases h:i < 0
    ·simp only[h,if_true]<;>lia
    ·simp only[h,if_false]<;>lia
theorem Yl6(its:List Value)(lo hi:Option Int):slicePick its.toArray lo hi none=((its.drop (HT.sIx its.length 0 lo)).take (HT.sIx its.length its.length hi - HT.sIx its.length 0 lo)).toArray:=by
 obtain⟨h1,h2,h3⟩:=Ynn lo hi its.toArray.size
 unfold slicePick
 rw[h1,h2,h3]
 simp only[sliceRange_one,pick_run,qk]<;>rfl
def rSlL(K:W.Frag):V->Option Int->Option Int->Hp->VK->Prop:=fun x lo hi H Q=>∃a xs,x=.ref a/\SqL K H a xs/\∀p,H p=none->Q (.ref p) (upd H p (.lst (cutV xs lo hi)))
theorem y05:SlR X (rSlL X.K):=by
 intro pins s σ H x v vl vu lo hi sl Q I rx hs pl pu h
 obtain⟨a,xs,rfl,hx,q⟩:=h
 cases rx
 obtain⟨its,r,ht,hz⟩:=I.list hx
 have hlen:=r.length
 refine⟨"list",_,slot_list_getitem.lookup,ht.isList.typeIs,?_⟩
 refine wpAny_getItem_list_slice ht.isList hs pl pu .none (by simp) ?_ (by rw[qk]<;>lia)
 rw[Yl6,<-hlen]
 refine⟨.ref s.heap.objs.size,_,I.laid (t':=s.toks) (o:=.lst (cutV xs lo hi)) (fun b ob q=>qe _ q) (qu _) ?_,rfl,q _ (I.hok.fresh (qu _))⟩
 exact⟨qy (Yo1 xs lo hi) hz,_,0,(r.drop (HT.sIx xs.length 0 lo)).take (HT.sIx xs.length xs.length hi - HT.sIx xs.length 0 lo),qp _ rfl⟩
theorem Yb5:Ye6 X (.builtin "len") (fun xs H Q=>∃p ys,xs=[.ref p]/\(SqL X.K H p ys\/SqT X.K H p ys)/\Q (.int ys.length) H):=by
 intro pins s σ H xs us Q I r h
 obtain⟨p,ys,rfl,hq,q⟩:=h
 obtain⟨u,rfl,rx⟩:=Yjk r
 cases rx
 have hn:=Ylo
 rcases hq with hq | hq
 ·obtain⟨its,r',pl,hz⟩:=I.list hq
  have hlen:=r'.length
  exact Calls.call_len_list pl.isList (by simp only[qk]<;>lia) ⟨.int ys.length,H,I.tok _,⟨s.toks+1,by rw[qk,hlen]⟩,q⟩
 ·obtain⟨its,r',pl,hz⟩:=I.tuple hq
  have hlen:=r'.length
  exact len_tuple pl (by simp only[qk]<;>lia) ⟨.int ys.length,H,I.tok _,⟨s.toks+1,by rw[qk,hlen]⟩,q⟩
theorem Yja:Ye6 X (.builtin "len") (fun xs H Q=>∃z,xs=[.str z]/\z.length<=sizeLine/\Q (.int z.length) H):=by
 intro pins s σ H xs us Q I r h
 obtain⟨z,rfl,hz,q⟩:=h
 obtain⟨u,rfl,t,rfl⟩:=Yjk r
 have hn:=Ylo
 exact len_str (by lia) ⟨.int z.length,H,I.tok _,⟨_,rfl⟩,q⟩
theorem Yct:Ye6 X (.type "tuple") (fun xs H Q=>∃p ys,xs=[.ref p]/\((SqL X.K H p ys/\∀l,H l=none->Q (.ref l) (upd H l (.tup ys)))\/(SqT X.K H p ys/\Q (.ref p) H))):=by
 intro pins s σ H xs us Q I r h
 obtain⟨p,ys,rfl,h⟩:=h
 obtain⟨u,rfl,rx⟩:=Yjk r
 cases rx
 rcases h with⟨hq,q⟩ | ⟨hq,q⟩
 ·obtain⟨its,r',pl,hz⟩:=I.list hq
  have hlen:=r'.length
  refine call_tuple_list pl.isList (fun h' kp=>?_) (by simp only[qk]<;>lia)
  have I1:Inv X pins σ H { s with heap:=h' }:=I.kept (t':=s.toks) kp
  have I2:Inv X pins σ (upd H h'.objs.size (.tup ys)) { s with heap:=h'.push { cls:=.type "tuple",data:=.seq its.toArray } }:=
   I1.laid (t':=s.toks) (fun b o e=>qe _ e) (qu _) (show ObjOk X.prog X.w _ _ _ (.tup ys) from⟨hz,its,r',IsTup.new _ _⟩)
  exact⟨.ref h'.objs.size,_,I2,rfl,q _ (I1.hok.fresh (qu _))⟩
 ·obtain⟨its,r',pl,hz⟩:=I.tuple hq
  exact call_tuple_same pl ⟨.ref p,H,I,rfl,q⟩
def tyV(K:W.Frag)(T:String)(x:V)(H:Hp):Prop:=match x with
 | .str _=>T="str"
 | .int _=>T="int"
 | .ref p=>(T="list"/\∃xs,SqL K H p xs)\/(T="tuple"/\∃o,K.lookup p=some o/\o.cls=.type "tuple"/\o.dict=none)\/
  (T="dict"/\((∃kvs,H p=some (.dK kvs))\/∃kvs,H p=some (.dT kvs)))\/(T="set"/\∃S n,H p=some (.set S n))
 | _=>False
theorem Yzt{pins:List (Addr × Obj)}{σ:St}{H:Hp}{s:Shared}{T:String}{x:V}{v:Value}(I:Inv X pins σ H s)(r:RelV x v)(ty:tyV X.K T x H) :
 s.TypeIs v T/\∀a,v=.ref a->∃ob,s.heap.get? a=some ob/\ob.dict=none:=by
 cases x with
 | str z=>
   obtain⟨t,rfl⟩:=r
   cases (show T="str" from ty)
   exact⟨typeIs_str s z t,fun _ e=>nomatch e⟩
 | int i=>
   obtain⟨t,rfl⟩:=r
   cases (show T="int" from ty)
   exact⟨typeIs_int s i t,fun _ e=>nomatch e⟩
 | ref p=>
   cases r
   rcases ty with⟨rfl,xs,hq⟩ | ⟨rfl,o,hk,hc,hd⟩ | ⟨rfl,hk⟩ | ⟨rfl,S,n,hk⟩
   ·obtain⟨its,_,pl,_⟩:=I.list hq
    refine⟨pl.isList.typeIs,fun a e=>?_⟩
    cases e
    obtain⟨o,n,e,c,hd,_⟩:=pl
    exact⟨o,e,hd⟩
   ·refine⟨⟨o,I.kIn p o hk,hc⟩,fun a e=>?_⟩
    cases e
    exact⟨o,I.kIn _ o hk,hd⟩
   ·have z:∃o,s.heap.get? p=some o/\o.ExactDict:=by
     rcases hk with⟨kvs,hk⟩ | ⟨kvs,hk⟩
     ·obtain⟨_,_,_,_,o,_,_,e,ex,_⟩:=I.hok p _ hk
      exact⟨o,e,ex⟩
     ·obtain⟨_,_,_,_,o,_,_,e,ex,_⟩:=I.hok p _ hk
      exact⟨o,e,ex⟩
    obtain⟨o,e,ex⟩:=z
    refine⟨⟨o,e,ex.1⟩,fun a e2=>?_⟩
    cases e2
    exact⟨o,e,ex.2.1⟩
   ·obtain⟨o,_,_,_,e,ex,_⟩:=I.hok p _ hk
    refine⟨⟨o,e,ex.1⟩,fun a e2=>?_⟩
    cases e2
    exact⟨o,e,ex.2.1⟩
 | _=>exact False.elim ty
def tBM0(K:W.Frag)(T:String)(r:V->List V->Hp->VK->Prop)(to:TE):TE:=fun σ H Q=>to σ H fun x H1=>tyV K T x H1/\r x [] H1 Q
def tBM(K:W.Frag)(T:String)(r:V->List V->Hp->VK->Prop)(to:TE)(t:TA):TE:=fun σ H Q=>to σ H fun x H1=>tyV K T x H1/\t σ H1 fun xs H2=>r x xs H2 Q
variable {o e:Expr} {es:List Expr} {to:TE} {t:TA} {name:Str} {apos cpos:Pos} {T id:String} {r:V->List V->Hp->VK->Prop}
theorem y31(pa:PlainAttrs T)(slot:Slot T name id)(hty:typeOf (.builtin id)=pure (.type "method_descriptor"))(hm:MtR X id r)(ho:PE X o to)
 (hbase:attributeBase o name X.env (eval o X.env)=eval o X.env:=by rfl) (hline:(apos.endLine==cpos.line)=true:=by rfl):PE X (.Call (.Attribute o name apos) [] [] cpos) (tBM0 X.K T r to):=by
 intro pins s σ H Q I h
 refine wpAny_Call_method0_late hbase hline (thn (ho pins s σ H _ I h) fun v s1 hx_=>?_)
 obtain⟨x,H1,I1,r1,ty,q1⟩:=hx_
 obtain⟨h1,h2⟩:=Yzt I1 r1 ty
 exact⟨T,id,pa,slot,hty,h1,h2,Calls.callWith_builtin rfl (PySem.evalArgs_none (hm pins s1 σ H1 x [] v [] Q I1 r1 .nil q1))⟩
theorem Ytj(pa:PlainAttrs T)(slot:Slot T name id)(hty:typeOf (.builtin id)=pure (.type "method_descriptor"))(hm:MtR X id r)(ho:PE X o to)(ha:PA X (e::es) t)
 (hbase:attributeBase o name X.env (eval o X.env)=eval o X.env:=by rfl)
 (hfew:((backTo cpos (starEach (e::es) X.env)).all (fun x=>!x.1)&&(backToKw cpos (keywordEach [] X.env)).all (fun x=>x.1.isSome)
  &&decide ((e::es).length+([]:List Keyword).length+(if ([]:List Keyword).isEmpty then 0 else 1) < 30))=true:=by rfl)
 (hline:(apos.endLine==cpos.line)=true:=by rfl) (hs:starEach (e::es) X.env=(false,eval e X.env)::starEach es X.env:=by rfl) (hplain:(backTo cpos (starEach es X.env)).any (·.1)=false:=by rfl) :
 PE X (.Call (.Attribute o name apos) (e::es) [] cpos) (tBM X.K T r to t):=by
 intro pins s σ H Q I h
 refine wpAny_Call_method_late hbase hfew hline rfl (thn (ho pins s σ H _ I h) fun v s1 hx_=>?_)
 obtain⟨x,H1,I1,r1,ty,q1⟩:=hx_
 obtain⟨h1,h2⟩:=Yzt I1 r1 ty
 refine⟨T,id,pa,slot,hty,h1,h2,?_⟩
 have hA:=ha cpos pins s1 σ H1 _ I1 q1
 rw[hs]at hA ⊢
 refine Calls.callWith_builtin (by show(false||(backTo cpos (starEach es X.env)).any (·.1))=false;rw[hplain]<;>rfl) (Calls.evalArgs_plain ?_)
 refine thn hA fun us s2 hx_=>?_
 obtain⟨vs,H2,I2,r2,q2⟩:=hx_
 exact hm pins s2 σ H2 x vs v us Q I2 r1 r2 q2
end
end L2
namespace L2
open PySem PySem.Spec PyProof.Rows
def MtM(X:Cx)(id:String)(r:V->List V->Hp->VK->Prop):Prop:=
 ∀(pins:List (Addr × Obj)) (s:Shared) (σ:St) (H:Hp) (x:V) (xs:List V) (v:Value) (us:List Value) (Q:VK),Inv X pins σ H s->RelV x v->Vals xs us->r x xs H Q->
  wpAny (model X.prog X.w) X.A (call (.builtin id) (v::us)) (EP X pins σ Q) X.xe s
theorem Vals.one:∀{x:V} {us:List Value},Vals [x] us->∃u,us=[u]/\RelV x u
 :=by
  intro x us h
  cases h with
  | cons r t=>
    cases t
    exact⟨_,rfl,r⟩
theorem Vals.zero:∀{us:List Value},Vals [] us->us=[]
 | _,.nil=>rfl
theorem Vals.dropLast{xs:List V}{us:List Value}(h:Vals xs us):Vals xs.dropLast us.dropLast:=by
 induction h with
 | nil=>exact .nil
 | cons r t ih=>
   cases t with
   | nil=>exact .nil
   | cons q t'=>exact .cons r ih
theorem Ysg{α:Type}(l:List α):l.eraseIdx (l.length - 1)=l.dropLast:=by
 induction l with
 | nil=>rfl
 | cons a r ih=>
   cases r with
   | nil=>rfl
   | cons b r=>
     have e:(a::b::r).length - 1=((b::r).length - 1)+1:=by
      have h1:(a::b::r).length=r.length+2:=rfl
      have h2:(b::r).length=r.length+1:=rfl
      lia
     rw[e,List.eraseIdx_cons_succ,ih]
     all_goals rfl
section
variable {X:Cx} {pins:List (Addr × Obj)} {σ:St} {H:Hp} {s:Shared} {l b:Addr} {xs ys zs:List V}
theorem Inv.lset{its its':List Value}{n:Nat}{f:Array Value->Array Value}{t':Nat}(I:Inv X pins σ H s)(hH:H l=some (.lst xs))
 (e:s.heap.get? l=some { cls:=.type "list",data:=.seq its.toArray n }) (hf:f its.toArray=its'.toArray) (hv:Vals ys its') (hz:ys.length<=sizeLine) :
 Inv X pins σ (upd H l (.lst ys)) { s with heap:=s.heap.update l (Obj.mapSeq f),toks:=t' }:=by
 have q:=PySem.IsL.update e f
 rw[hf]at q
 refine I.write (x:=l) (e:=l) (by rw[hH];exact trivial) (.inl rfl) (fun b' u hb hu=>(Heap.get?_update_other s.heap (Obj.mapSeq f) (Ne.symm hb)).trans hu) ⟨_,q⟩ ?_
 exact⟨hz,its',_,hv,q⟩
theorem Inv.lnew{its:List Value}{t':Nat}(I:Inv X pins σ H s)(hv:Vals ys its)(hz:ys.length<=sizeLine) :
 Inv X pins σ (upd H s.heap.objs.size (.lst ys)) { s with heap:=s.heap.push { cls:=.type "list",data:=.seq its.toArray },toks:=t' }:=
 I.laid (fun _ _ q=>qe _ q) (qu _) ⟨hz,its,0,hv,qp _ rfl⟩
theorem Inv.fresh(I:Inv X pins σ H s):H s.heap.objs.size=none:=I.hok.fresh (qu _)
theorem Inv.lstM(I:Inv X pins σ H s)(hH:H l=some (.lst xs)):xs.length<=sizeLine/\∃(its:List Value) (n:Nat),Vals xs its/\xs.length=its.length/\s.heap.get? l=some { cls:=.type "list",data:=.seq its.toArray n }:=by
 obtain⟨z,its,n,r,e⟩:=I.hok l _ hH
 exact⟨z,its,n,r,r.length,e⟩
def y06:V->List V->Hp->VK->Prop:=fun x vs H Q=>∃l xs y,x=.ref l/\vs=[y]/\H l=some (.lst xs)/\xs.length < sizeLine/\Q .non (upd H l (.lst (xs++[y])))
theorem Yft:MtM X "list.append" y06:=by
 intro pins s σ H x vs v us Q I rx rv h
 obtain⟨l,xs,y,rfl,rfl,hH,hz,q⟩:=h
 cases rx
 obtain⟨u,rfl,ru⟩:=rv.one
 obtain⟨z,its,n,r,hl,e⟩:=I.lstM hH
 refine call_meets F.slot_list_append ⟨_,e,rfl⟩ F.entry_list_append (F.args_list_append_2 _ _) (PySem.list_append l its.toArray n u (by rw[qk];lia)) ⟨e,?_⟩
 refine⟨.non,_,I.lset (its':=its++[u]) hH e (by simp) (r.append (.cons ru .nil)) ?_,rfl,q⟩
 rw[qw,List.length_singleton]
 lia
def rPop:V->List V->Hp->VK->Prop:=fun x vs H Q=>∃l xs y,x=.ref l/\vs=[]/\H l=some (.lst xs)/\xs[xs.length - 1]?=some y/\Q y (upd H l (.lst xs.dropLast))
theorem y32:MtM X "list.pop" rPop:=by
 intro pins s σ H x vs v us Q I rx rv h
 obtain⟨l,xs,y,rfl,rfl,hH,hy,q⟩:=h
 cases rx
 have hus:=rv.zero
 subst hus
 obtain⟨z,its,n,r,hl,e⟩:=I.lstM hH
 obtain⟨u,hu,ru⟩:=r.get hy
 have hy':its.toArray[its.toArray.size - 1]?=some u:=by
  show its.toArray[its.length - 1]?=some u
  rw[<-Array.getElem?_toList,<-hl]
  exact hu
 refine call_meets F.slot_list_pop ⟨_,e,rfl⟩ F.entry_list_pop (F.args_list_pop_1 _) (MeetsSeq.list_pop_last l its.toArray n u hy' (by rw[qk];lia)) ⟨e,?_⟩
 refine⟨y,_,I.lset (its':=its.dropLast) hH e ?_ r.dropLast ?_,ru,q⟩
 ·show its.toArray.eraseIdxIfInBounds (its.toArray.size - 1)=its.dropLast.toArray
  rw[qk,List.eraseIdxIfInBounds_toArray,Ysg]
 ·rw[List.length_dropLast]
  lia
end
end L2
namespace Att
open PySem PySem.W PySem.Calls PyProof.Rows
theorem Yj1{P:Params}{h:Heap}:∀(ns:List Int) (vs:List Value),WellAll P h vs (ns.map WData.int)->IntsAre vs ns:=by
 intro ns
 induction ns with
 | nil=>
   intro vs w
   rw[List.map_nil]at w
   cases w
   exact .nil
 | cons n ns ih=>
   intro vs w
   rw[qz]at w
   cases w with
   | cons a b=>
     cases a
     exact .cons _ _ (ih _ b)
theorem Ytk{l:OpenLaw}{n:Nat}(hn:l.most=some n){P:Params}{h:Heap}{args:List WData}{vals:List Value}
 (hpre:l.row.toRowW.claim.pre args=true) (hwl:WellAll P h vals args) :
 ∃a vs ns,vals=[Value.ref a]/\args=[WData.list (ns.map WData.int)]/\h.get? a=some { cls:=.type "list",data:=.seq vs.toArray }/\IntsAre vs ns/\ns.length<=n:=by
 have hsh:WShape.hasAll [] args [.list .int]=true:=(pre_splitW hpre).1
 have hc:l.pre.holds [] { args:=args }=true:=(pre_splitW hpre).2
 obtain⟨d,r,rfl,h1,h2⟩:=hasAllW_cons hsh
 obtain rfl:=hasAllW_nil h2
 obtain⟨xs,rfl,h3⟩:=hasW_list h1
 obtain⟨ns,rfl⟩:=items_int h3
 have hlen:ns.length<=n:=by
  unfold OpenLaw.pre at hc
  have h4:(WTm.not (.lt (.lit (.int (n:Int))) (.len (.arg 0)))).holds [] { args:=[.list (ns.map .int)] }=true:=by
   have h4:=(holds_andW hc).1
   rw[hn]at h4
   exact h4
  have h5:=condW_of h4 (w_not (w_lt w_lit (w_len_list (w_arg rfl))))
  rw[qf]at h5
  refine Nat.le_of_not_lt fun q=>?_
  have q':(n:Int) < ((ns.length:Nat):Int):=by lia
  first
   | (rw[decide_eq_true q']at h5;exact absurd h5 (by decide))
   | (simp at h5;lia)
 cases hwl with
 | cons w1 w2=>
   cases w2
   cases w1 with
   | list ho hall=>exact⟨_,_,ns,rfl,rfl,ho,Yj1 ns _ hall,hlen⟩
theorem Ytl(l:OpenLaw)(args:List WData):l.row.toRowW.claim.post args (.bool true) args=true:=
 postW_of (r:=l.row.toRowW) (X:=(true==true))
  (show WShape.has [] (.bool true) .bool=true by first | rfl | decide | simp[WShape.has,WShape.arms,WShape.armsAll])
  (show(WTm.eq .res (.lit (.bool true))).value [] { args:=args,res:=some (.bool true),after:=args }=some (.bool (true==true)) from w_eq_bool (w_res rfl) w_lit) rfl
theorem attach_call{l:OpenLaw}{n:Nat}{q:Program}{loose:List Str}{XP:(Str->Option Value)->Heap->Prop}{YP:World->Heap->Prop}{d:DefRec}
 (hn:l.most=some n) (hdf:d.params.defaults=[])
 (call:∀(w:World) (s₀ s₁:Shared) (mg mb:Str->Option Value) (fa:Addr) (o:Obj) (pm cd doc:Value) (a:Addr) (vs:List Value) (ns:List Int),
  Ground q loose [] XP w s₀ mg mb s₁.heap->YP w s₁.heap->
  s₁.heap.get? fa=some o->o.data=.func (docDef d.name d.params d.body d.scope pm cd doc)->s₁.heap.CodeRec cd d.name->mg d.name=some (.ref fa)->
  s₁.heap.get? a=some { cls:=.type "list",data:=.seq vs.toArray }->IntsAre vs ns->ns.length<=n->s₁.gens=#[]->
  codeAny (model l.prog w) callerA (.call (.ref fa) ⟨[.ref a],[]⟩) (fun r s'=>r=.ok (.ret (.bool true))/\OldK s₁.heap s'.heap/\s'.os=s₁.os/\AllBare s'.gens) s₁) :
 WalkO q loose XP YP l.row.toRowW d [] (fun f vs=>PySem.call f vs):=by
 intro w s₀ s₁ mg mb G Y fa o pm cd doc dV kV ho hd hcd hD hmg hg args vals as hpre hlay hrd hwl hlo
 obtain rfl:dV=.none:=Dflts.none hD hdf
 obtain rfl:kV=.none:=Dflts.noKw hD
 obtain⟨a,vs,ns,rfl,rfl,hobj,hints,hlen⟩:=Ytk hn hpre hwl
 refine enter_call (codeAny_mono (call w s₀ s₁ mg mb fa o pm cd doc a vs ns G Y ho (fd_plain hd) hcd hmg hobj hints hlen hg) fun r s' hq=>?_)
 obtain⟨rfl,h2,h3,h4⟩:=hq
 exact⟨.inl ⟨.bool true,.bool true,[],rfl,fun _=>rfl,.bool true,Ytl l _,fun _=>⟨List.Pairwise.nil,fun _ hm=>(nomatch hm)⟩⟩,h2,h3,h4⟩
end Att
namespace L2
open PySem PySem.Spec PyProof.Rows
theorem Yno:∀{vs:List Value} {ns:List Int},IntsAre vs ns->Vals (ns.map V.int) vs
 | _,_,.nil=>.nil
 | _,_,.cons n t h=>.cons ⟨t,rfl⟩ (Yno h)
def Only(H:Hp):Prop:=∀b,H b=none\/∃o xs,H b=some (.frz o (.lst xs))
theorem Yxg{P:Program}{w:World}{K:W.Frag}{mg mb:Str->Option Value}{CX:CXT}{k:Nat}{fa a:Addr}{fd:FuncData}{x:Str}{sp:Sp}{s₁:Shared}{vs:List Value}{ns:List Int}
 (KX:K.In s₁.heap) (hns:s₁.heap.Ns mainGlobals mg) (hb:s₁.heap.Ns builtinsNs mb) (hbb:∀x:Str,x≠"__name__"->mb x=bootBuiltins x) (hlim:s₁.heap.NoLimit) (hg:s₁.gens=#[])
 (ha:s₁.heap.get? a=some { cls:=.type "list",data:=.seq vs.toArray }) (hi:IntsAre vs ns) (hl:ns.length<=sizeLine) (hr:Room k callerA)
 (F:∀base:Heap,K.In base->base.Ns mainGlobals mg->FnOk P w K mg base CX k fa fd [x] sp) (hbind:∀(s:Shared) (u:Value),BindsTo s fd ⟨[u],[]⟩ [(x,u)])
 (hsp:∀H:Hp,Only H->SqL K H a (ns.map V.int)->sp [.ref a] H (fun v _=>v=.bl true) fun _ _ _=>False)
 (hCX:∀H e s',CX [] H s₁ (fun _ _ _=>False) e s'->False) :
 codeAny (model P w) callerA (.call (.ref fa) ⟨[.ref a],[]⟩) (fun r s'=>r=.ok (.ret (.bool true))/\OldK s₁.heap s'.heap/\s'.os=s₁.os/\AllBare s'.gens) s₁:=by
 have rv:=Yno hi
 have lenV:=hi.length
 have core:∀H:Hp,Only H->SqL K H a (ns.map V.int)->HOk P w H s₁.heap->(∀b,H b≠none->b=a)->(H a≠none->K.lookup a=none)->
  codeAny (model P w) callerA (.call (.ref fa) ⟨[.ref a],[]⟩) (fun r s'=>r=.ok (.ret (.bool true))/\OldK s₁.heap s'.heap/\s'.os=s₁.os/\AllBare s'.gens) s₁:=by
  intro H hO hS hok hA hK
  have base_of:∀{b:Addr} {o:Obj},s₁.heap.get? b=some o->H b=none->(hidT s₁.heap H).get? b=some o:=fun e n=>Yw3 e n
  have noA:∀{b:Addr} {o:Obj} {es:Array DictEntry} {ep:Nat},s₁.heap.get? b=some o->o.data=.dict es ep->H b=none:=fun {b o es ep} e d=>by
   cases q:H b with
   | none=>rfl
   | some u=>
     have e':b=a:=hA b (by rw[q];simp)
     subst e'
     rw[ha]at e;cases e
     have d':Data.seq vs.toArray _=Data.dict es ep:=d
     cases d'
  have nsK:∀{b:Addr} {m:Str->Option Value},s₁.heap.Ns b m->(hidT s₁.heap H).Ns b m:=fun {b m} ⟨o,es,ep,e,d,r⟩=>⟨o,es,ep,base_of e (noA e d),d,r⟩
  have hKb:K.In (hidT s₁.heap H):=fun b o e=>base_of (KX b o e) (by
   cases q:H b with
   | none=>rfl
   | some u=>
     have e':b=a:=hA b (by rw[q];simp)
     subst e'
     rw[hK (by rw[q];simp)]at e;cases e)
  have hM:Mod K mg (hidT s₁.heap H):=⟨hKb,nsK hns,⟨mb,nsK hb,hbb⟩,let ⟨mc,h1,h2⟩:=hlim;⟨mc,nsK h1,h2⟩⟩
  have e0:Env0 P w K mg (hidT s₁.heap H) callerA [] s₁ H:=⟨rfl,hM,fun b o e=>y0q e,Nat.le_of_eq (Ys1 _ _),trivial,fun b hb=>absurd (show b∈([]:List Addr) from hb) (by simp),hok,.of_eq hg⟩
  refine codeAny_mono ((F _ hKb (nsK hns)).run callerA [] s₁ H ⟨[.ref a],[]⟩ [.ref a] [.ref a] _ _ hr e0 (hbind s₁ (.ref a)) (.cons rfl .nil) (hsp H hO hS)) fun r s' h=>?_
  cases r with
  | error e=>exact(hCX H e s' h).elim
  | ok fl=>
    cases fl with
    | next=>exact False.elim h
    | brk=>exact False.elim h
    | cont=>exact False.elim h
    | ret u=>
      obtain⟨v,H',os,bare,un,hok',r',q⟩:=h
      have q':v=.bl true:=q
      subst q'
      obtain rfl:u=Value.bool true:=r'
      refine⟨rfl,OldK.of_keep fun b o e=>?_,os,bare⟩
      cases q:H b with
      | none=>exact un.keep b o e q (by intro z;exact absurd (show b∈([]:List Addr) from z) (by simp)) (by simp)
      | some u=>
        rcases hO b with z | ⟨ob,xs,z⟩
        ·rw[q]at z;cases z
        ·have z2:=un.frzs b ob _ z
         obtain⟨e1,_⟩:=hok b _ z
         obtain⟨e2,_⟩:=hok' b _ z2
         rw[e]at e1;cases e1
         exact e2
 cases hk:K.lookup a with
 | some o=>
   have e:=KX a o hk
   rw[ha]at e
   cases e
   refine core (fun _=>none) (fun _=>.inl rfl) (.inr ⟨_,vs.toArray,_,hk,rfl,rfl,rfl,by rw[qk,lenV];exact hl,by simpa using rv⟩) (fun b u z=>by have z':(none:Option HO)=some u:=z;cases z') (fun b z=>absurd rfl z) fun z=>absurd rfl z
 | none=>
   refine core (fun b=>if b=a then some (.frz { cls:=.type "list",data:=.seq vs.toArray } (.lst (ns.map V.int)))else none) (fun b=>?_) (.inl (.inr ⟨{ cls:=.type "list",data:=.seq vs.toArray },if_pos rfl⟩)) (fun b u z=>?_) (fun b z=>?_) fun _=>hk
   ·by_cases hb:b=a
    ·exact .inr ⟨_,_,if_pos hb⟩
    ·exact .inl (if_neg hb)
   ·by_cases hb:b=a
    ·have z':=(if_pos hb).symm.trans z
     cases z'
     subst hb
     exact⟨ha,by rw[qf];exact hl,vs,_,rv,ha⟩
    ·have z':=(if_neg hb).symm.trans z
     cases z'
   ·by_cases hb:b=a
    ·exact hb
    ·exact absurd (if_neg hb) z
end L2
namespace L2
open PySem PySem.Spec PyProof.Rows
theorem walk_of{l:W.OpenLaw}{n k:Nat}{q:Program}{loose:List Str}{XP:(Str->Option Value)->Heap->Prop}{YP:World->Heap->Prop}{d:DefRec}{K:Params->W.Frag}{CX:World->CXT}{sp:World->Sp}{x:Str}
 (hn:l.most=some n) (hn2:n<=sizeLine) (hdf:d.params.defaults=[]) (hr:Room k callerA)
 (hY:∀(w:World) (h:Heap),YP w h->(K w.params).In h)
 (F:∀(w:World) (mg:Str->Option Value) (fa:Addr) (h:Heap),(K w.params).In h->h.Ns mainGlobals mg->mg d.name=some (.ref fa)->
  ∃fd:FuncData,(∀(s:Shared) (u:Value),BindsTo s fd ⟨[u],[]⟩ [(x,u)])/\
   ∀base:Heap,(K w.params).In base->base.Ns mainGlobals mg->FnOk l.prog w (K w.params) mg base (CX w) k fa fd [x] (sp w))
 (hsp:∀(w:World) (H:Hp) (a:Addr) (ns:List Int),ns.length<=n->Only H->SqL (K w.params) H a (ns.map V.int)->sp w [.ref a] H (fun v _=>v=.bl true) fun _ _ _=>False)
 (hCX:∀(w:World) (H:Hp) (s:Shared) (e:Value) (s':Shared),CX w [] H s (fun _ _ _=>False) e s'->False) :
 W.WalkO q loose XP YP l.row.toRowW d [] (fun f vs=>PySem.call f vs):=by
 refine Att.attach_call hn hdf fun w s₀ s₁ mg mb fa o pm cd doc a vs ns G Y ho hd hcd hmg hobj hints hlen hg=>?_
 have KX:=hY w _ Y
 obtain⟨fd,hb,hF⟩:=F w mg fa _ KX G.T.g hmg
 exact Yxg KX G.T.g G.T.b G.T.builtins G.T.nolimit hg hobj hints (qy hlen hn2) hr hF hb (fun H hO hS=>hsp w H a ns hlen hO hS) fun H e s'=>hCX w H s₁ e s'
end L2
namespace L2
open PySem PySem.Spec PyProof.Rows
def inClass(s:Stmt)(j:Nat):Stmt:=match s with
 | .ClassDef _ _ _ body _ _ _ _ _ _ _=>body.getD j (.Pass ⟨0,0,0,0⟩)
 | _=>.Pass ⟨0,0,0,0⟩
def defArgs(s:Stmt):Arguments:=match s with
 | .FunctionDef _ a _ _ _ _ _ _ _ _=>a
 | _=>{ posonlyargs:=[],args:=[],vararg:=none,kwonlyargs:=[],kw_defaults:=[],kwarg:=none,defaults:=[] }
def defBody(s:Stmt):List Stmt:=match s with
 | .FunctionDef _ _ b _ _ _ _ _ _ _=>b
 | _=>[]
def defScope(s:Stmt):Scope:=match s with
 | .FunctionDef _ _ _ _ _ _ sc _ _ _=>sc
 | _=>{ kind:=.function,names:=[],isGenerator:=false,isCoroutine:=false }
abbrev CX0:CXT:=fun _ _ _ _ _ _=>False
abbrev E0:XK:=fun _ _ _=>False
theorem Yl7{X:Cx}:Yez CX0 X E0:=fun _ _ _ _ _ _ _ h=>h.elim
structure Fun(K:W.Frag)(x qual:Str)(st:Stmt)(f:Addr)(fd:FuncData):Prop where
 ex:∃(oc:Value) (od:Option Addr) (kV doc pm:Value) (an:Option Addr) (cdv ct:Value) (osl:Array (Option Value)),
  fd=W.fnOf x qual (defArgs st) (defBody st) (defScope st) .none kV doc pm an cdv ct/\K.lookup f=some ⟨oc,od,.func fd,osl⟩/\W.codeIn K cdv qual=true
 kp:W.keepIn K (.ref f)=true
section
variable {P:Program} {w:World} {K:W.Frag} {mg:Str->Option Value} {base:Heap} {X:Cx}
theorem Fun.ok{x qual:Str}{st:Stmt}{f:Addr}{fd:FuncData}{N ps:List Str}{k:Nat}{sp:Sp}(F:Fun K x qual st f fd)(S:FnScope N ps (defScope st))(len:∀vs H Q E,sp vs H Q E->vs.length=ps.length)
 (hbody:∀(cdv:Value) (A:Around) (outer:List Env) (s:Shared) (H:Hp) (vs:List V) (Q:VK) (E:XK),Room k (A.deeper (envOfC qual (defScope st) s.heap.objs.size f cdv))->sp vs H Q E->
  ∃t,PSs (cxOf CX0 P w K mg base N qual (defScope st) f cdv A outer s H E).nox (defBody st) t/\t { nx:=fun _ H'=>Q .non H',rt:=Q } (start N vs) H):FnOk P w K mg base CX0 (k+1) f fd ps sp:=by
 obtain⟨oc,od,kV,doc,pm,an,cdv,ct,osl,rfl,lk,hcd⟩:=F.ex
 refine y02 lk hcd S len fun A outer s H vs Q E hr hsp=>?_
 obtain⟨t,h,q⟩:=hbody cdv A outer s H vs Q E hr hsp
 exact⟨t,h.nox,q⟩
theorem Fun.binds{x qual:Str}{st:Stmt}{f:Addr}{fd:FuncData}{ps:List Str}(F:Fun K x qual st f fd)
 (h:∀(kV doc pm:Value) (an:Option Addr) (cdv ct:Value) (us:List Value),us.length=ps.length->bindArgs (W.fnOf x qual (defArgs st) (defBody st) (defScope st) .none kV doc pm an cdv ct) ⟨us,[]⟩=pure (ps.zip us)):Binds K fd ps []:=by
 obtain⟨oc,od,kV,doc,pm,an,cdv,ct,osl,rfl,lk,hcd⟩:=F.ex
 exact .all (h kV doc pm an cdv ct)
theorem Yql{x qual:Str}{st:Stmt}{f:Addr}{oc:Value}{od an:Option Addr}{osl:Array (Option Value)}{kV doc pm cdv ct:Value}(l:K.lookup f=some ⟨oc,od,.func (W.fnOf x qual (defArgs st) (defBody st) (defScope st) .none kV doc pm an cdv ct),osl⟩)
 (c:W.codeIn K cdv qual=true) (k:W.keepIn K (.ref f)=true):Fun K x qual st f (W.fnOf x qual (defArgs st) (defBody st) (defScope st) .none kV doc pm an cdv ct):=⟨⟨oc,od,kV,doc,pm,an,cdv,ct,osl,rfl,l,c⟩,k⟩
theorem pv(i:Nat){x:Str}{pos:Pos}(hN:X.N[i]?=some x:=by rfl)(hv:Vis X.env.scope x:=by first | exact Or.inl rfl | exact Or.inr (Or.inl rfl) | exact Or.inr (Or.inr rfl))(hd:(x==("__debug__":Str))=false:=by decide)
 (hcd:(x==("__classdict__":Str))=false:=by decide):PE X (.Name x pos) (tVar i):=Yd3 hN hv hd hcd
end
theorem iteF{A B:Prop}(h:B):if false=true then A else B:=by
 rw[if_neg qi]
 exact h
theorem iteT{A B:Prop}(h:A):if true=true then A else B:=by
 rw[if_pos rfl]
 exact h
def Same(H H':Hp):Prop:=∀b o,H b=some o->H' b=some o
theorem Same.refl(H:Hp):Same H H:=fun _ _ h=>h
theorem Same.trans{H H1 H2:Hp}(a:Same H H1)(b:Same H1 H2):Same H H2:=fun c o h=>b c o (a c o h)
theorem Same.free{H H':Hp}(e:Same H H'){l:Addr}(h:H' l=Option.none):H l=Option.none:=by
 cases q:H l with
 | none=>rfl
 | some o=>
   rw[e l o q]at h
   cases h
theorem Same.seq{K:W.Frag}{H H':Hp}{a:Addr}{xs:List V}(e:Same H H')(h:SqL K H a xs):SqL K H' a xs:=by
 rcases h with(h | ⟨o,h⟩) | h
 ·exact .inl (.inl (e _ _ h))
 ·exact .inl (.inr ⟨o,e _ _ h⟩)
 ·exact .inr h
end L2
namespace L2
open PySem PySem.Spec PyProof.Rows
def clOf(env:Env):List (Str × NameKind)->List (Str × Addr)->List (Str × Addr)
 | [],cs=>cs
 | (n,k)::r,cs=>if (k==NameKind.free)=true then (match env.cells.lookup n with | some c=>clOf env r ((n,c)::cs) | none=>clOf env r cs)else clOf env r cs
theorem Yfu{scope:Scope}{env:Env}(h:∀x∈scope.names,x.2=NameKind.free->∃c,env.cells.lookup x.1=some c):closureFor scope env=pure (clOf env scope.names []):=by
 have key:∀(l:List (Str × NameKind)) (cs:List (Str × Addr)),(∀x∈l,x.2=NameKind.free->∃c,env.cells.lookup x.1=some c)->
  (forIn l cs fun(x:Str × NameKind) (r:List (Str × Addr))=>if (x.2==NameKind.free)=true then (do let c <-cellOf env x.1;pure (ForInStep.yield ((x.1,c)::r)))else pure (ForInStep.yield r))=(pure (clOf env l cs):Sem (List (Str × Addr))):=by
  intro l
  induction l with
  | nil=>intro cs _;rfl
  | cons x l ih=>
    intro cs hl
    obtain⟨n,k⟩:=x
    have ht:=fun y hy=>hl y (qg _ hy)
    rw[List.forIn_cons]
    by_cases hk:k=NameKind.free
    ·subst hk
     obtain⟨c,hc⟩:=hl (n,NameKind.free) qh rfl
     have hc':env.cells.lookup n=some c:=hc
     have e1:cellOf env n=pure c:=by unfold cellOf;rw[hc']
     have hff:(NameKind.free==NameKind.free)=true:=rfl
     show(if (NameKind.free==NameKind.free)=true then (do let c <-cellOf env n;pure (ForInStep.yield ((n,c)::cs)))else pure (ForInStep.yield cs)) >>= _=_
     rw[if_pos hff,e1,pure_bind,pure_bind]
     show forIn l ((n,c)::cs) _=_
     rw[ih _ ht]
     show _=pure (if (NameKind.free==NameKind.free)=true then (match env.cells.lookup n with | some c=>clOf env l ((n,c)::cs) | none=>clOf env l cs)else clOf env l cs)
     rw[if_pos hff,hc']
    ·have hb:(k==NameKind.free)=false:=by simpa using hk
     show(if (k==NameKind.free)=true then _ else pure (ForInStep.yield cs)) >>= _=_
     rw[if_neg (by rw[hb];exact qi),pure_bind]
     show forIn l cs _=_
     rw[ih _ ht]
     show _=pure (if (k==NameKind.free)=true then (match env.cells.lookup n with | some c=>clOf env l ((n,c)::cs) | none=>clOf env l cs)else clOf env l cs)
     rw[if_neg (by rw[hb];exact qi)]
 have:=key scope.names [] h
 unfold closureFor
 simpa using this
theorem Yjo{env:Env}:∀(l:List (Str × NameKind)) (cs:List (Str × Addr)),(∀x c,(x,c)∈cs->env.cells.lookup x=some c)->∀x c,(x,c)∈clOf env l cs->env.cells.lookup x=some c
 | [],cs,h,x,c,e=>h x c e
 | (n,k)::r,cs,h,x,c,e=>by
   unfold clOf at e
   split at e
   ·split at e
    ·rename_i d hd
     refine Yjo r _ (fun y b hy=>?_) x c e
     rcases qt hy with q | q
     ·cases q;exact hd
     ·exact h y b q
    ·exact Yjo r cs h x c e
   ·exact Yjo r cs h x c e
theorem Ygd{env:Env}:∀(l:List (Str × NameKind)) (cs:List (Str × Addr)) (p:Str × Addr),p∈cs->p∈clOf env l cs
 | [],_,_,h=>h
 | (n,k)::r,cs,p,h=>by
   unfold clOf
   split
   ·split
    ·exact Ygd r _ p (qg _ h)
    ·exact Ygd r _ p h
   ·exact Ygd r _ p h
theorem Yhu{env:Env}:∀(l:List (Str × NameKind)) (cs:List (Str × Addr)) (x:Str) (c:Addr),(x,NameKind.free)∈l->env.cells.lookup x=some c->(x,c)∈clOf env l cs
 | (n,k)::r,cs,x,c,h,hc=>by
   rcases qt h with q | q
   ·cases q
    unfold clOf
    rw[if_pos (show(NameKind.free==NameKind.free)=true from rfl),hc]
    exact Ygd r _ _ qh
   ·unfold clOf
    split
    ·split
     ·exact Yhu r _ x c q hc
     ·exact Yhu r _ x c q hc
    ·exact Yhu r _ x c q hc
theorem Yhv{x:Str}{c:Addr}{cl:List (Str × Addr)}(h:(x,c)∈cl):∃d,cl.lookup x=some d:=by
 induction cl with
 | nil=>cases h
 | cons p r ih=>
   obtain⟨n,b⟩:=p
   rw[Qe]
   cases e:(x==n)with
   | true=>exact⟨b,rfl⟩
   | false=>
     rcases qt h with q | q
     ·cases q;simp at e
     ·exact ih q
structure CompSc(XN:List Str)(xsc:Scope)(N:List Str)(src:List (Option Nat))(sc:Scope):Prop where
 kind:sc.kind=.function
 xkind:xsc.kind=.function
 cellU:∀y∈sc.names,y.2=NameKind.cell->sc.names.lookup y.1=some NameKind.cell
 names:∀y∈sc.names,y.2=NameKind.local->sc.names.lookup y.1=some NameKind.local
 len:src.length=N.length
 nd:N.Nodup
 cap:∀(i j:Nat) (x:Str),N[i]?=some x->src[i]?=some (some j)->XN[j]?=some x/\sc.names.lookup x=some NameKind.free
 fr:∀y∈sc.names,y.2=NameKind.free->xsc.names.lookup y.1=some NameKind.cell\/xsc.names.lookup y.1=some NameKind.free
def capB(XN:List Str)(sc:Scope):List Str->List (Option Nat)->Bool
 | [],[]=>true
 | x::N,none::src=>capB XN sc N src
 | x::N,some j::src=>decide (XN[j]?=some x)&&decide (sc.names.lookup x=some NameKind.free)&&capB XN sc N src
 | _,_=>false
theorem Yl8{XN:List Str}{sc:Scope}:∀{N:List Str} {src:List (Option Nat)},capB XN sc N src=true->src.length=N.length
 | [],[],_=>rfl
 | _::N,none::src,h=>by
   have:=Yl8 (N:=N) (src:=src) h
   simp[this]
 | _::N,some j::src,h=>by
   replace h:(decide (XN[j]?=some _)&&decide (sc.names.lookup _=some NameKind.free)&&capB XN sc N src)=true:=h
   simp only[qx]at h
   have:=Yl8 (N:=N) (src:=src) h.2
   simp[this]
 | [],_::_,h=>Bool.noConfusion h
 | _::_,[],h=>Bool.noConfusion h
theorem Yl9{XN:List Str}{sc:Scope}:∀{N:List Str} {src:List (Option Nat)},capB XN sc N src=true->∀(i j:Nat) (x:Str),N[i]?=some x->src[i]?=some (some j)->XN[j]?=some x/\sc.names.lookup x=some NameKind.free
 | [],[],_,i,j,x,h,_=>by simp at h
 | _::N,none::src,h,i,j,x,h1,h2=>by
   cases i with
   | zero=>simp at h2
   | succ i=>exact Yl9 (N:=N) (src:=src) h i j x (by simpa using h1) (by simpa using h2)
 | y::N,some k::src,h,i,j,x,h1,h2=>by
   replace h:(decide (XN[k]?=some y)&&decide (sc.names.lookup y=some NameKind.free)&&capB XN sc N src)=true:=h
   simp only[qx,decide_eq_true_eq]at h
   cases i with
   | zero=>
     simp at h1 h2
     subst h1;subst h2
     exact h.1
   | succ i=>exact Yl9 (N:=N) (src:=src) h.2 i j x (by simpa using h1) (by simpa using h2)
 | [],_::_,h,_,_,_,_,_=>Bool.noConfusion h
 | _::_,[],h,_,_,_,_,_=>Bool.noConfusion h
def y33(XN:List Str)(xsc:Scope)(N:List Str)(src:List (Option Nat))(sc:Scope):Bool:=
 decide (sc.kind=.function)&&decide (xsc.kind=.function)&&sc.names.all (fun y=>decide (y.2=NameKind.cell->sc.names.lookup y.1=some NameKind.cell))&&sc.names.all (fun y=>decide (y.2=NameKind.local->sc.names.lookup y.1=some NameKind.local))&&
  decide N.Nodup&&capB XN sc N src&&sc.names.all (fun y=>decide (y.2=NameKind.free->xsc.names.lookup y.1=some NameKind.cell\/xsc.names.lookup y.1=some NameKind.free))
theorem Yfv{XN:List Str}{xsc:Scope}{N:List Str}{src:List (Option Nat)}{sc:Scope}(h:y33 XN xsc N src sc=true):CompSc XN xsc N src sc:=by
 unfold y33 at h
 simp only[qx,decide_eq_true_eq,List.all_eq_true]at h
 obtain⟨⟨⟨⟨⟨⟨h1,h2⟩,h3⟩,h4⟩,h5⟩,h6⟩,h7⟩:=h
 exact⟨h1,h2,h3,h4,Yl8 h6,h5,Yl9 h6,h7⟩
abbrev Yak(X:Cx)(scope:Scope)(N:List Str)(cl:List (Str × Addr))(C:Addr)(fp:List Addr)(s:Shared)(H:Hp):Cx where
 prog:=X.prog
 w:=X.w
 K:=X.K
 mg:=X.mg
 base:=X.base
 A:=X.A
 N:=N
 s₀:=s
 H₀:=H
 env:=compEnvC scope cl C X.env
 outer:=X.stack
 stack:=X.stack
 ex:=fp
 fn:=fun x=>scope.names.lookup x==some NameKind.cell
 calm:=X.calm
 pn:=[]
 xe:=fun _ _=>False
def capσ(src:List (Option Nat))(σ:St):St:=src.map fun o=>o.bind fun j=>(σ[j]?).join
def PIfs(X:Cx)(ifs:List Expr)(t:TT):Prop:=
 ∀(pins:List (Addr × Obj)) (s:Shared) (σ:St) (H:Hp) (Q:Bool->Hp->Prop),Inv X pins σ H s->t σ H Q->
  wpAny (model X.prog X.w) X.A (forIn ifs true fun c r=>if r=true then do let ok <-isTrue c X.env (eval c X.env);pure (ForInStep.yield ok)else pure (ForInStep.yield r)) (TP X pins σ Q) X.xe s
def tYes:TT:=fun _ H Q=>Q true H
theorem y07{X:Cx}:PIfs X [] tYes:=fun _ _ _ H _ I h=>wpAny_tests_nil ⟨H,I,h⟩
def tLC(wi:TI)(src:List (Option Nat))(g:TG)(ti:TT)(te:TE):TE:=fun σ H Q=>wi σ H fun J H1=>∀p,H1 p=none->
 ∃W:Nat->Nat->St->Hp->Prop,(∃m,W 0 m (capσ src σ) (upd H1 p (.lst [])))/\∀i m σ1 H2,W i m σ1 H2->
  (J.stop i H2/\Q (.ref p) H2)\/
  (J.go i H2/\∀x H3,J.yld i H2 x H3->g x σ1 H3 fun σ4 H4=>ti σ4 H4 fun b H5=>if b=true then te σ4 H5 fun v H6=>∃xs,H6 p=some (.lst xs)/\xs.length < sizeLine/\∃m',m' < m/\W (i+1) m' σ4 (upd H6 p (.lst (xs++[v])))else ∃m',m' < m/\W (i+1) m' σ4 H5)
section
variable {prog:Program} {w:World} {A:Around} {R:Result->Shared->Prop} {s:Shared} {X:Cx} {elt tg iter:Expr} {ifs:List Expr} {scope:Scope} {pos:Pos} {wi:TI} {g:TG} {ti:TT} {te:TE} {N:List Str} {src:List (Option Nat)}
theorem Yds{elt target iter:Expr}{ifs:List Expr}{scope:Scope}{pos:Pos}{it acc:Value}{env:Env}(I:Nat->Shared->Prop)
 (turn:∀n s,I n s->wpAny (model prog w) A (pyNext it) (fun r s₁=>match r with
  | none=>R (.ok .next) s₁
  | some v=>wpAny (model prog w) A (letOwnedTupleGo target it v) (fun _ s₁=>wpAny (model prog w) A (assign target env v) (fun _ s₂=>
   wpAny (model prog w) A (forIn ifs true fun c r=>if r=true then do let ok <-isTrue c env (eval c env);pure (ForInStep.yield ok)else pure (ForInStep.yield r)) (fun ok s₃=>
    if ok=true then wpAny (model prog w) A (eval elt env) (fun x s₄=>
     wpAny (model prog w) A (call (.builtin "list.append") [acc,x]) (fun _ s₅=>∃m,m < n/\I m s₅) (notedBy (model prog w) A env fun e s'=>R (.error e) s') s₄) (notedBy (model prog w) A env fun e s'=>R (.error e) s') s₃
    else ∃m,m < n/\I m s₃) (notedBy (model prog w) A env fun e s'=>R (.error e) s') s₂) (notedBy (model prog w) A env fun e s'=>R (.error e) s') s₁) (notedBy (model prog w) A env fun e s'=>R (.error e) s') s₁) (notedBy (model prog w) A env fun e s'=>R (.error e) s') s)
 (n:Nat) (h:I n s) :
 codeAny (model prog w) A (.compLoop (.ListComp elt [⟨target,iter,ifs,0⟩] scope pos) 0 it acc env) R s:=by
 refine codeAny_loop rfl I (fun n s hI=>?_) n h
 show wpAny _ A ((compTurn (.ListComp elt [⟨target,iter,ifs,0⟩] scope pos) 0 it acc env).onRaise (fun x=>do noteFrame x env;theTreesLotGoes x)) _ _ s
 refine wpAny_noted ?_
 rw[compTurn_list]
 refine wpAny_bind (wpAny_standAt (wpAny_bind (wpAny_mono (turn n s hI) (fun r s₁ h₁=>?_) fun _ _ h'=>h')))
 cases r with
 | none=>exact wpAny_pure h₁
 | some v=>
   refine wpAny_bind (wpAny_mono h₁ (fun _ s₁ h₁=>?_) fun _ _ h'=>h')
   refine wpAny_bind (wpAny_mono h₁ (fun _ s₂ h₂=>wpAny_bind (wpAny_mono h₂ (fun ok s₃ h₃=>?_) fun _ _ h'=>h')) fun _ _ h'=>h')
   cases ok with
   | false=>exact wpAny_pure ⟨rfl,h₃⟩
   | true=>
     exact wpAny_bind (wpAny_bind (wpAny_mono h₃ (fun x s₄ h₄=>wpAny_bind (wpAny_mono h₄ (fun _ s₅ h₅=>wpAny_pure (wpAny_pure ⟨rfl,h₅⟩)) fun _ _ h'=>h')) fun _ _ h'=>h'))
theorem Yg3{scope:Scope}{env:Env}{x:Str}(h:scope.names.lookup x=some NameKind.free)(hk:env.kindOf x=some NameKind.cell\/env.kindOf x=some NameKind.free) :
 (relabel scope env).names.lookup x=some NameKind.cell\/(relabel scope env).names.lookup x=some NameKind.free:=by
 unfold relabel
 show List.lookup x (scope.names.map _)=_\/List.lookup x (scope.names.map _)=_
 generalize scope.names=l at h
 induction l with
 | nil=>cases h
 | cons p r ih=>
   obtain⟨n,k⟩:=p
   rw[Qe]at h
   rw[qz]
   cases e:(x==n)with
   | true=>
     rw[e]at h
     cases h
     by_cases hc:(NameKind.free==NameKind.free&&env.scope.kind==ScopeKind.function&&env.kindOf n==some NameKind.cell)=true
     ·left;simp only[hc,if_true];rw[Qe,e]
     ·right;simp only[hc];rw[if_neg qi,Qe,e]
   | false=>
     rw[e]at h
     have q:=ih h
     by_cases hc:(k==NameKind.free&&env.scope.kind==ScopeKind.function&&env.kindOf n==some NameKind.cell)=true
     ·simp only[hc,if_true];rw[Qe,e];exact q
     ·simp only[hc];rw[if_neg qi,Qe,e];exact q
theorem Yj2{scope:Scope}{env:Env}{x:Str}(h:(relabel scope env).names.lookup x=some NameKind.cell\/(relabel scope env).names.lookup x=some NameKind.free) :
 (x,NameKind.free)∈scope.names\/(x,NameKind.cell)∈scope.names:=by
 unfold relabel at h
 change List.lookup x (scope.names.map _)=_\/List.lookup x (scope.names.map _)=_ at h
 revert h
 generalize scope.names=l
 intro h
 induction l with
 | nil=>rcases h with h | h<;>cases h
 | cons p r ih=>
   obtain⟨n,k⟩:=p
   rw[qz]at h
   have hr:=fun z=>ih z
   cases e:(x==n)with
   | true=>
     have en:x=n:=by simpa using e
     subst en
     by_cases hk:k=NameKind.free
     ·subst hk;exact .inl qh
     ·have hb:(k==NameKind.free)=false:=by simpa using hk
      simp only[hb,Bool.false_and,Bool.false_eq_true,if_false]at h
      rw[Qe,e]at h
      rcases h with h | h
      ·cases h;exact .inr qh
      ·cases h;exact absurd rfl hk
   | false=>
     refine(hr ?_).imp (qg _) (qg _)
     by_cases hk:(k==NameKind.free&&env.scope.kind==ScopeKind.function&&env.kindOf n==some NameKind.cell)=true
     ·simp only[hk,if_true]at h;rw[Qe,e]at h;exact h
     ·simp only[hk]at h;rw[if_neg qi,Qe,e]at h;exact h
theorem Ycu:∀(names:List (Str × NameKind)) (n:Nat) (acc:List (Str × Addr)),cellsFrom n names acc=cellsFrom n names []++acc
 | [],_,_=>rfl
 | (x,k)::r,n,acc=>by
   unfold cellsFrom
   split
   ·rw[Ycu r (n+1) ((x,n)::acc),Ycu r (n+1) [(x,n)],Qc];rfl
   ·exact Ycu r n acc
theorem Ydu:∀(names:List (Str × NameKind)) (n:Nat) (x:Str) (c:Addr),(x,c)∈cellsFrom n names []->(x,NameKind.cell)∈names
 | [],_,_,_,h=>(nomatch h)
 | (y,k)::r,n,x,c,h=>by
   unfold cellsFrom at h
   split at h
   ·rename_i hk
    rw[Ycu]at h
    rcases qv h with h | h
    ·exact qg _ (Ydu r _ x c h)
    ·rw[List.mem_singleton]at h
     cases h
     have:k=NameKind.cell:=by simpa using hk
     rw[this];exact qh
   ·exact qg _ (Ydu r n x c h)
theorem Yit{own cl:List (Str × Addr)}{x:Str}:(own++cl).lookup x=(own.lookup x).or (cl.lookup x):=by
 induction own with
 | nil=>rfl
 | cons p r ih=>
   obtain⟨y,b⟩:=p
   rw[Qg,Qe,Qe]
   cases (x==y)with
   | true=>rfl
   | false=>exact ih
theorem Ybs{own cl:List (Str × Addr)}{x:Str}{c:Addr}(h:(own++cl).lookup x=some c):own.lookup x=some c\/(own.lookup x=none/\cl.lookup x=some c):=by
 rw[Yit]at h
 cases e:own.lookup x with
 | none=>rw[e]at h;exact .inr ⟨rfl,h⟩
 | some d=>rw[e]at h;exact .inl h
theorem Yj3{M:Model}{A:Around}{E:Value->Shared->Prop}{scope:Scope}{globals:Addr}{cl:List (Str × Addr)}{qual:Str}{outer:Env}{Q:Env->Shared->Prop}{s:Shared}{bt:Addr}
 (h:Q (newEnv scope s.heap.objs.size globals (cellsFrom (s.heap.objs.size+1) scope.names []++cl) qual none .none (some outer) bt) { s with heap:=pushCells (s.heap.push { cls:=.type "dict",data:=.dict #[] }) scope.names }) :
 wpAny M A (newFunctionEnv scope globals cl [] qual none .none (some outer) bt) Q E s:=by
 simp only[newFunctionEnv,Option.isSome_some,if_true]
 refine wpAny_bind (wpAny_alloc ?_)
 refine wpAny_bind (wpAny_layCells _ (fun name kind cells=>by cases hkc:kind==NameKind.cell<;>simp[hkc]) _ _ _ _ ?_)
 rw[show({ s with heap:=s.heap.push { cls:=.type "dict",data:=.dict #[] } }:Shared).heap.objs.size=s.heap.objs.size+1 from Heap.size_push ..,Ycu]
 rw[List.forIn_nil]
 exact wpAny_bind (wpAny_pure (wpAny_pure h))
theorem Ylr{pins:List (Addr × Obj)}{σ:St}{H:Hp}{s:Shared}{fp:List Addr}{h₁:Heap}{tk:Nat}{own:List (Str × Addr)}(S:CompSc X.N X.env.scope N src scope)(I:Inv X pins σ H s)(hf:∀b∈fp,FpOk X pins H b)(ho:∀b∈fp,∃o,s.heap.get? b=some o)
 (hn:h₁.Ns s.heap.objs.size fun _=>none) (hk:∀b o,s.heap.get? b=some o->h₁.get? b=some o) (hc:CellsOk h₁ (s.heap.objs.size+1) own) (ow:∀x c,(x,c)∈own->(x,NameKind.cell)∈scope.names) (has:∀x,scope.names.lookup x=some NameKind.cell->∃c,own.lookup x=some c) :
 Inv (Yak X scope N (own++clOf X.env scope.names []) s.heap.objs.size fp s H) [] (capσ src σ) H { s with heap:=h₁,toks:=tk }:=by
 have sub:∀x c,(clOf X.env scope.names []).lookup x=some c->X.env.cells.lookup x=some c:=fun x c e=>Yjo scope.names [] (fun _ _ z=>nomatch z) x c (PySem.mem_of_lookup e)
 have clt:∀x c,(clOf X.env scope.names []).lookup x=some c->c < s.heap.objs.size:=fun x c e=>by
  obtain⟨v,q⟩:=I.cell x c (sub x c e)
  exact q.lt
 have owl:∀x c,own.lookup x=some c->s.heap.objs.size < c:=fun x c e=>(hc.empty x c (PySem.mem_of_lookup e)).2
 have nofree:∀x,scope.names.lookup x=some NameKind.free->own.lookup x=none:=fun x hx=>by
  cases e:own.lookup x with
  | none=>rfl
  | some c=>
    have:=S.cellU _ (ow x c (PySem.mem_of_lookup e)) rfl
    rw[hx]at this
    cases this
 have fpl:∀b∈fp,b < s.heap.objs.size:=fun b hb=>by
  obtain⟨o,e⟩:=ho b hb
  exact ql e
 have nfs:∀b∈fp,b∉frs X.stack:=fun b hb z=>by
  rcases qt (I.stkSub b z)with e | e
  ·exact(hf b hb).2.1 e
  ·exact(hf b hb).2.2.1 e
 refine⟨⟨I.ok.mod,S.kind,I.ok.glob,I.ok.blt,qu _,fun x y c h1 h2=>?_,fun x hx=>?_,fun x c z e=>?_,I.ok.hd,I.ok.frames,.inl rfl,fun b hb=>⟨qm (fpl b hb),fun x c e=>?_⟩,
  I.bs,qy I.ok.bsz I.sz,fun b o e hb=>?_,nfs,I.stack,I.stkFree⟩,rfl,I.bare,Un.kept hk,⟨_,hn,fun i x v h1 h2 h3=>?_⟩,fun x c e=>?_,I.fresh,fun x c e=>?_,fun p hp=>(nomatch hp),I.hok.kept hk,?_⟩
 ·rcases Ybs h1 with h1 | ⟨_,h1⟩
  ·rcases Ybs h2 with h2 | ⟨_,h2⟩
   ·exact name_of_addr hc.apart (PySem.mem_of_lookup h1) (PySem.mem_of_lookup h2)
   ·exact absurd (Nat.lt_trans (owl x c h1) (clt y c h2)) (Nat.lt_irrefl _)
  ·rcases Ybs h2 with h2 | ⟨_,h2⟩
   ·exact absurd (Nat.lt_trans (owl y c h2) (clt x c h1)) (Nat.lt_irrefl _)
   ·exact I.ok.inj x y c (sub x c h1) (sub y c h2)
 ·show ∃c,(own++clOf X.env scope.names []).lookup x=some c
  rw[Yit]
  cases e:own.lookup x with
  | some c=>exact⟨c,rfl⟩
  | none=>
    rcases Yj2 hx with hm | hm
    ·obtain⟨c,hc⟩:=I.ok.has x (S.fr _ hm rfl)
     exact Yhv (Yhu scope.names [] x c hm hc)
    ·obtain⟨c,hc⟩:=has x (S.cellU _ hm rfl)
     rw[e]at hc
     cases hc
 ·have z':scope.names.lookup x=some NameKind.cell:=by simpa using z
  obtain⟨d,hd⟩:=has x z'
  rcases Ybs e with e | ⟨e,_⟩
  ·exact Nat.le_of_lt (owl x c e)
  ·rw[hd]at e;cases e
 ·rcases Ybs e with e | ⟨_,e⟩
  ·exact Nat.ne_of_gt (Nat.lt_trans (fpl b hb) (owl x c e))
  ·exact(hf b hb).2.2.2.2.1 x c (sub x c e)
 ·rcases(hf b hb).2.2.2.1 with z | z
  ·exact I.ok.noex b o e z
  ·exact absurd (Qd (ql e) (qy I.ok.bsz z)) (Nat.lt_irrefl _)
 ·have hi:i < src.length:=by
   have:=(qo h2).1
   unfold capσ at this
   simpa using this
  have hs:src[i]?=some src[i]:=qr hi
  unfold capσ at h2
  rw[Qa,hs]at h2
  have h2':(src[i].bind fun j=>(σ[j]?).join)=some v:=Option.some.inj h2
  cases q:src[i]with
  | none=>rw[q]at h2';cases h2'
  | some j=>
    rw[q]at h2' hs
    have h2'':(σ[j]?).join=some v:=h2'
    obtain⟨hx,hfr⟩:=S.cap i j x h1 hs
    obtain⟨m,_,hl⟩:=I.loc
    have hk2:X.env.kindOf x=some NameKind.cell\/X.env.kindOf x=some NameKind.free:=S.fr (x,NameKind.free) (PySem.mem_of_lookup hfr) rfl
    have hσ:σ[j]?=some (some v):=by
     cases z:σ[j]? with
     | none=>rw[z]at h2'';cases h2''
     | some o=>
       rw[z]at h2''
       have:o=some v:=h2''
       rw[this]
    obtain⟨u,r,l⟩:=hl j x v hx hσ (.inr hk2)
    refine⟨u,r,.inr ⟨Yg3 hfr hk2,?_⟩⟩
    rcases l with⟨z,_⟩ | ⟨_,c,hc,hcell⟩
    ·rcases hk2 with q2 | q2
     ·rw[q2]at z;cases z
     ·rw[q2]at z;cases z
    ·obtain⟨d,hd⟩:=Yhv (Yhu (env:=X.env) scope.names [] x c (PySem.mem_of_lookup hfr) hc)
     have e2:=sub x d hd
     rw[hc]at e2
     cases e2
     refine⟨c,?_,hcell.keeps hk⟩
     show(own++clOf X.env scope.names []).lookup x=some c
     rw[Yit,nofree x hfr]
     exact hd
 ·rcases Ybs e with e | ⟨_,e⟩
  ·exact⟨_,(hc.empty x c (PySem.mem_of_lookup e)).1⟩
  ·obtain⟨v,q⟩:=I.cell x c (sub x c e)
   exact⟨v,q.keeps hk⟩
 ·rcases Ybs e with e | ⟨_,e⟩
  ·exact I.hok.fresh (Nat.le_of_lt (owl x c e))
  ·exact I.freeC x c (sub x c e)
 ·unfold capσ
  rw[qf]
  exact S.len
theorem Yma{pins:List (Addr × Obj)}{σ σ1:St}{H H':Hp}{s s':Shared}{fp:List Addr}{cl:List (Str × Addr)}{C:Addr}{pn:List (Addr × Obj)}(I:Inv X pins σ H s)(hf:∀b∈fp,FpOk X pins H b)(J:Inv (Yak X scope N cl C fp s H) pn σ1 H' s'):Inv X pins σ H' s':=
 I.call' J.os J.base J.hok J.bare fun b hb=>⟨(hf b hb).2.2.2.1,(hf b hb).2.1,(hf b hb).2.2.2.2.1,(hf b hb).2.2.2.2.2⟩
theorem Ytm{pins:List (Addr × Obj)}{σ:St}{H:Hp}{s:Shared}{Q:VK}{it:Addr}{fp:List Addr}{tn:Nat->Heap->Prop}{J:It}{R:Value->Addr->Result->Shared->Prop}{E:Value->Shared->Prop}
 (S:CompSc X.N X.env.scope N src scope) (hc:X.calm=true) (hg:∀cl C fp s H,PG (Yak X scope N cl C fp s H) tg g) (hi:∀cl C fp s H,PIfs (Yak X scope N cl C fp s H) ifs ti) (he:∀cl C fp s H,PE (Yak X scope N cl C fp s H) elt te)
 (I:Inv X pins σ H s) (T:Turn X.prog X.w X.K tg J fp it tn) (st:tn 0 s.heap) (hf:∀b∈fp,FpOk X pins H b)
 (h:∀p,H p=none->∃W:Nat->Nat->St->Hp->Prop,(∃m,W 0 m (capσ src σ) (upd H p (.lst [])))/\∀i m σ1 H2,W i m σ1 H2->
  (J.stop i H2/\Q (.ref p) H2)\/
  (J.go i H2/\∀x H3,J.yld i H2 x H3->g x σ1 H3 fun σ4 H4=>ti σ4 H4 fun b H5=>if b=true then te σ4 H5 fun v H6=>∃xs,H6 p=some (.lst xs)/\xs.length < sizeLine/\∃m',m' < m/\W (i+1) m' σ4 (upd H6 p (.lst (xs++[v])))else ∃m',m' < m/\W (i+1) m' σ4 H5))
 (hR:∀(D C:Addr) (s':Shared) (H':Hp) (m:Str->Option Value),Inv X pins σ H' s'->s'.heap.Ns C m->H' C=none->C≠X.env.locals->X.s₀.heap.objs.size<=C->(∀x c,X.env.cells.lookup x=some c->c≠C)->(∀p∈X.pn++pins,p.1≠C)->Q (.ref D) H'->R (.ref D) C (.ok .next) s') :
 wpAny (model X.prog X.w) X.A (newList []) (fun acc s₃=>wpAny (model X.prog X.w) X.A (newFunctionEnv scope X.env.globals (clOf X.env scope.names []) [] X.env.qual none .none (some X.env)) (fun cenv s₄=>
  codeAny (model X.prog X.w) X.A (.compStart (.ListComp elt [⟨tg,iter,ifs,0⟩] scope pos) 0 (.ref it) acc { cenv with scope:=relabel scope X.env }) (R acc cenv.locals) s₄) E s₃) E s:=by
 refine wpAny_newObj_type (Yj3 ?_)
 have hfree:H s.heap.objs.size=none:=I.fresh
 obtain⟨W,⟨m0,w0⟩,turn⟩:=h s.heap.objs.size hfree
 have I3:Inv X pins σ (upd H s.heap.objs.size (.lst [])) { s with heap:=s.heap.push { cls:=.type "list",dict:=none,data:=.seq ([]:List Value).toArray },toks:=s.toks }:=I.lnew (ys:=[]) (its:=[]) .nil (Nat.zero_le _)
 generalize hD:s.heap.objs.size=Dd at *
 generalize hH3:upd H Dd (.lst [])=H3 at *
 have kp0:∀b o,s.heap.get? b=some o->(s.heap.push { cls:=.type "list",dict:=none,data:=.seq ([]:List Value).toArray }).get? b=some o:=fun b o e=>qe _ e
 have lt0:∀b o,s.heap.get? b=some o->b≠Dd:=fun b o e=>by rw[<-hD];exact qm (ql e)
 generalize hs3:s.heap.push { cls:=.type "list",dict:=none,data:=.seq ([]:List Value).toArray }=hp3 at *
 have f3:∀b∈fp,FpOk X pins H3 b:=fun b hb=>by
  obtain⟨o,e,_⟩:=T.obj _ _ st b hb
  refine⟨?_,(hf b hb).2⟩
  rw[<-hH3,Yn (lt0 b o e)]
  exact(hf b hb).1
 have ob3:∀b∈fp,∃o,hp3.get? b=some o:=fun b hb=>by
  obtain⟨o,e,_⟩:=T.obj _ _ st b hb
  exact⟨o,kp0 b o e⟩
 dsimp only
 have hns₁:(pushCells (hp3.push { cls:=.type "dict",data:=.dict #[] }) scope.names).Ns hp3.objs.size (fun _=>none):=(Heap.Ns.new hp3 (.type "dict")).keeps (pushCells_keeps _ _)
 have old:∀b o,hp3.get? b=some o->(pushCells (hp3.push { cls:=.type "dict",data:=.dict #[] }) scope.names).get? b=some o:=fun b o e=>pushCells_keeps _ _ b o (qe _ e)
 have cok:=cellsFrom_ok scope.names (hp3.push { cls:=.type "dict",data:=.dict #[] }) (hp3.objs.size+1) [] ⟨fun _ _ hm=>(nomatch hm),List.Pairwise.nil⟩ (by rw[Heap.size_push];exact qu _)
 rw[Heap.size_push]at cok
 have chas:∀x,scope.names.lookup x=some NameKind.cell->∃c,(cellsFrom (hp3.objs.size+1) scope.names []).lookup x=some c:=fun x hx=>Option.isSome_iff_exists.mp (PySem.W.cellsFrom_some _ _ _ (.inl hx))
 have cmem:∀x c,(x,c)∈cellsFrom (hp3.objs.size+1) scope.names []->(x,NameKind.cell)∈scope.names:=fun x c h=>Ydu _ _ x c h
 generalize cellsFrom (hp3.objs.size+1) scope.names []=own at *
 generalize pushCells (hp3.push { cls:=.type "dict",data:=.dict #[] }) scope.names=h₁ at *
 have I4:Inv (Yak X scope N (own++clOf X.env scope.names []) hp3.objs.size fp { s with heap:=hp3,toks:=s.toks } H3) [] (capσ src σ) H3 { s with heap:=h₁,toks:=s.toks }:=
  Ylr (s:={ s with heap:=hp3,toks:=s.toks }) (tk:=s.toks) S I3 f3 ob3 hns₁ old cok cmem chas
 have st4:tn 0 h₁:=T.keep _ _ _ st fun b _ o e=>old b o (kp0 b o e)
 have hCl:hp3.objs.size≠X.env.locals:=Nat.ne_of_gt I3.lt
 have hCc:∀x c,X.env.cells.lookup x=some c->c≠hp3.objs.size:=fun x c e=>by
  obtain⟨v,q⟩:=I3.cell x c e
  exact qm q.lt
 have hCp:∀p∈X.pn++pins,p.1≠hp3.objs.size:=fun p hp=>qm (ql (I3.pin p hp).1)
 have stat:∀{H':Hp},(∀b∈fp,H' b=none)->∀b∈fp,FpOk (Yak X scope N (own++clOf X.env scope.names []) hp3.objs.size fp { s with heap:=hp3,toks:=s.toks } H3) [] H' b:=fun {H'} hn b hb=>by
  obtain⟨e1,e2⟩:=I4.ok.exf b hb
  exact⟨hn b hb,e1,I4.ok.exfs b hb,.inl hb,e2,fun p hp=>nomatch hp⟩
 have loop:codeAny (model X.prog X.w) X.A (.compLoop (.ListComp elt [⟨tg,iter,ifs,0⟩] scope pos) 0 (.ref it) (.ref Dd) (compEnvC scope (own++clOf X.env scope.names []) hp3.objs.size X.env)) (R (.ref Dd) hp3.objs.size) { s with heap:=h₁,toks:=s.toks }:=by
  refine Yds (fun n s'=>∃i σ' H',Inv (Yak X scope N (own++clOf X.env scope.names []) hp3.objs.size fp { s with heap:=hp3,toks:=s.toks } H3) [] σ' H' s'/\tn i s'.heap/\(∀b∈fp,H' b=none)/\W i n σ' H') ?_ m0 ⟨0,_,H3,I4,st4,fun b hb=>(f3 b hb).1,w0⟩
  rintro n s3 ⟨i,σ3,H3',I3',st3,fr3,w3⟩
  rcases turn i n σ3 H3' w3 with⟨stop,qn⟩ | ⟨go,step⟩
  ·refine thn (T.done (Yak X scope N (own++clOf X.env scope.names []) hp3.objs.size fp { s with heap:=hp3,toks:=s.toks } H3) rfl rfl rfl hc i [] s3 σ3 H3' _ I3' (stat fr3) st3 stop) fun r s4 hx_=>?_
   obtain⟨hr,I5⟩:=hx_
   subst hr
   obtain⟨m,hm,_⟩:=I5.loc
   exact hR Dd hp3.objs.size s4 H3' m (Yma I3 f3 I5) hm I5.free hCl (qy I3.sz (qu _)) hCc hCp qn
  ·refine thn (T.item (Yak X scope N (own++clOf X.env scope.names []) hp3.objs.size fp { s with heap:=hp3,toks:=s.toks } H3) rfl rfl rfl hc i [] s3 σ3 H3' _ I3' (stat fr3) st3 go) fun r s4 hx_=>?_
   obtain⟨u,hr,h4⟩:=hx_
   subst hr
   refine thn h4 fun _ s5 hx_=>?_
   obtain⟨x,H5,I5,r5,y5,st5,fr5⟩:=hx_
   have I5':=I5.pinned (stat fr5) (T.obj _ _ st5)
   have un:∀{α:Type} {t:Sem α} {Q':α->Shared->Prop} {E':Value->Shared->Prop} {s':Shared},wpAny (model X.prog X.w) X.A t Q' (fun _ _=>False) s'->wpAny (model X.prog X.w) X.A t Q' E' s':=fun h=>wpAny_mono h (fun _ _ q=>q) fun _ _ f=>f.elim
   refine un (thn (hg _ _ _ _ _ _ s5 σ3 H5 x u _ I5' r5 (step x H5 y5)) fun _ s6 hx_=>?_)
   obtain⟨σ6,H6,I6,q6⟩:=hx_
   refine un (thn (hi _ _ _ _ _ _ s6 σ6 H6 _ I6 q6) fun ok s7 hx_=>?_)
   obtain⟨H7,I7,q7⟩:=hx_
   have again:∀{H8:Hp} {s8:Shared} {m':Nat},m' < n->Inv (Yak X scope N (own++clOf X.env scope.names []) hp3.objs.size fp { s with heap:=hp3,toks:=s.toks } H3) ([]++Yjv fp s5.heap) σ6 H8 s8->W (i+1) m' σ6 H8->
    ∃m,m < n/\∃i σ' H',Inv (Yak X scope N (own++clOf X.env scope.names []) hp3.objs.size fp { s with heap:=hp3,toks:=s.toks } H3) [] σ' H' s8/\tn i s8.heap/\(∀b∈fp,H' b=none)/\W i m σ' H':=fun {H8 s8 m'} hm I8 w8=>by
    refine⟨m',hm,i+1,σ6,H8,I8.unpinned,T.keep _ _ _ st5 fun b hb o e=>(I8.pin (b,o) (Qj _ (Qj _ (Ydy hb e)))).1,fun b hb=>?_,w8⟩
    obtain⟨o,e,d⟩:=T.obj _ _ st5 b hb
    exact(I8.pin (b,o) (Qj _ (Qj _ (Ydy hb e)))).2.1
   cases ok with
   | false=>
     rw[if_neg qi]at q7 ⊢
     obtain⟨m',hm,w7⟩:=q7
     exact again hm I7 w7
   | true=>
     rw[if_pos rfl]at q7 ⊢
     refine un (thn (he _ _ _ _ _ _ s7 σ6 H7 _ I7 q7) fun y s8 hx_=>?_)
     obtain⟨v,H8,I8,r8,q8⟩:=hx_
     obtain⟨xs,e8,z8,m',hm,w8⟩:=q8
     refine un (thn (Yft _ s8 σ6 H8 (.ref Dd) [v] (.ref Dd) [y] (fun _ H9=>H9=upd H8 Dd (.lst (xs++[v]))) I8 rfl (.cons r8 .nil) ⟨Dd,xs,v,rfl,rfl,e8,z8,rfl⟩) fun _ s9 hx_=>?_)
     obtain⟨_,H9,I9,_,q9⟩:=hx_
     subst q9
     exact again hm I9 w8
 exact codeAny_compStart_list loop (T.self _ _ _ _ _ st4 loop)
theorem Yo3(S:CompSc X.N X.env.scope N src scope)(hc:X.calm=true)(hit:PI X tg iter wi)(hg:∀cl C fp s H,PG (Yak X scope N cl C fp s H) tg g)(hi:∀cl C fp s H,PIfs (Yak X scope N cl C fp s H) ifs ti)(he:∀cl C fp s H,PE (Yak X scope N cl C fp s H) elt te)
 (hs:∀x,foldedSetIterable iter X.env x=pure x:=by intro _;rfl):PE X (.ListComp elt [⟨tg,iter,ifs,0⟩] scope pos) (tLC wi src g ti te):=by
 intro pins s σ H Q I h
 rw[eval_ListComp]
 have hcl:closureFor scope X.env=pure (clOf X.env scope.names []):=Yfu fun y hy hf=>I.ok.has y.1 (S.fr y hy hf)
 refine wpAny_comprehension_free (use:=none) rfl hs hcl S.kind S.names ?_
 refine thn (hit pins s σ H _ I h) fun v s1 h1=>thn h1 fun itv s2 hx_=>?_
 obtain⟨it,fp,tn,J,H2,e,I2,T,st2,f2,q⟩:=hx_
 subst e
 refine Ytm (Q:=Q) (R:=fun acc C=>compPost (model X.prog X.w) X.A X.xe none (EP X pins σ Q) acc C) S hc hg hi he I2 T st2 f2 q fun D C s' H' m I' hm hC hCl hCs hCc hCp hq=>?_
 refine⟨m,hm,fun h' sb=>?_⟩
 exact⟨.ref D,H',I'.turned (t':=s'.toks) (fun b o hb e=>(sb.2 b hb).trans e) hC hCl (.inr hCs) hCc hCp,rfl,hq⟩
end
end L2
namespace M
open PySem PySem.Spec PyProof.Rows L2
section
section
def Rise(xs:Array Nat):Prop:=xs.toList.Pairwise (· < ·)
def Tab(bt:Bool)(t:SetTable):Prop:=(bt=false->t.led=true)/\(t.plain=true->Rise t.place)
end
end
section
section
variable {prog:Program} {w:World} {A:Around} {E:Value->Shared->Prop} {s:Shared}
abbrev byT(w:World):Bool:=w.params.followText "set-order"
end
end
section
end
section
end
section
set_option maxRecDepth 100000
end
section
set_option maxRecDepth 100000
end
section
inductive D where
 | non | bl (b:Bool) | int (i:Int) | str (x:Str) | tup (l:List D) | lst (l:List D)
 | scr (ns:List Int)
 | dct (t:Bool) (ks vs:List D)
 | obj (c:Str) (ks:List Str) (vs:List D)
 | adr (a:Addr)
mutual
def toPy:D->PyData
 | .non=>.none
 | .bl b=>.bool b
 | .int i=>.int i
 | .str x=>.str x
 | .tup l=>.tuple (Ygk l)
 | .lst l=>.list (Ygk l)
 | .scr ns=>.list (ns.map PyData.int)
 | .dct _ _ _=>.none
 | .obj _ _ _=>.none
 | .adr _=>.none
def Ygk:List D->List PyData
 | []=>[]
 | d::l=>toPy d::Ygk l
end
def eqD(d e:D):Bool:=PyData.eqv (toPy d) (toPy e)
def eqL(l m:List D):Bool:=PyData.eqvAll (Ygk l) (Ygk m)
def numV:V->Option Int
 | .int i=>some i
 | .bl b=>some (if b then 1 else 0)
 | _=>none
def y08:List V->Option (List Int)
 | []=>some []
 | x::r=>(numV x).bind fun i=>(y08 r).map (i::·)
def y34(ks:List Int):Int:=reduceHash (Builtin.Tuple.tupleHashOf (ks.map hashInt))
def DtOk(a:Addr)(nks:List (List Int × Addr))(vxs:List V)(ep:Nat)(h:Heap):Prop:=
 (a==sysModules)=false/\∃us o es,Vals vxs us/\h.get? a=some o/\o.ExactDict/\o.data=.dict es ep/\es.toList=(nks.zip us).map fun p=>(⟨y34 p.1.1,.ref p.1.2,p.2⟩:DictEntry)
def dTo(a:Addr)(nks:List (List Int × Addr))(vxs:List V)(ep:Nat):HO:=.ext (DtOk a nks vxs ep)
def Dc(t:Bool)(G H:Hp)(a:Addr)(kxs vxs:List V):Prop:=
 (t=false/\∃kvs:List (Key × V),H a=some (.dK kvs)/\(kvs.map (·.1)).Nodup/\kxs=kvs.map (fun p=>kV p.1)/\vxs=kvs.map (·.2))\/
 (t=true/\∃(nks:List (List Int × Addr)) (ep:Nat),H a=some (dTo a nks vxs ep)/\nks.length=vxs.length/\(nks.map (·.1)).Nodup/\kxs=nks.map (fun p=>V.ref p.2)/\∀p∈nks,∃ys,G p.2=some (.tup ys)/\y08 ys=some p.1)
mutual
def Rp(K:W.Frag)(G:Hp):D->V->Prop
 | .non,v=>v=V.non
 | .bl b,v=>v=V.bl b
 | .int i,v=>v=V.int i
 | .str x,v=>v=V.str x/\PyData.strOk x=true
 | .tup l,v=>∃a xs,v=V.ref a/\G a=some (HO.tup xs)/\RpL K G l xs
 | .lst l,v=>∃a xs,v=V.ref a/\Rd G a (HO.lst xs)/\RpL K G l xs
 | .scr ns,v=>∃a,v=V.ref a/\SqL K G a (ns.map V.int)
 | .dct t ks vs,v=>∃a kxs vxs,v=V.ref a/\Dc t G G a kxs vxs/\RpL K G ks kxs/\RpL K G vs vxs
 | .obj c ks vs,v=>∃a C dx xs,v=V.ref a/\W.nsIn K mainGlobals c=some (some (.ref C))/\G a=some (HO.ins C dx (ks.zip xs))/\xs.length=ks.length/\RpL K G vs xs
 | .adr a,v=>v=V.ref a
def RpL(K:W.Frag)(G:Hp):List D->List V->Prop
 | [],xs=>xs=[]
 | d::l,xs=>∃x r,xs=x::r/\Rp K G d x/\RpL K G l r
end
variable {K:W.Frag}
theorem Yer{G G':Hp}(h:Same G G'){a:Addr}{u:HO}(r:Rd G a u):Rd G' a u:=by
 rcases r with r | ⟨o,r⟩
 ·exact .inl (h _ _ r)
 ·exact .inr ⟨o,h _ _ r⟩
theorem Dc.mono{t:Bool}{G G' H H':Hp}(g:Same G G'){a:Addr}{kxs vxs:List V}(h:∀o,H a=some o->H' a=some o)(d:Dc t G H a kxs vxs):Dc t G' H' a kxs vxs:=by
 rcases d with⟨e,kvs,h1,h2⟩ | ⟨e,nks,ep,h1,h2,h3,h4,h5⟩
 ·exact .inl ⟨e,kvs,h _ h1,h2⟩
 ·refine .inr ⟨e,nks,ep,h _ h1,h2,h3,h4,fun p hp=>?_⟩
  obtain⟨ys,q1,q2⟩:=h5 p hp
  exact⟨ys,g _ _ q1,q2⟩
theorem Dc.someT{t:Bool}{G H:Hp}{a:Addr}{kxs vxs:List V}(d:Dc t G H a kxs vxs):∃o,H a=some o/\∀xs,o≠.tup xs:=by
 rcases d with⟨_,kvs,h1,_⟩ | ⟨_,nks,ep,h1,_⟩
 ·exact⟨_,h1,fun xs z=>by cases z⟩
 ·exact⟨_,h1,fun xs z=>by cases z⟩
theorem Dc.some{t:Bool}{G H:Hp}{a:Addr}{kxs vxs:List V}(d:Dc t G H a kxs vxs):∃o,H a=some o/\∀xs,o≠.lst xs:=by
 rcases d with⟨_,kvs,h1,_⟩ | ⟨_,nks,ep,h1,_⟩
 ·exact⟨_,h1,fun xs z=>by cases z⟩
 ·exact⟨_,h1,fun xs z=>by cases z⟩
mutual
theorem Rp.mono{G G':Hp}(h:Same G G'):∀{d:D} {v:V},Rp K G d v->Rp K G' d v
 | .non,_,r=>by rw[Rp]at r ⊢;exact r
 | .bl _,_,r=>by rw[Rp]at r ⊢;exact r
 | .int _,_,r=>by rw[Rp]at r ⊢;exact r
 | .str _,_,r=>by rw[Rp]at r ⊢;exact r
 | .tup l,_,r=>by
   rw[Rp]at r ⊢
   obtain⟨a,xs,e,g,q⟩:=r
   exact⟨a,xs,e,h _ _ g,RpL.mono h q⟩
 | .lst l,_,r=>by
   rw[Rp]at r ⊢
   obtain⟨a,xs,e,g,q⟩:=r
   exact⟨a,xs,e,Yer h g,RpL.mono h q⟩
 | .scr ns,_,r=>by
   rw[Rp]at r ⊢
   obtain⟨a,e,g⟩:=r
   exact⟨a,e,h.seq g⟩
 | .dct t ks vs,_,r=>by
   rw[Rp]at r ⊢
   obtain⟨a,kxs,vxs,e,g,q1,q2⟩:=r
   exact⟨a,kxs,vxs,e,g.mono h fun o=>h _ o,RpL.mono h q1,RpL.mono h q2⟩
 | .obj c ks vs,_,r=>by
   rw[Rp]at r ⊢
   obtain⟨a,C,dx,xs,e,n,g,l,q⟩:=r
   exact⟨a,C,dx,xs,e,n,h _ _ g,l,RpL.mono h q⟩
 | .adr _,_,r=>by rw[Rp]at r ⊢;exact r
theorem RpL.mono{G G':Hp}(h:Same G G'):∀{l:List D} {xs:List V},RpL K G l xs->RpL K G' l xs
 | [],_,r=>by rw[RpL]at r ⊢;exact r
 | d::l,_,r=>by
   rw[RpL]at r ⊢
   obtain⟨x,xs,e,g,q⟩:=r
   exact⟨x,xs,e,Rp.mono h g,RpL.mono h q⟩
end
section
variable {G:Hp}
theorem RpL.length:∀{l:List D} {xs:List V},RpL K G l xs->xs.length=l.length
 | [],_,r=>by rw[RpL]at r;subst r;rfl
 | d::l,_,r=>by
   rw[RpL]at r
   obtain⟨x,xs,rfl,_,q⟩:=r
   simp[RpL.length q]
theorem RpL.get:∀{l:List D} {xs:List V} {i:Nat} {d:D},RpL K G l xs->l[i]?=some d->∃x,xs[i]?=some x/\Rp K G d x
 | [],_,_,_,_,e=>by simp at e
 | d::l,_,0,_,r,e=>by
   rw[RpL]at r
   obtain⟨x,xs,rfl,g,q⟩:=r
   simp at e
   subst e
   exact⟨x,rfl,g⟩
 | d::l,_,i+1,_,r,e=>by
   rw[RpL]at r
   obtain⟨x,xs,rfl,g,q⟩:=r
   obtain⟨y,h1,h2⟩:=RpL.get (i:=i) q (by simpa using e)
   exact⟨y,by simpa using h1,h2⟩
theorem RpL.nil:RpL K G [] []:=by rw[RpL]
theorem RpL.cons{d:D}{l:List D}{x:V}{xs:List V}(h:Rp K G d x)(q:RpL K G l xs):RpL K G (d::l) (x::xs):=by rw[RpL];exact⟨x,xs,rfl,h,q⟩
theorem RpL.append:∀{l m:List D} {xs ys:List V},RpL K G l xs->RpL K G m ys->RpL K G (l++m) (xs++ys)
 | [],_,_,_,r,q=>by rw[RpL]at r;subst r;exact q
 | d::l,m,_,ys,r,q=>by
   rw[RpL]at r
   obtain⟨x,xs,rfl,g,r⟩:=r
   exact .cons g (RpL.append r q)
theorem RpL.one{d:D}{x:V}(h:Rp K G d x):RpL K G [d] [x]:=.cons h .nil
theorem RpL.take:∀{l:List D} {xs:List V} (n:Nat),RpL K G l xs->RpL K G (l.take n) (xs.take n)
 | _,_,0,_=>by rw[List.take_zero,List.take_zero];exact .nil
 | [],_,_+1,r=>by rw[RpL]at r;subst r;exact .nil
 | d::l,_,n+1,r=>by
   rw[RpL]at r
   obtain⟨x,xs,rfl,g,r⟩:=r
   exact .cons g (RpL.take n r)
theorem RpL.drop:∀{l:List D} {xs:List V} (n:Nat),RpL K G l xs->RpL K G (l.drop n) (xs.drop n)
 | _,_,0,r=>r
 | [],_,_+1,r=>by rw[RpL]at r;subst r;exact .nil
 | d::l,_,n+1,r=>by
   rw[RpL]at r
   obtain⟨x,xs,rfl,g,r⟩:=r
   exact RpL.drop n r
theorem RpL.reverse:∀{l:List D} {xs:List V},RpL K G l xs->RpL K G l.reverse xs.reverse
 | [],_,r=>by rw[RpL]at r;subst r;exact .nil
 | d::l,_,r=>by
   rw[RpL]at r
   obtain⟨x,xs,rfl,g,r⟩:=r
   rw[List.reverse_cons,List.reverse_cons]
   exact r.reverse.append (.one g)
theorem RpL.ints:∀(ns:List Int),RpL K G (ns.map D.int) (ns.map V.int)
 | []=>.nil
 | n::ns=>.cons (by rw[Rp]) (RpL.ints ns)
end
structure Gr(H G H' G':Hp):Prop where
 h:Same H H'
 g:Same G G'
 s:Same G' H'
 n:∀a,G a=none->G' a≠none->H a=none
theorem Gr.refl{H G:Hp}(s:Same G H):Gr H G H G:=⟨Same.refl _,Same.refl _,s,fun _ h h'=>absurd h h'⟩
theorem Gr.trans{H G H1 G1 H2 G2:Hp}(a:Gr H G H1 G1)(b:Gr H1 G1 H2 G2):Gr H G H2 G2:=
 ⟨a.h.trans b.h,a.g.trans b.g,b.s,fun x h h'=>by
  by_cases e:G1 x=none
  ·exact a.h.free (b.n x e h')
  ·exact a.n x h e⟩
theorem Gr.new{H G:Hp}(s:Same G H){p:Addr}(hp:H p=none)(o:HO):Gr H G (upd H p o) (upd G p o):=by
 have gp:G p=none:=s.free hp
 refine⟨fun b u e=>?_,fun b u e=>?_,fun b u e=>?_,fun b h h'=>?_⟩
 ·rw[Yn (y7 e hp)];exact e
 ·rw[Yn (y7 e gp)];exact e
 ·by_cases q:b=p
  ·subst q;rw[Yq]at e ⊢;exact e
  ·rw[Yn q]at e ⊢;exact s _ _ e
 ·by_cases q:b=p
  ·subst q;exact hp
  ·rw[Yn q]at h';exact absurd h h'
theorem Gr.hid{H G:Hp}(s:Same G H){p:Addr}(hp:H p=none)(o:HO):Gr H G (upd H p o) G:=by
 have gp:G p=none:=s.free hp
 refine⟨fun b u e=>?_,Same.refl _,fun b u e=>?_,fun b h h'=>absurd h h'⟩
 ·rw[Yn (y7 e hp)];exact e
 ·rw[Yn (y7 e gp)];exact s _ _ e
theorem Gr.show{H G H' G':Hp}(g:Gr H G H' G'){p:Addr}{o:HO}(hp:H p=none)(gp:G' p=none)(e:H' p=some o):Gr H G H' (upd G' p o):=by
 refine⟨g.h,fun b u q=>?_,fun b u q=>?_,fun b h h'=>?_⟩
 ·have:=g.g b u q
  rw[Yn (y7 this gp)];exact this
 ·by_cases z:b=p
  ·subst z;rw[Yq]at q;rw[e];exact q
  ·rw[Yn z]at q;exact g.s b u q
 ·by_cases z:b=p
  ·subst z;exact hp
  ·rw[Yn z]at h';exact g.n b h h'
def Ct(K:W.Frag)(G H:Hp):D->V->Prop
 | .non,v=>v=V.non
 | .bl b,v=>v=V.bl b
 | .int i,v=>v=V.int i
 | .str x,v=>v=V.str x/\PyData.strOk x=true
 | .tup l,v=>∃a xs,v=V.ref a/\(H a=some (HO.tup xs)/\G a=some (HO.tup xs))/\RpL K G l xs
 | .lst l,v=>∃a xs,v=V.ref a/\Rd H a (HO.lst xs)/\RpL K G l xs
 | .scr ns,v=>∃a,v=V.ref a/\SqL K H a (ns.map V.int)
 | .dct t ks vs,v=>∃a kxs vxs,v=V.ref a/\Dc t G H a kxs vxs/\RpL K G ks kxs/\RpL K G vs vxs
 | .obj c ks vs,v=>∃a C dx xs,v=V.ref a/\W.nsIn K mainGlobals c=some (some (.ref C))/\G a=some (HO.ins C dx (ks.zip xs))/\xs.length=ks.length/\RpL K G vs xs
 | .adr a,v=>v=V.ref a
theorem Ct.of{G H:Hp}(s:Same G H){d:D}{v:V}(r:Rp K G d v):Ct K G H d v:=by
 cases d<;>rw[Rp]at r<;>rw[Ct]
 ·exact r
 ·exact r
 ·exact r
 ·exact r
 ·obtain⟨a,xs,e,g,q⟩:=r
  exact⟨a,xs,e,⟨s _ _ g,g⟩,q⟩
 ·obtain⟨a,xs,e,g,q⟩:=r
  exact⟨a,xs,e,Yer s g,q⟩
 ·obtain⟨a,e,g⟩:=r
  exact⟨a,e,s.seq g⟩
 ·obtain⟨a,kxs,vxs,e,g,q1,q2⟩:=r
  exact⟨a,kxs,vxs,e,g.mono (Same.refl _) fun o=>s _ o,q1,q2⟩
 ·exact r
 ·exact r
theorem Ct.rp{G H:Hp}(s:Same G H){d:D}{v:V}(r:Ct K G H d v):Rp K H d v:=by
 cases d<;>rw[Ct]at r<;>rw[Rp]
 ·exact r
 ·exact r
 ·exact r
 ·exact r
 ·obtain⟨a,xs,e,g,q⟩:=r
  exact⟨a,xs,e,g.1,q.mono s⟩
 ·obtain⟨a,xs,e,g,q⟩:=r
  exact⟨a,xs,e,g,q.mono s⟩
 ·exact r
 ·obtain⟨a,kxs,vxs,e,g,q1,q2⟩:=r
  exact⟨a,kxs,vxs,e,g.mono s fun _ z=>z,q1.mono s,q2.mono s⟩
 ·obtain⟨a,C,dx,xs,e,n,g,l,q⟩:=r
  exact⟨a,C,dx,xs,e,n,s _ _ g,l,q.mono s⟩
 ·exact r
theorem Ct.grow{G H G' H':Hp}(g:Gr H G H' G'){d:D}{v:V}(r:Ct K G H d v):Ct K G' H' d v:=by
 cases d<;>rw[Ct]at r<;>rw[Ct]
 ·exact r
 ·exact r
 ·exact r
 ·exact r
 ·obtain⟨a,xs,e,h,q⟩:=r
  exact⟨a,xs,e,⟨g.h _ _ h.1,g.g _ _ h.2⟩,q.mono g.g⟩
 ·obtain⟨a,xs,e,h,q⟩:=r
  exact⟨a,xs,e,Yer g.h h,q.mono g.g⟩
 ·obtain⟨a,e,h⟩:=r
  exact⟨a,e,g.h.seq h⟩
 ·obtain⟨a,kxs,vxs,e,h,q1,q2⟩:=r
  exact⟨a,kxs,vxs,e,h.mono g.g fun o=>g.h _ o,q1.mono g.g,q2.mono g.g⟩
 ·obtain⟨a,C,dx,xs,e,n,h,l,q⟩:=r
  exact⟨a,C,dx,xs,e,n,g.g _ _ h,l,q.mono g.g⟩
 ·exact r
def CtL(K:W.Frag)(G H:Hp):List D->List V->Prop
 | [],xs=>xs=[]
 | d::l,xs=>∃x r,xs=x::r/\Ct K G H d x/\CtL K G H l r
inductive B where
 | sh (d:D) | ow (l:List D) | od (t:Bool) (ks vs:List D)
abbrev Ro:=List (Option B)
structure SR(K:W.Frag)(H0 G0:Hp)(σ:L2.St)(H G:Hp)(ρ:Ro):Prop where
 gr:Gr H0 G0 H G
 len:σ.length=ρ.length
 sh:∀(i:Nat) d,ρ[i]?=some (some (B.sh d))->∃v,σ[i]?=some (some v)/\Rp K G d v
 ow:∀(i:Nat) l,ρ[i]?=some (some (B.ow l))->∃a xs,σ[i]?=some (some (V.ref a))/\G a=none/\H0 a=none/\H a=some (.lst xs)/\RpL K G l xs
 ap:∀(i j:Nat) l l' a b,ρ[i]?=some (some (B.ow l))->ρ[j]?=some (some (B.ow l'))->i≠j->σ[i]?=some (some (V.ref a))->σ[j]?=some (some (V.ref b))->a≠b
 od:∀(i:Nat) t ks vs,ρ[i]?=some (some (B.od t ks vs))->∃a kxs vxs,σ[i]?=some (some (V.ref a))/\G a=none/\H0 a=none/\Dc t G H a kxs vxs/\RpL K G ks kxs/\RpL K G vs vxs
 apd:∀(i j:Nat) t ks vs t' ks' vs' a b,ρ[i]?=some (some (B.od t ks vs))->ρ[j]?=some (some (B.od t' ks' vs'))->i≠j->σ[i]?=some (some (V.ref a))->σ[j]?=some (some (V.ref b))->a≠b
section
variable {H0 G0 H G H' G':Hp} {σ:L2.St} {ρ:Ro}
theorem SR.mkSh(g:Gr H0 G0 H G)(len:σ.length=ρ.length)(sh:∀(i:Nat) d,ρ[i]?=some (some (B.sh d))->∃v,σ[i]?=some (some v)/\Rp K G d v)(no:∀(i:Nat) l,ρ[i]?≠some (some (B.ow l)))(no':∀(i:Nat) t ks vs,ρ[i]?≠some (some (B.od t ks vs))):SR K H0 G0 σ H G ρ:=
 ⟨g,len,sh,fun i l h=>absurd h (no i l),fun i j l l' a b h=>absurd h (no i l),fun i t ks vs h=>absurd h (no' i t ks vs),fun i j t ks vs t' ks' vs' a b h=>absurd h (no' i t ks vs)⟩
theorem Ycv(g:Gr H G H' G'){a:Addr}{o:HO}(h:H a=some o)(n:G a=none):G' a=none:=by
 cases q:G' a with
 | none=>rfl
 | some o=>
   have:=g.n a n (by rw[q];exact fun z=>nomatch z)
   rw[h]at this
   cases this
theorem SR.grow(s:SR K H0 G0 σ H G ρ)(g:Gr H G H' G'):SR K H0 G0 σ H' G' ρ:=by
 refine⟨s.gr.trans g,s.len,fun i d e=>?_,fun i l e=>?_,s.ap,fun i t ks vs e=>?_,s.apd⟩
 ·obtain⟨v,h1,h2⟩:=s.sh i d e
  exact⟨v,h1,h2.mono g.g⟩
 ·obtain⟨a,xs,h1,h2,h3,h4,h5⟩:=s.ow i l e
  exact⟨a,xs,h1,Ycv g h4 h2,h3,g.h _ _ h4,h5.mono g.g⟩
 ·obtain⟨a,kxs,vxs,h1,h2,h3,h4,h5,h6⟩:=s.od i t ks vs e
  obtain⟨o,h7,_⟩:=h4.some
  exact⟨a,kxs,vxs,h1,Ycv g h7 h2,h3,h4.mono g.g fun o=>g.h _ o,h5.mono g.g,h6.mono g.g⟩
theorem SR.seen(s:SR K H0 G0 σ H G ρ):Same G H:=s.gr.s
theorem Ym{α:Type}{l:List α}{i j:Nat}{x y:α}(h:(l.set i x)[j]?=some y):(j=i/\y=x/\i < l.length)\/(j≠i/\l[j]?=some y):=by
 by_cases e:j=i
 ·subst e
  have hl:j < l.length:=by
   have:=(qo h).1
   simpa using this
  rw[List.getElem?_set_self hl]at h
  exact .inl ⟨rfl,(Option.some.inj h).symm,hl⟩
 ·rw[Qb (Ne.symm e)]at h
  exact .inr ⟨e,h⟩
theorem SR.set_sh(s:SR K H0 G0 σ H G ρ)(i:Nat){d:D}{v:V}(r:Rp K G d v):SR K H0 G0 (σ.set i (some v)) H G (ρ.set i (some (.sh d))):=by
 refine⟨s.gr,by simp[s.len],fun j e h=>?_,fun j l h=>?_,fun j k l l' a b h1 h2 h3 h4 h5=>?_,fun j t ks vs h=>?_,fun j k t ks vs t' ks' vs' a b h1 h2 h3 h4 h5=>?_⟩
 ·rcases Ym h with⟨rfl,e1,hl⟩ | ⟨hj,h⟩
  ·cases e1
   exact⟨v,by rw[List.getElem?_set_self (by rw[s.len];exact hl)],r⟩
  ·obtain⟨w,q1,q2⟩:=s.sh j e h
   exact⟨w,by rw[Qb (Ne.symm hj)];exact q1,q2⟩
 ·rcases Ym h with⟨rfl,e1,hl⟩ | ⟨hj,h⟩
  ·cases e1
  ·obtain⟨a,xs,q1,q2⟩:=s.ow j l h
   exact⟨a,xs,by rw[Qb (Ne.symm hj)];exact q1,q2⟩
 ·rcases Ym h1 with⟨rfl,e1,_⟩ | ⟨hj,h1⟩
  ·cases e1
  ·rcases Ym h2 with⟨rfl,e1,_⟩ | ⟨hk,h2⟩
   ·cases e1
   ·rw[Qb (Ne.symm hj)]at h4
    rw[Qb (Ne.symm hk)]at h5
    exact s.ap j k l l' a b h1 h2 h3 h4 h5
 ·rcases Ym h with⟨rfl,e1,hl⟩ | ⟨hj,h⟩
  ·cases e1
  ·obtain⟨a,kxs,vxs,q1,q2⟩:=s.od j t ks vs h
   exact⟨a,kxs,vxs,by rw[Qb (Ne.symm hj)];exact q1,q2⟩
 ·rcases Ym h1 with⟨rfl,e1,_⟩ | ⟨hj,h1⟩
  ·cases e1
  ·rcases Ym h2 with⟨rfl,e1,_⟩ | ⟨hk,h2⟩
   ·cases e1
   ·rw[Qb (Ne.symm hj)]at h4
    rw[Qb (Ne.symm hk)]at h5
    exact s.apd j k t ks vs t' ks' vs' a b h1 h2 h3 h4 h5
theorem SR.set_ow(s:SR K H0 G0 σ H G ρ)(i:Nat){l:List D}{p:Addr}{xs:List V}(g:Gr H G H' G')(hp:H p=none)(gp:G' p=none)(e:H' p=some (.lst xs))(r:RpL K G' l xs):SR K H0 G0 (σ.set i (some (.ref p))) H' G' (ρ.set i (some (.ow l))):=by
 have s':=s.grow g
 have np:∀(j:Nat) l a,ρ[j]?=some (some (B.ow l))->σ[j]?=some (some (V.ref a))->a≠p:=fun j l a h1 h2 z=>by
  obtain⟨b,ys,q1,_,_,q4,_⟩:=s.ow j l h1
  rw[h2]at q1
  cases q1
  rw[z,hp]at q4
  cases q4
 refine⟨s'.gr,by simp[s.len],fun j e h=>?_,fun j l h=>?_,fun j k l l' a b h1 h2 h3 h4 h5=>?_,fun j t ks vs h=>?_,fun j k t ks vs t' ks' vs' a b h1 h2 h3 h4 h5=>?_⟩
 ·rcases Ym h with⟨rfl,e1,hl⟩ | ⟨hj,h⟩
  ·cases e1
  ·obtain⟨w,q1,q2⟩:=s'.sh j e h
   exact⟨w,by rw[Qb (Ne.symm hj)];exact q1,q2⟩
 ·rcases Ym h with⟨rfl,e1,hl⟩ | ⟨hj,h⟩
  ·cases e1
   exact⟨p,xs,by rw[List.getElem?_set_self (by rw[s.len];exact hl)],gp,s.gr.h.free hp,e,r⟩
  ·obtain⟨a,xs,q1,q2⟩:=s'.ow j l h
   exact⟨a,xs,by rw[Qb (Ne.symm hj)];exact q1,q2⟩
 ·rcases Ym h1 with⟨rfl,e1,hl⟩ | ⟨hj,h1n⟩
  ·rcases Ym h2 with⟨rfl,e2,_⟩ | ⟨hk,h2⟩
   ·exact absurd rfl h3
   ·rw[List.getElem?_set_self (by rw[s.len];exact hl)]at h4
    cases h4
    rw[Qb (Ne.symm hk)]at h5
    exact Ne.symm (np k l' b h2 h5)
  ·rcases Ym h2 with⟨rfl,e2,hl⟩ | ⟨hk,h2⟩
   ·rw[List.getElem?_set_self (by rw[s.len];exact hl)]at h5
    cases h5
    rw[Qb (Ne.symm hj)]at h4
    exact np j l a h1n h4
   ·rw[Qb (Ne.symm hj)]at h4
    rw[Qb (Ne.symm hk)]at h5
    exact s.ap j k l l' a b h1n h2 h3 h4 h5
 ·rcases Ym h with⟨rfl,e1,hl⟩ | ⟨hj,h⟩
  ·cases e1
  ·obtain⟨a,kxs,vxs,q1,q2⟩:=s'.od j t ks vs h
   exact⟨a,kxs,vxs,by rw[Qb (Ne.symm hj)];exact q1,q2⟩
 ·rcases Ym h1 with⟨rfl,e1,_⟩ | ⟨hj,h1⟩
  ·cases e1
  ·rcases Ym h2 with⟨rfl,e1,_⟩ | ⟨hk,h2⟩
   ·cases e1
   ·rw[Qb (Ne.symm hj)]at h4
    rw[Qb (Ne.symm hk)]at h5
    exact s.apd j k t ks vs t' ks' vs' a b h1 h2 h3 h4 h5
theorem SR.mut(s:SR K H0 G0 σ H G ρ){i:Nat}{l l':List D}{a:Addr}{ys:List V}(hi:ρ[i]?=some (some (B.ow l)))(ha:σ[i]?=some (some (V.ref a)))(r:RpL K G l' ys):SR K H0 G0 σ (upd H a (.lst ys)) G (ρ.set i (some (.ow l'))):=by
 obtain⟨a',xs,q1,q2,q3,q4,q5⟩:=s.ow i l hi
 rw[ha]at q1
 cases q1
 have hl:i < ρ.length:=(qo hi).1
 refine⟨⟨fun b o e=>?_,s.gr.g,fun b o e=>?_,s.gr.n⟩,by simp[s.len],fun j e h=>?_,fun j m h=>?_,fun j k m m' b c h1 h2 h3 h4 h5=>?_,fun j t ks vs h=>?_,fun j k t ks vs t' ks' vs' b c h1 h2 h3 h4 h5=>?_⟩
 ·rw[Yn (y7 e q3)];exact s.gr.h b o e
 ·rw[Yn (y7 e q2)];exact s.gr.s b o e
 ·rcases Ym h with⟨rfl,e1,_⟩ | ⟨hj,h⟩
  ·cases e1
  ·exact s.sh j e h
 ·rcases Ym h with⟨rfl,e1,_⟩ | ⟨hj,h⟩
  ·cases e1
   exact⟨a,ys,ha,q2,q3,Yq,r⟩
  ·obtain⟨b,zs,p1,p2,p3,p4,p5⟩:=s.ow j m h
   exact⟨b,zs,p1,p2,p3,by rw[Yn (s.ap j i m l b a h hi hj p1 ha)];exact p4,p5⟩
 ·have old:∀(j:Nat) m,(ρ.set i (some (.ow l')))[j]?=some (some (B.ow m))->∃m',ρ[j]?=some (some (B.ow m')):=fun j m h=>by
   rcases Ym h with⟨rfl,_,_⟩ | ⟨_,h⟩
   ·exact⟨l,hi⟩
   ·exact⟨m,h⟩
  obtain⟨n1,e1⟩:=old j m h1
  obtain⟨n2,e2⟩:=old k m' h2
  exact s.ap j k n1 n2 b c e1 e2 h3 h4 h5
 ·rcases Ym h with⟨rfl,e1,_⟩ | ⟨hj,h⟩
  ·cases e1
  ·obtain⟨b,kxs,vxs,p1,p2,p3,p4,p5⟩:=s.od j t ks vs h
   refine⟨b,kxs,vxs,p1,p2,p3,p4.mono (Same.refl _) fun o q=>?_,p5⟩
   obtain⟨o',q',nl⟩:=p4.some
   rw[q]at q'
   cases q'
   rw[Yn (fun z=>by rw[z,q4]at q;cases q;exact nl _ rfl)];exact q
 ·rcases Ym h1 with⟨rfl,e1,_⟩ | ⟨hj,h1⟩
  ·cases e1
  ·rcases Ym h2 with⟨rfl,e1,_⟩ | ⟨hk,h2⟩
   ·cases e1
   ·exact s.apd j k t ks vs t' ks' vs' b c h1 h2 h3 h4 h5
theorem SR.freezeT(s:SR K H0 G0 σ H G ρ){i:Nat}{l:List D}(hi:ρ[i]?=some (some (B.ow l))):∃G',SR K H0 G0 σ H G' (ρ.set i (some (.sh (.lst l))))/\∀b ys,G' b=some (.tup ys)->G b=some (.tup ys):=by
 obtain⟨a,xs,q1,q2,q3,q4,q5⟩:=s.ow i l hi
 have hl:i < ρ.length:=(qo hi).1
 have sm:Same G (upd G a (.lst xs)):=fun b o e=>by rw[Yn (y7 e q2)];exact e
 refine⟨upd G a (.lst xs),?_,fun b ys e=>by
  by_cases z:b=a
  ·subst z;rw[Yq]at e;cases e
  ·rw[Yn z]at e;exact e⟩
 refine⟨⟨s.gr.h,s.gr.g.trans sm,fun b o e=>?_,fun b h h'=>?_⟩,by simp[s.len],fun j e h=>?_,fun j m h=>?_,fun j k m m' b c h1 h2 h3 h4 h5=>?_,fun j t ks vs h=>?_,fun j k t ks vs t' ks' vs' b c h1 h2 h3 h4 h5=>?_⟩
 ·by_cases z:b=a
  ·subst z;rw[Yq]at e;rw[q4];exact e
  ·rw[Yn z]at e;exact s.gr.s b o e
 ·by_cases z:b=a
  ·subst z;exact q3
  ·rw[Yn z]at h';exact s.gr.n b h h'
 ·rcases Ym h with⟨rfl,e1,_⟩ | ⟨hj,h⟩
  ·cases e1
   exact⟨_,q1,by rw[Rp];exact⟨a,xs,rfl,.inl Yq,q5.mono sm⟩⟩
  ·obtain⟨v,p1,p2⟩:=s.sh j e h
   exact⟨v,p1,p2.mono sm⟩
 ·rcases Ym h with⟨rfl,e1,_⟩ | ⟨hj,h⟩
  ·cases e1
  ·obtain⟨b,zs,p1,p2,p3,p4,p5⟩:=s.ow j m h
   exact⟨b,zs,p1,by rw[Yn (s.ap j i m l b a h hi hj p1 q1)];exact p2,p3,p4,p5.mono sm⟩
 ·rcases Ym h1 with⟨rfl,e1,_⟩ | ⟨hj,h1⟩
  ·cases e1
  ·rcases Ym h2 with⟨rfl,e1,_⟩ | ⟨hk,h2⟩
   ·cases e1
   ·exact s.ap j k m m' b c h1 h2 h3 h4 h5
 ·rcases Ym h with⟨rfl,e1,_⟩ | ⟨hj,h⟩
  ·cases e1
  ·obtain⟨b,kxs,vxs,p1,p2,p3,p4,p5,p6⟩:=s.od j t ks vs h
   obtain⟨o',q',nl⟩:=p4.some
   exact⟨b,kxs,vxs,p1,by rw[Yn (fun z=>by rw[z,q4]at q';cases q';exact nl _ rfl)];exact p2,p3,p4.mono sm fun _ z=>z,p5.mono sm,p6.mono sm⟩
 ·rcases Ym h1 with⟨rfl,e1,_⟩ | ⟨hj,h1⟩
  ·cases e1
  ·rcases Ym h2 with⟨rfl,e1,_⟩ | ⟨hk,h2⟩
   ·cases e1
   ·exact s.apd j k t ks vs t' ks' vs' b c h1 h2 h3 h4 h5
theorem SR.freeze(s:SR K H0 G0 σ H G ρ){i:Nat}{l:List D}(hi:ρ[i]?=some (some (B.ow l))):∃G',SR K H0 G0 σ H G' (ρ.set i (some (.sh (.lst l)))):=by
 obtain⟨G',h,_⟩:=s.freezeT hi
 exact⟨G',h⟩
theorem SR.freezedT(s:SR K H0 G0 σ H G ρ){i:Nat}{t:Bool}{ks vs:List D}(hi:ρ[i]?=some (some (B.od t ks vs))):∃G',SR K H0 G0 σ H G' (ρ.set i (some (.sh (.dct t ks vs))))/\∀b ys,G' b=some (.tup ys)->G b=some (.tup ys):=by
 obtain⟨a,kxs,vxs,q1,q2,q3,q4,q5,q6⟩:=s.od i t ks vs hi
 obtain⟨o,q7,nl⟩:=q4.some
 have hl:i < ρ.length:=(qo hi).1
 have sm:Same G (upd G a o):=fun b o e=>by rw[Yn (y7 e q2)];exact e
 obtain⟨oT,q8,nt⟩:=q4.someT
 rw[q7]at q8
 cases q8
 refine⟨upd G a o,?_,fun b ys e=>by
  by_cases z:b=a
  ·subst z;rw[Yq]at e;cases e;exact absurd rfl (nt _)
  ·rw[Yn z]at e;exact e⟩
 refine⟨⟨s.gr.h,s.gr.g.trans sm,fun b o' e=>?_,fun b h h'=>?_⟩,by simp[s.len],fun j e h=>?_,fun j m h=>?_,fun j k m m' b c h1 h2 h3 h4 h5=>?_,fun j t ks vs h=>?_,fun j k t ks vs t' ks' vs' b c h1 h2 h3 h4 h5=>?_⟩
 ·by_cases z:b=a
  ·subst z;rw[Yq]at e;rw[q7];exact e
  ·rw[Yn z]at e;exact s.gr.s b o' e
 ·by_cases z:b=a
  ·subst z;exact q3
  ·rw[Yn z]at h';exact s.gr.n b h h'
 ·rcases Ym h with⟨rfl,e1,_⟩ | ⟨hj,h⟩
  ·cases e1
   refine⟨_,q1,?_⟩
   rw[Rp]
   refine⟨a,kxs,vxs,rfl,q4.mono sm fun o' z=>?_,q5.mono sm,q6.mono sm⟩
   rw[q7]at z
   rw[Yq];exact z
  ·obtain⟨v,p1,p2⟩:=s.sh j e h
   exact⟨v,p1,p2.mono sm⟩
 ·rcases Ym h with⟨rfl,e1,_⟩ | ⟨hj,h⟩
  ·cases e1
  ·obtain⟨b,zs,p1,p2,p3,p4,p5⟩:=s.ow j m h
   exact⟨b,zs,p1,by rw[Yn (fun z=>by rw[z,q7]at p4;cases p4;exact nl _ rfl)];exact p2,p3,p4,p5.mono sm⟩
 ·rcases Ym h1 with⟨rfl,e1,_⟩ | ⟨hj,h1⟩
  ·cases e1
  ·rcases Ym h2 with⟨rfl,e1,_⟩ | ⟨hk,h2⟩
   ·cases e1
   ·exact s.ap j k m m' b c h1 h2 h3 h4 h5
 ·rcases Ym h with⟨rfl,e1,_⟩ | ⟨hj,h⟩
  ·cases e1
  ·obtain⟨b,kx,vx,p1,p2,p3,p4,p5,p6⟩:=s.od j t ks vs h
   exact⟨b,kx,vx,p1,by rw[Yn (s.apd j i _ _ _ _ _ _ b a h hi hj p1 q1)];exact p2,p3,p4.mono sm fun _ z=>z,p5.mono sm,p6.mono sm⟩
 ·rcases Ym h1 with⟨rfl,e1,_⟩ | ⟨hj,h1⟩
  ·cases e1
  ·rcases Ym h2 with⟨rfl,e1,_⟩ | ⟨hk,h2⟩
   ·cases e1
   ·exact s.apd j k t ks vs t' ks' vs' b c h1 h2 h3 h4 h5
theorem SR.freezed(s:SR K H0 G0 σ H G ρ){i:Nat}{t:Bool}{ks vs:List D}(hi:ρ[i]?=some (some (B.od t ks vs))):∃G',SR K H0 G0 σ H G' (ρ.set i (some (.sh (.dct t ks vs)))):=by
 obtain⟨G',h,_⟩:=s.freezedT hi
 exact⟨G',h⟩
def Le(ρ ρ':Ro):Prop:=ρ.length=ρ'.length/\∀(i:Nat) b,ρ[i]?=some (some b)->ρ'[i]?=some (some b)
theorem SR.le{ρ':Ro}(s:SR K H0 G0 σ H G ρ')(h:Le ρ ρ'):SR K H0 G0 σ H G ρ:=
 ⟨s.gr,s.len.trans h.1.symm,fun i d e=>s.sh i d (h.2 i _ e),fun i l e=>s.ow i l (h.2 i _ e),fun i j l l' a b e1 e2=>s.ap i j l l' a b (h.2 i _ e1) (h.2 j _ e2),
  fun i t ks vs e=>s.od i t ks vs (h.2 i _ e),fun i j t ks vs t' ks' vs' a b e1 e2=>s.apd i j t ks vs t' ks' vs' a b (h.2 i _ e1) (h.2 j _ e2)⟩
theorem SR.rebase(s:SR K H0 G0 σ H G ρ):∃H1,SR K H1 G σ H G ρ/\∀σ' H' G' ρ',SR K H1 G σ' H' G' ρ'->SR K H0 G0 σ' H' G' ρ':=by
 classical
 let own:Addr->Prop:=fun a=>∃(i:Nat),((∃l:List D,ρ[i]?=some (some (B.ow l)))\/(∃t ks vs,ρ[i]?=some (some (B.od t ks vs))))/\σ[i]?=some (some (V.ref a))
 have h0:∀a,own a->H0 a=none:=fun a hx_=>by
  obtain⟨i,e1,e2⟩:=hx_
  rcases e1 with⟨l,e1⟩ | ⟨t,ks,vs,e1⟩
  ·obtain⟨b,xs,q1,_,q3,_⟩:=s.ow i l e1
   rw[e2]at q1;cases q1;exact q3
  ·obtain⟨b,kxs,vxs,q1,_,q3,_⟩:=s.od i t ks vs e1
   rw[e2]at q1;cases q1;exact q3
 have back:∀a,(if own a then (none:Option HO)else H a)=none->H0 a=none:=fun a h=>by
  by_cases o:own a
  ·exact h0 a o
  ·rw[if_neg o]at h;exact s.gr.h.free h
 refine⟨fun a=>if own a then none else H a,⟨⟨fun b o e=>?_,Same.refl _,s.gr.s,fun _ h h'=>absurd h h'⟩,s.len,s.sh,fun i l e=>?_,s.ap,fun i t ks vs e=>?_,s.apd⟩,fun σ' H' G' ρ' t=>⟨⟨fun b o e=>?_,s.gr.g.trans t.gr.g,t.gr.s,fun b h h'=>?_⟩,t.len,t.sh,fun i l e=>?_,t.ap,fun i t1 ks vs e=>?_,t.apd⟩⟩
 ·by_cases z:own b
  ·simp only[if_pos z]at e;cases e
  ·simp only[if_neg z]at e;exact e
 ·obtain⟨a,xs,q1,q2,q3,q4,q5⟩:=s.ow i l e
  exact⟨a,xs,q1,q2,if_pos ⟨i,.inl ⟨l,e⟩,q1⟩,q4,q5⟩
 ·obtain⟨a,kxs,vxs,q1,q2,q3,q4⟩:=s.od i t ks vs e
  exact⟨a,kxs,vxs,q1,q2,if_pos ⟨i,.inr ⟨t,ks,vs,e⟩,q1⟩,q4⟩
 ·refine t.gr.h b o ?_
  have z:¬own b:=fun z=>by rw[h0 b z]at e;cases e
  show(if own b then none else H b)=some o
  rw[if_neg z];exact s.gr.h b o e
 ·by_cases z:G b=none
  ·exact back b (t.gr.n b z h')
  ·exact s.gr.n b h z
 ·obtain⟨a,xs,q1,q2,q3,q4,q5⟩:=t.ow i l e
  exact⟨a,xs,q1,q2,back a q3,q4,q5⟩
 ·obtain⟨a,kxs,vxs,q1,q2,q3,q4⟩:=t.od i t1 ks vs e
  exact⟨a,kxs,vxs,q1,q2,back a q3,q4⟩
end
def tOf(K:W.Frag)(f:Ro->Option D):TE:=fun σ H Q=>∃ρ d H0 G0 G,f ρ=some d/\SR K H0 G0 σ H G ρ/\∀v H' G',Gr H G H' G'->Rp K G' d v->Q v H'
def tCof(K:W.Frag)(f:Ro->Option D):TE:=fun σ H Q=>∃ρ d H0 G0 G,f ρ=some d/\SR K H0 G0 σ H G ρ/\∀v H' G',Gr H G H' G'->Ct K G' H' d v->Q v H'
def tCAof(K:W.Frag)(f:Ro->Option (List D)):TA:=fun σ H Q=>∃ρ l H0 G0 G,f ρ=some l/\SR K H0 G0 σ H G ρ/\∀vs H' G',Gr H G H' G'->CtL K G' H' l vs->Q vs H'
def tFof(K:W.Frag)(f:Ro->Option (List D)):TE:=fun σ H Q=>∃ρ l H0 G0 G,f ρ=some l/\SR K H0 G0 σ H G ρ/\∀p xs H' G',Gr H G H' G'->H p=none->G' p=none->H' p=some (.lst xs)->RpL K G' l xs->Q (.ref p) H'
def tTof(K:W.Frag)(f:Ro->Option Bool):TT:=fun σ H Q=>∃ρ b H0 G0 G,f ρ=some b/\SR K H0 G0 σ H G ρ/\∀H' G',Gr H G H' G'->Q b H'
def tAof(K:W.Frag)(f:Ro->Option (List D)):TA:=fun σ H Q=>∃ρ l H0 G0 G,f ρ=some l/\SR K H0 G0 σ H G ρ/\∀vs H' G',Gr H G H' G'->RpL K G' l vs->Q vs H'
def Wk(K:W.Frag)(J:It)(G':Hp)(ds:List D):Prop:=ds.length<=sizeLine/\∀(i:Nat) H2 G2,Same G' G2->Same G2 H2->
 (∀d,ds[i]?=some d->J.go i H2/\∀y H3,J.yld i H2 y H3->∃G3,Gr H2 G2 H3 G3/\Rp K G3 d y)/\(ds.length<=i->J.stop i H2)
def tIof(K:W.Frag)(f:Ro->Option (List D)):TI:=fun σ H R=>∃ρ ds H0 G0 G,f ρ=some ds/\SR K H0 G0 σ H G ρ/\∀J H' G',Gr H G H' G'->Wk K J G' ds->R J H'
inductive Out where
 | nx (ρ:Ro) | rt (d:D) | bk (ρ:Ro) | ct (ρ:Ro)
def Cont(K:W.Frag)(H0 G0:Hp)(F:Ends):Out->Prop
 | .nx ρ'=>∀σ' H' G',SR K H0 G0 σ' H' G' ρ'->F.nx σ' H'
 | .rt d=>∀v H' G',Gr H0 G0 H' G'->Rp K G' d v->F.rt v H'
 | .bk ρ'=>∀σ' H' G',SR K H0 G0 σ' H' G' ρ'->F.bk σ' H'
 | .ct ρ'=>∀σ' H' G',SR K H0 G0 σ' H' G' ρ'->F.ct σ' H'
def sOf(K:W.Frag)(f:Ro->Option Out):TS:=fun F σ H=>∃ρ out H0 G0 G,f ρ=some out/\SR K H0 G0 σ H G ρ/\Cont K H0 G0 F out
def gOf(K:W.Frag)(gt:D->Ro->Option Ro):TG:=fun v σ H Q=>∃d ρ ρ' H0 G0 G,gt d ρ=some ρ'/\SR K H0 G0 σ H G ρ/\Rp K G d v/\∀σ',SR K H0 G0 σ' H G ρ'->Q σ' H
abbrev ME(X:Cx)(e:Expr)(f:Ro->Option D):Prop:=PE X e (tOf X.K f)
abbrev MC(X:Cx)(e:Expr)(f:Ro->Option D):Prop:=PE X e (tCof X.K f)
abbrev MCA(X:Cx)(es:List Expr)(f:Ro->Option (List D)):Prop:=PA X es (tCAof X.K f)
abbrev MF(X:Cx)(e:Expr)(f:Ro->Option (List D)):Prop:=PE X e (tFof X.K f)
abbrev MT(X:Cx)(e:Expr)(f:Ro->Option Bool):Prop:=PT X e (tTof X.K f)
abbrev MA(X:Cx)(es:List Expr)(f:Ro->Option (List D)):Prop:=PA X es (tAof X.K f)
abbrev MI(X:Cx)(tg iter:Expr)(f:Ro->Option (List D)):Prop:=PI X tg iter (tIof X.K f)
abbrev MS(X:Cx)(st:Stmt)(f:Ro->Option Out):Prop:=PS X st (sOf X.K f)
abbrev MB(X:Cx)(sts:List Stmt)(f:Ro->Option Out):Prop:=PSs X sts (sOf X.K f)
abbrev MG(X:Cx)(tg:Expr)(gt:D->Ro->Option Ro):Prop:=PG X tg (gOf X.K gt)
section
variable {X:Cx}
theorem PE.imp{e:Expr}{t t':TE}(h:PE X e t)(i:∀σ H Q,t' σ H Q->t σ H Q):PE X e t':=fun pins s σ H Q I hw=>h pins s σ H Q I (i σ H Q hw)
theorem PT.imp{e:Expr}{t t':TT}(h:PT X e t)(i:∀σ H Q,t' σ H Q->t σ H Q):PT X e t':=fun pins s σ H Q I hw=>h pins s σ H Q I (i σ H Q hw)
theorem PA.imp{es:List Expr}{t t':TA}(h:PA X es t)(i:∀σ H Q,t' σ H Q->t σ H Q):PA X es t':=fun pos pins s σ H Q I hw=>h pos pins s σ H Q I (i σ H Q hw)
theorem PS.imp{st:Stmt}{t t':TS}(h:PS X st t)(i:∀F σ H,t' F σ H->t F σ H):PS X st t':=fun pins s σ H F I hw=>h pins s σ H F I (i F σ H hw)
theorem PSs.imp{st:List Stmt}{t t':TS}(h:PSs X st t)(i:∀F σ H,t' F σ H->t F σ H):PSs X st t':=fun pins s σ H F I hw=>h pins s σ H F I (i F σ H hw)
theorem PI.imp{tg e:Expr}{t t':TI}(h:PI X tg e t)(i:∀σ H R,t' σ H R->t σ H R):PI X tg e t':=fun pins s σ H R I hw=>h pins s σ H R I (i σ H R hw)
theorem PG.imp{e:Expr}{t t':TG}(h:PG X e t)(i:∀v σ H Q,t' v σ H Q->t v σ H Q):PG X e t':=fun pins s σ H v u Q I r hw=>h pins s σ H v u Q I r (i v σ H Q hw)
variable {H0 G0 H G:Hp} {σ:L2.St} {ρ:Ro}
theorem tOf.at{f:Ro->Option D}{d:D}{Q:VK}(e:f ρ=some d)(s:SR K H0 G0 σ H G ρ)(h:∀v H' G',Gr H G H' G'->Rp K G' d v->SR K H0 G0 σ H' G' ρ->Q v H'):tOf K f σ H Q:=
 ⟨ρ,d,H0,G0,G,e,s,fun v H' G' g r=>h v H' G' g r (s.grow g)⟩
theorem tCof.at{f:Ro->Option D}{d:D}{Q:VK}(e:f ρ=some d)(s:SR K H0 G0 σ H G ρ)(h:∀v H' G',Gr H G H' G'->Ct K G' H' d v->SR K H0 G0 σ H' G' ρ->Q v H'):tCof K f σ H Q:=
 ⟨ρ,d,H0,G0,G,e,s,fun v H' G' g r=>h v H' G' g r (s.grow g)⟩
theorem tCAof.at{f:Ro->Option (List D)}{l:List D}{Q:List V->Hp->Prop}(e:f ρ=some l)(s:SR K H0 G0 σ H G ρ)(h:∀vs H' G',Gr H G H' G'->CtL K G' H' l vs->SR K H0 G0 σ H' G' ρ->Q vs H'):tCAof K f σ H Q:=
 ⟨ρ,l,H0,G0,G,e,s,fun v H' G' g r=>h v H' G' g r (s.grow g)⟩
theorem ME.mc{e:Expr}{f:Ro->Option D}(h:ME X e f):MC X e f:=PE.imp h fun σ H Q ⟨ρ,d,H0,G0,G,e,s,h⟩=>⟨ρ,d,H0,G0,G,e,s,fun v H' G' g r=>h v H' G' g (.of g.s r)⟩
theorem tTof.at{f:Ro->Option Bool}{b:Bool}{Q:Bool->Hp->Prop}(e:f ρ=some b)(s:SR K H0 G0 σ H G ρ)(h:∀H' G',Gr H G H' G'->SR K H0 G0 σ H' G' ρ->Q b H'):tTof K f σ H Q:=
 ⟨ρ,b,H0,G0,G,e,s,fun H' G' g=>h H' G' g (s.grow g)⟩
theorem tAof.at{f:Ro->Option (List D)}{l:List D}{Q:List V->Hp->Prop}(e:f ρ=some l)(s:SR K H0 G0 σ H G ρ)(h:∀vs H' G',Gr H G H' G'->RpL K G' l vs->SR K H0 G0 σ H' G' ρ->Q vs H'):tAof K f σ H Q:=
 ⟨ρ,l,H0,G0,G,e,s,fun v H' G' g r=>h v H' G' g r (s.grow g)⟩
end
end
section
variable {K:W.Frag}
def b2{α:Type}(fa fb:Ro->Option D)(g:D->D->Option α):Ro->Option α:=fun ρ=>(fa ρ).bind fun x=>(fb ρ).bind fun y=>g x y
def b1{α:Type}(fa:Ro->Option D)(g:D->Option α):Ro->Option α:=fun ρ=>(fa ρ).bind g
theorem Yj4{α:Type}{fa fb:Ro->Option D}{g:D->D->Option α}{ρ:Ro}{r:α}(h:b2 fa fb g ρ=some r):∃x y,fa ρ=some x/\fb ρ=some y/\g x y=some r:=by
 unfold b2 at h
 obtain⟨x,h1,h⟩:=qa h
 obtain⟨y,h2,h⟩:=qa h
 exact⟨x,y,h1,h2,h⟩
theorem Ybn{α:Type}{fa:Ro->Option D}{g:D->Option α}{ρ:Ro}{r:α}(h:b1 fa g ρ=some r):∃x,fa ρ=some x/\g x=some r:=by
 unfold b1 at h
 obtain⟨x,h1,h⟩:=qa h
 exact⟨x,h1,h⟩
def Sem2(K:W.Frag)(r:R2)(g:D->D->Option D):Prop:=∀(x y:V) (dx dy d:D) (H G:Hp) (Q:VK),g dx dy=some d->Same G H->Ct K G H dx x->Ct K G H dy y->(∀v H' G',Gr H G H' G'->Rp K G' d v->Q v H')->r x y H Q
def Ygl(K:W.Frag)(r:R2)(g:D->D->Option Bool):Prop:=∀(x y:V) (dx dy:D) (b:Bool) (H G:Hp) (Q:VK),g dx dy=some b->Same G H->Ct K G H dx x->Ct K G H dy y->Q (.bl b) H->r x y H Q
def SemC(K:W.Frag)(r:List V->Hp->VK->Prop)(g:List D->Option D):Prop:=∀(vs:List V) (ds:List D) (d:D) (H G:Hp) (Q:VK),g ds=some d->Same G H->CtL K G H ds vs->(∀v H' G',Gr H G H' G'->Rp K G' d v->Q v H')->r vs H Q
section
variable {X:Cx} {a b c e:Expr} {es:List Expr} {fa fb fc f:Ro->Option D} {ga:Ro->Option (List D)} {pos:Pos}
def getV(i:Nat):Ro->Option D:=fun ρ=>match ρ[i]? with
 | some (some (B.sh d))=>some d
 | _=>none
def getO(i:Nat):Ro->Option (List D):=fun ρ=>match ρ[i]? with
 | some (some (B.ow l))=>some l
 | _=>none
theorem Yj5{i:Nat}{ρ:Ro}{d:D}(h:getV i ρ=some d):ρ[i]?=some (some (B.sh d)):=by
 unfold getV at h
 split at h
 ·cases h;assumption
 ·cases h
theorem Yj6{i:Nat}{ρ:Ro}{l:List D}(h:getO i ρ=some l):ρ[i]?=some (some (B.ow l)):=by
 unfold getO at h
 split at h
 ·cases h;assumption
 ·cases h
theorem y35(i:Nat){x:Str}(hN:X.N[i]?=some x:=by rfl)(hv:Vis X.env.scope x:=by first | exact Or.inl rfl | exact Or.inr (Or.inl rfl) | exact Or.inr (Or.inr rfl))(hd:(x==("__debug__":Str))=false:=by decide)
 (hcd:(x==("__classdict__":Str))=false:=by decide):ME X (.Name x pos) (getV i):=
 PE.imp (Yd3 hN hv hd hcd) fun σ H Q hx_=>by
  obtain⟨ρ,d,H0,G0,G,e,s,h⟩:=hx_
  obtain⟨v,h1,h2⟩:=s.sh i d (Yj5 e)
  exact⟨v,h1,h v H G (.refl s.seen) h2⟩
def getC(i:Nat):Ro->Option D:=fun ρ=>match ρ[i]? with
 | some (some (B.sh d))=>some d
 | some (some (B.ow l))=>some (.lst l)
 | some (some (B.od t ks vs))=>some (.dct t ks vs)
 | _=>none
theorem y36(i:Nat){x:Str}(hN:X.N[i]?=some x:=by rfl)(hv:Vis X.env.scope x:=by first | exact Or.inl rfl | exact Or.inr (Or.inl rfl) | exact Or.inr (Or.inr rfl))(hd:(x==("__debug__":Str))=false:=by decide)
 (hcd:(x==("__classdict__":Str))=false:=by decide):MC X (.Name x pos) (getC i):=
 PE.imp (Yd3 hN hv hd hcd) fun σ H Q hx_=>by
  obtain⟨ρ,d,H0,G0,G,e,s,h⟩:=hx_
  unfold getC at e
  split at e
  ·rename_i d' hd'
   cases e
   obtain⟨v,h1,h2⟩:=s.sh i _ hd'
   exact⟨v,h1,h v H G (.refl s.seen) (.of s.seen h2)⟩
  ·rename_i l hl
   cases e
   obtain⟨a,xs,h1,h2,h3,h4,h5⟩:=s.ow i l hl
   exact⟨_,h1,h _ H G (.refl s.seen) (by rw[Ct];exact⟨a,xs,rfl,.inl h4,h5⟩)⟩
  ·rename_i t ks vs hl
   cases e
   obtain⟨a,kxs,vxs,h1,h2,h3,h4,h5⟩:=s.od i t ks vs hl
   exact⟨_,h1,h _ H G (.refl s.seen) (by rw[Ct];exact⟨a,kxs,vxs,rfl,h4,h5⟩)⟩
  ·cases e
def kD(d:D):Ro->Option D:=fun _=>some d
theorem Yge{v:V}{d:D}{t:TE}(h:PE X e t)(ht:∀σ H Q,Q v H->t σ H Q)(hr:∀G,Rp X.K G d v):ME X e (kD d):=
 PE.imp h fun σ H Q hx_=>by
  obtain⟨ρ,d',H0,G0,G,e,s,h⟩:=hx_
  cases e
  exact ht σ H Q (h v H G (.refl s.seen) (hr G))
theorem y37{i:Int}{j}:ME X (.Constant (.int i) j pos) (kD (.int i)):=Yge (v:=.int i) Yqh (fun _ _ _ q=>q) fun _=>by rw[Rp]
theorem y63{k:Bool}{j}:ME X (.Constant (.bool k) j pos) (kD (.bl k)):=Yge (v:=.bl k) y6p (fun _ _ _ q=>q) fun _=>by rw[Rp]
theorem y38{j}:ME X (.Constant .none j pos) (kD .non):=Yge (v:=.non) y3j (fun _ _ _ q=>q) fun _=>by rw[Rp]
theorem y39{x:Str}{j}(hx:PyData.strOk x=true:=by decide +kernel):ME X (.Constant (.str x) j pos) (kD (.str x)):=Yge (v:=.str x) Ys3 (fun _ _ _ q=>q) fun _=>by rw[Rp];exact⟨rfl,hx⟩
theorem Yzu{r:R2}{g:D->D->Option D}(hr:Sem2 K r g){σ:L2.St}{H:Hp}{Q:VK}(h:tOf K (b2 fa fb g) σ H Q):tOp r (tCof K fa) (tCof K fb) σ H Q:=by
 obtain⟨ρ,d,H0,G0,G,e,s,h⟩:=h
 obtain⟨dx,dy,h1,h2,h3⟩:=Yj4 e
 exact tCof.at h1 s fun v H1 G1 g1 r1 s1=>tCof.at h2 s1 fun u H2 G2 g2 r2 s2=>hr v u dx dy d H2 G2 Q h3 s2.seen (r1.grow g2) r2 fun w H' G' g3 r3=>h w H' G' ((g1.trans g2).trans g3) r3
theorem y09{r:R2}{g:D->D->Option Bool}(hr:Ygl K r g){σ:L2.St}{H:Hp}{Q:Bool->Hp->Prop}(h:tTof K (b2 fa fb g) σ H Q):y0w (tOp r (tCof K fa) (tCof K fb)) σ H Q:=by
 obtain⟨ρ,d,H0,G0,G,e,s,h⟩:=h
 obtain⟨dx,dy,h1,h2,h3⟩:=Yj4 e
 exact tCof.at h1 s fun v H1 G1 g1 r1 s1=>tCof.at h2 s1 fun u H2 G2 g2 r2 s2=>hr v u dx dy d H2 G2 _ h3 s2.seen (r1.grow g2) r2 ⟨d,rfl,h H2 G2 (g1.trans g2)⟩
def mB(f:Ro->Option Bool):Ro->Option D:=fun ρ=>(f ρ).map D.bl
theorem Yo4{f:Ro->Option Bool}{ρ:Ro}{d:D}(h:mB f ρ=some d):∃b,f ρ=some b/\d=.bl b:=by
 unfold mB at h
 obtain⟨b,h1,h2⟩:=qc h
 exact⟨b,h1,h2.symm⟩
theorem Yxh{r:R2}{g:D->D->Option Bool}(hr:Ygl K r g){σ:L2.St}{H:Hp}{Q:VK}(h:tOf K (mB (b2 fa fb g)) σ H Q):tOp r (tCof K fa) (tCof K fb) σ H Q:=by
 obtain⟨ρ,d,H0,G0,G,e,s,h⟩:=h
 obtain⟨b,eb,rfl⟩:=Yo4 e
 obtain⟨dx,dy,h1,h2,h3⟩:=Yj4 eb
 exact tCof.at h1 s fun v H1 G1 g1 r1 s1=>tCof.at h2 s1 fun u H2 G2 g2 r2 s2=>hr v u dx dy b H2 G2 _ h3 s2.seen (r1.grow g2) r2 (h _ H2 G2 (g1.trans g2) (by rw[Rp]))
theorem Yj7{op:Operator}{r:R2}{g:D->D->Option D}(ho:OpR X (binaryOp op) r)(hr:Sem2 X.K r g)(ha:MC X a fa)(hb:MC X b fb):ME X (.BinOp a op b pos) (b2 fa fb g):=PE.imp (Yw9 ho ha hb) fun _ _ _ h=>Yzu hr h
theorem Yzv{op:CmpOp}{r:R2}{g:D->D->Option Bool}(ho:OpR X (compareOp op) r)(hr:Ygl X.K r g)(ha:MC X a fa)(hb:MC X b fb)(hm:behindInMarks op b=false):ME X (.Compare a [op] [b] pos) (mB (b2 fa fb g)):=PE.imp (y0v ho ha hb hm) fun _ _ _ h=>Yxh hr h
theorem Ynp{op:CmpOp}{r:R2}{g:D->D->Option Bool}(ho:OpR X (compareOp op) r)(hr:Ygl X.K r g)(ha:MC X a fa)(hb:MC X b fb)(hm:behindInMarks op b=false):MT X (.Compare a [op] [b] pos) (b2 fa fb g):=PT.imp (Yoz ho ha hb hm) fun _ _ _ h=>y09 hr h
theorem y4a{r:R2}{g:D->D->Option D}(hi:IxR X r)(hr:Sem2 X.K r g)(ha:MC X a fa)(hb:MC X b fb)(hs:Yis b):ME X (.Subscript a b pos) (b2 fa fb g):=PE.imp (y62 hi ha hb hs) fun _ _ _ h=>Yzu hr h
def i2(C:Int->Int->Bool)(g:Int->Int->Int):D->D->Option D
 | .int i,.int j=>if C i j=true then some (.int (g i j))else none
 | _,_=>none
def i2b(g:Int->Int->Bool):D->D->Option Bool
 | .int i,.int j=>some (g i j)
 | _,_=>none
theorem Yqm{C:Int->Int->Prop}{Cb:Int->Int->Bool}(hC:∀i j,Cb i j=true->C i j){g:Int->Int->Int}:Sem2 K (rI C fun i j=>.int (g i j)) (i2 Cb g):=by
 intro x y dx dy d H G Q h s rx ry q
 unfold i2 at h
 split at h
 ·split at h
  ·rename_i i j hc
   cases h
   rw[Ct]at rx ry
   subst rx;subst ry
   exact⟨i,j,rfl,rfl,hC i j hc,q _ H G (.refl s) (by rw[Rp])⟩
  ·cases h
 ·cases h
theorem Yo5{g:Int->Int->Int}:Sem2 K (rI0 fun i j=>.int (g i j)) (i2 (fun _ _=>true) g):=by
 intro x y dx dy d H G Q h s rx ry q
 unfold i2 at h
 split at h
 ·split at h
  ·rename_i i j hc
   cases h
   rw[Ct]at rx ry
   subst rx;subst ry
   exact⟨i,j,rfl,rfl,q _ H G (.refl s) (by rw[Rp])⟩
  ·cases h
 ·cases h
theorem Yiu{g:Int->Int->Bool}:Ygl K (rI0 fun i j=>.bl (g i j)) (i2b g):=by
 intro x y dx dy d H G Q h s rx ry q
 unfold i2b at h
 split at h
 ·rename_i i j
  cases h
  rw[Ct]at rx ry
  subst rx;subst ry
  exact⟨i,j,rfl,rfl,q⟩
 ·cases h
def addI:D->D->Option D:=i2 (fun _ _=>true) fun i j=>i+j
def subI:D->D->Option D:=i2 (fun _ _=>true) fun i j=>i - j
def mulI:D->D->Option D:=i2 (fun i j=>(decide (-(2 ^ 64) < i)&&decide (i < 2 ^ 64))||(decide (-(2 ^ 64) < j)&&decide (j < 2 ^ 64))) fun i j=>i * j
def divI:D->D->Option D:=i2 (fun _ j=>decide (0 < j)&&decide (j < 1073741824)) fun i j=>i / j
def modI:D->D->Option D:=i2 (fun _ j=>decide (0 < j)) fun i j=>i % j
theorem y4b(ha:MC X a fa)(hb:MC X b fb):ME X (.BinOp a .Sub b pos) (b2 fa fb subI):=Yj7 y3r Yo5 ha hb
theorem y4c(ha:MC X a fa)(hb:MC X b fb):ME X (.BinOp a .Mult b pos) (b2 fa fb mulI):=Yj7 y3s (Yqm fun i j h=>by
 simp only[Bool.or_eq_true,qx,decide_eq_true_eq]at h
 exact h) ha hb
theorem y4d(ha:MC X a fa)(hb:MC X b fb):ME X (.BinOp a .FloorDiv b pos) (b2 fa fb divI):=Yj7 y0t (Yqm fun i j h=>by
 simp only[qx,decide_eq_true_eq]at h
 exact h) ha hb
theorem y4e(ha:MC X a fa)(hb:MC X b fb):ME X (.BinOp a .Mod b pos) (b2 fa fb modI):=Yj7 Yzl (Yqm fun i j h=>of_decide_eq_true h) ha hb
def ltI:=i2b fun i j=>decide (i < j)
def leI:=i2b fun i j=>decide (i<=j)
def gtI:=i2b fun i j=>decide (j < i)
theorem y64(ha:MC X a fa)(hb:MC X b fb):MT X (.Compare a [.Lt] [b] pos) (b2 fa fb ltI):=Ynp y3t Yiu ha hb (Ylm _)
theorem y65(ha:MC X a fa)(hb:MC X b fb):MT X (.Compare a [.Gt] [b] pos) (b2 fa fb gtI):=Ynp y6w Yiu ha hb (Ylm _)
mutual
def dep:D->Nat
 | .tup l=>depL l+1
 | .lst l=>depL l+1
 | .scr _=>1
 | .dct _ _ _=>1000
 | .obj _ _ _=>1000
 | .adr _=>1000
 | _=>0
def depL:List D->Nat
 | []=>0
 | d::l=>max (dep d) (depL l)
end
mutual
theorem Ye0:∀d:D,(toPy d).depth<=dep d
 | .non=>by simp[toPy,PyData.depth,dep]
 | .bl b=>by simp[toPy,PyData.depth,dep]
 | .int b=>by simp[toPy,PyData.depth,dep]
 | .str b=>by simp[toPy,PyData.depth,dep]
 | .tup l=>by have:=Yg4 l;simp[toPy,PyData.depth,dep];lia
 | .lst l=>by have:=Yg4 l;simp[toPy,PyData.depth,dep];lia
 | .scr ns=>by rw[toPy,PyData.depth,dep,W.ke_depthAll];exact qu _
 | .dct _ _ _=>by simp[toPy,PyData.depth,dep]
 | .obj _ _ _=>by simp[toPy,PyData.depth,dep]
 | .adr _=>by simp[toPy,PyData.depth,dep]
theorem Yg4:∀l:List D,PyData.depthAll (Ygk l)<=depL l
 | []=>by simp[Ygk,PyData.depthAll,depL]
 | d::l=>by have h1:=Ye0 d;have h2:=Yg4 l;simp[Ygk,PyData.depthAll,depL];lia
end
section
variable {pins:List (Addr × Obj)} {σ:L2.St} {H:Hp} {s:Shared}
mutual
theorem Yhw(I:Inv X pins σ H s):∀{d:D} {v:V} {u:Value},dep d<=100->Rp X.K H d v->RelV v u->∃as,Reads s.heap u (toPy d) as/\(toPy d).canLay0=true
 | .non,v,u,_,r,q=>by
   rw[Rp]at r;subst r
   cases q
   exact⟨_,by rw[toPy];exact .none,by simp[toPy,PyData.canLay0]⟩
 | .bl b,v,u,_,r,q=>by
   rw[Rp]at r;subst r
   cases q
   exact⟨_,by rw[toPy];exact .bool b,by simp[toPy,PyData.canLay0]⟩
 | .int i,v,u,_,r,q=>by
   rw[Rp]at r;subst r
   obtain⟨t,rfl⟩:=q
   exact⟨_,by rw[toPy];exact .int i t,by simp[toPy,PyData.canLay0]⟩
 | .str x,v,u,_,r,q=>by
   rw[Rp]at r;obtain⟨rfl,hx⟩:=r
   obtain⟨t,rfl⟩:=q
   exact⟨_,by rw[toPy];exact .str x t,by simp[toPy,PyData.canLay0,hx]⟩
 | .tup l,v,u,hd,r,q=>by
   rw[Rp]at r
   obtain⟨a,xs,rfl,g,rl⟩:=r
   cases q
   obtain⟨_,its,rv,ht⟩:=(show ObjOk X.prog X.w H s.heap a (.tup xs) from I.hok a _ g)
   obtain⟨o,h1,h2,n,h3⟩:=ht
   obtain⟨as,q,hc⟩:=Yj8 I (by simp only[dep]at hd;lia) rl rv
   exact⟨_,by rw[toPy];exact .tuple h1 h2 h3 (by simpa using q),by simpa [toPy,PyData.canLay0]using hc⟩
 | .lst l,v,u,hd,r,q=>by
   rw[Rp]at r
   obtain⟨a,xs,rfl,g,rl⟩:=r
   cases q
   obtain⟨its,rv,pl,_⟩:=I.list (.inl g)
   obtain⟨o,h1,h2,n,h3⟩:=pl.isList
   obtain⟨as,q,hc⟩:=Yj8 I (by simp only[dep]at hd;lia) rl rv
   exact⟨_,by rw[toPy];exact .list h1 h2 h3 (by simpa using q),by simpa [toPy,PyData.canLay0]using hc⟩
 | .dct _ _ _,v,u,hd,r,q=>by simp[dep]at hd
 | .obj _ _ _,v,u,hd,r,q=>by simp[dep]at hd
 | .adr _,v,u,hd,r,q=>by simp[dep]at hd
 | .scr ns,v,u,_,r,q=>by
   rw[Rp]at r
   obtain⟨a,rfl,g⟩:=r
   cases q
   obtain⟨its,rv,pl,_⟩:=I.list g
   exact⟨_,by rw[toPy];exact W.reads_of_ints pl.isList (Ysf rv),by rw[toPy];simp[PyData.canLay0,W.ke_canLayAll0]⟩
theorem Yj8(I:Inv X pins σ H s):∀{l:List D} {xs:List V} {us:List Value},depL l<=100->RpL X.K H l xs->Vals xs us->∃as,ReadsAll s.heap us (Ygk l) as/\PyData.canLayAll0 (Ygk l)=true
 | [],xs,us,_,r,q=>by
   rw[RpL]at r;subst r
   cases q
   exact⟨_,by rw[Ygk];exact .nil,by simp[Ygk,PyData.canLayAll0]⟩
 | d::l,xs,us,hd,r,q=>by
   rw[RpL]at r
   obtain⟨x,xs,rfl,r1,r2⟩:=r
   rw[depL]at hd
   cases q with
   | cons q1 q2=>
     obtain⟨as,h1,h2⟩:=Yhw I (by lia) r1 q1
     obtain⟨bs,h3,h4⟩:=Yj8 I (by lia) r2 q2
     exact⟨_,by rw[Ygk];exact .cons h1 h3,by simp[Ygk,PyData.canLayAll0,h2,h4]⟩
end
end
def eqM(neg:Bool):D->D->Option Bool:=fun d e=>if dep d<=60/\dep e<=60 then some (if neg then !eqD d e else eqD d e)else none
def rEqD(K:W.Frag)(neg:Bool):R2:=fun x y H Q=>∃d e,Rp K H d x/\Rp K H e y/\(dep d<=60/\dep e<=60)/\Q (.bl (if neg then !eqD d e else eqD d e)) H
theorem Yzw(hu:X.A.units+64 < cLine):OpR X (compareOp .Eq) (rEqD X.K false):=by
 intro pins s σ H x y v u Q I rx ry h
 obtain⟨d,e,r1,r2,hd,q⟩:=h
 obtain⟨as,h1,h2⟩:=Yhw I (by lia) r1 rx
 obtain⟨bs,h3,h4⟩:=Yhw I (by lia) r2 ry
 exact SeqAt.eqOverData X.prog X.w X.A X.xe s v u _ _ as bs _ h1 h3 h2 h4 (by have:=Ye0 d;have:=Ye0 e;lia) ⟨.bl _,H,I,rfl,by exact q⟩
theorem y4f(hu:X.A.units+64 < cLine):OpR X (compareOp .NotEq) (rEqD X.K true):=by
 intro pins s σ H x y v u Q I rx ry h
 obtain⟨d,e,r1,r2,hd,q⟩:=h
 obtain⟨as,h1,h2⟩:=Yhw I (by lia) r1 rx
 obtain⟨bs,h3,h4⟩:=Yhw I (by lia) r2 ry
 exact SeqAt.neOverData X.prog X.w X.A X.xe s v u _ _ as bs _ h1 h3 h2 h4 (by have:=Ye0 d;have:=Ye0 e;lia) ⟨.bl _,H,I,rfl,by exact q⟩
theorem Yo6{neg:Bool}:Ygl K (rEqD K neg) (eqM neg):=by
 intro x y dx dy b H G Q h s rx ry q
 unfold eqM at h
 split at h
 ·cases h
  exact⟨dx,dy,rx.rp s,ry.rp s,by assumption,q⟩
 ·cases h
theorem y66(hu:X.A.units+64 < cLine)(ha:MC X a fa)(hb:MC X b fb):ME X (.Compare a [.Eq] [b] pos) (mB (b2 fa fb (eqM false))):=Yzv (Yzw hu) Yo6 ha hb (Ylm _)
theorem y67(hu:X.A.units+64 < cLine)(ha:MC X a fa)(hb:MC X b fb):MT X (.Compare a [.Eq] [b] pos) (b2 fa fb (eqM false)):=Ynp (Yzw hu) Yo6 ha hb (Ylm _)
theorem y68(hu:X.A.units+64 < cLine)(ha:MC X a fa)(hb:MC X b fb):MT X (.Compare a [.NotEq] [b] pos) (b2 fa fb (eqM true)):=Ynp (y4f hu) Yo6 ha hb (Ylm _)
def Ycg:D->Option (List D)
 | .tup l=>some l
 | .lst l=>some l
 | .scr ns=>some (ns.map D.int)
 | _=>none
theorem Ydv{c:D}{l:List D}(h:Ycg c=some l):c=.tup l\/c=.lst l\/∃ns,c=.scr ns/\l=ns.map D.int:=by
 cases c with
 | tup m=>cases h;exact .inl rfl
 | lst m=>cases h;exact .inr (.inl rfl)
 | scr ns=>cases h;exact .inr (.inr ⟨ns,rfl,rfl⟩)
 | non=>cases h
 | bl _=>cases h
 | int _=>cases h
 | str _=>cases h
 | dct _ _ _=>cases h
 | obj _ _ _=>cases h
 | adr _=>cases h
end
end
section
variable {K:W.Frag}
section
variable {X:Cx} {a b c e:Expr} {es:List Expr} {fa fb f:Ro->Option D} {fc fd:Ro->Option Bool} {ga:Ro->Option (List D)} {pos:Pos} {rest:List Expr}
def truD:D->Option Bool
 | .non=>some false
 | .bl b=>some b
 | .int i=>some (i != 0)
 | .tup l=>some (!l.isEmpty)
 | .lst l=>some (!l.isEmpty)
 | .scr ns=>some (!ns.isEmpty)
 | .str _=>none
 | .dct _ _ _=>none
 | .obj _ _ _=>none
 | .adr _=>none
theorem y1a{d:D}{v:V}{k:Bool}{H G:Hp}(h:truD d=some k)(r:Ct X.K G H d v):TruV X.K v H k:=by
 cases d with
 | non=>rw[Ct]at r;subst r;cases h;rfl
 | bl b=>rw[Ct]at r;subst r;cases h;rfl
 | int i=>rw[Ct]at r;subst r;cases h;rfl
 | str x=>cases h
 | dct _ _ _=>cases h
 | obj _ _ _=>cases h
 | adr _=>cases h
 | tup l=>
   rw[Ct]at r
   obtain⟨a,xs,rfl,g,rl⟩:=r
   cases h
   refine .inr (.inl ⟨xs,.inl (.inl g.1),?_⟩)
   have:=rl.length
   cases l<;>cases xs<;>simp_all
 | lst l=>
   rw[Ct]at r
   obtain⟨a,xs,rfl,g,rl⟩:=r
   cases h
   refine .inl ⟨xs,.inl g,?_⟩
   have:=rl.length
   cases l<;>cases xs<;>simp_all
 | scr ns=>
   rw[Ct]at r
   obtain⟨a,rfl,g⟩:=r
   cases h
   refine .inl ⟨_,g,?_⟩
   cases ns<;>simp
theorem y4g(ha:MC X a fa)(he:∀whole,isTrue a X.env whole=(do let v <-whole;standAt a.pos;holding [v] (truthy v)):=by intro _;rfl):MT X a (b1 fa truD):=
 PT.imp (Yxc ha he) fun σ H Q hx_=>by
  obtain⟨ρ,k,H0,G0,G,e,s,h⟩:=hx_
  obtain⟨d,h1,h2⟩:=Ybn e
  exact tCof.at h1 s fun v H1 G1 g1 r1 s1=>⟨k,y1a h2 r1,h H1 G1 g1⟩
def andT(fc fd:Ro->Option Bool):Ro->Option Bool:=fun ρ=>(fc ρ).bind fun k=>if k=true then fd ρ else some false
def orT(fc fd:Ro->Option Bool):Ro->Option Bool:=fun ρ=>(fc ρ).bind fun k=>if k=true then some true else fd ρ
def notT(fc:Ro->Option Bool):Ro->Option Bool:=fun ρ=>(fc ρ).map (!·)
abbrev MW(X:Cx)(e:Expr)(f:Ro->Option Bool):Prop:=PW X e (tTof X.K f)
theorem PW.imp{t t':TT}(h:PW X e t)(i:∀σ H Q,t' σ H Q->t σ H Q):PW X e t':=fun whole pins s σ H Q I hw=>h whole pins s σ H Q I (i σ H Q hw)
theorem y1b(ha:MT X a fc):MW X (.BoolOp .And [a] pos) fc:=y0r ha
theorem y4h(ha:MT X a fc):MW X (.BoolOp .Or [a] pos) fc:=y3l ha
theorem y1c{σ:L2.St}{H:Hp}{Q:Bool->Hp->Prop}(h:tTof K (andT fc fd) σ H Q):tAnd (tTof K fc) (tTof K fd) σ H Q:=by
 obtain⟨ρ,k,H0,G0,G,e,s,h⟩:=h
 unfold andT at e
 obtain⟨k1,h1,e⟩:=qa e
 refine tTof.at h1 s fun H1 G1 g1 s1=>?_
 cases k1 with
 | true=>
   rw[if_pos rfl]at e ⊢
   exact tTof.at e s1 fun H2 G2 g2 _=>h H2 G2 (g1.trans g2)
 | false=>
   rw[if_neg qi]at e ⊢
   cases e
   exact h H1 G1 g1
theorem y4i{σ:L2.St}{H:Hp}{Q:Bool->Hp->Prop}(h:tTof K (orT fc fd) σ H Q):tOr (tTof K fc) (tTof K fd) σ H Q:=by
 obtain⟨ρ,k,H0,G0,G,e,s,h⟩:=h
 unfold orT at e
 obtain⟨k1,h1,e⟩:=qa e
 refine tTof.at h1 s fun H1 G1 g1 s1=>?_
 cases k1 with
 | false=>
   rw[if_neg qi]at e ⊢
   exact tTof.at e s1 fun H2 G2 g2 _=>h H2 G2 (g1.trans g2)
 | true=>
   rw[if_pos rfl]at e ⊢
   cases e
   exact h H1 G1 g1
theorem y4j(ha:MT X a fc)(hb:MW X (.BoolOp .And (b::rest) pos) fd):MW X (.BoolOp .And (a::b::rest) pos) (andT fc fd):=PW.imp (y3m ha hb) fun _ _ _ h=>y1c h
theorem y69(ha:MT X a fc)(hb:MW X (.BoolOp .Or (b::rest) pos) fd):MW X (.BoolOp .Or (a::b::rest) pos) (orT fc fd):=PW.imp (y6q ha hb) fun _ _ _ h=>y4i h
theorem y4k(ha:MT X a fc):MT X (.UnaryOp .Not a pos) (notT fc):=PT.imp (Yzh ha) fun σ H Q hx_=>by
 obtain⟨ρ,k,H0,G0,G,e,s,h⟩:=hx_
 obtain⟨k1,h1,rfl⟩:=qc e
 exact tTof.at h1 s fun H1 G1 g1 _=>h H1 G1 g1
def blD:D->Option Bool
 | .bl b=>some b
 | _=>none
theorem Ymb{d:D}{k:Bool}(h:blD d=some k):d=.bl k:=by cases d<;>simp[blD]at h;subst h;rfl
def andV(fa fb:Ro->Option D):Ro->Option D:=fun ρ=>(b1 fa blD ρ).bind fun k=>if k=true then fb ρ else some (.bl false)
def orV(fa fb:Ro->Option D):Ro->Option D:=fun ρ=>(b1 fa blD ρ).bind fun k=>if k=true then some (.bl true)else fb ρ
def notV(fa:Ro->Option D):Ro->Option D:=fun ρ=>(b1 fa blD ρ).map fun k=>.bl (!k)
theorem y1d(ha:ME X a fa):ME X (.BoolOp .And [a] pos) fa:=Yzi ha
theorem y4l(ha:ME X a fa):ME X (.BoolOp .Or [a] pos) fa:=Yzi ha
theorem y4m(ha:ME X a fa)(hb:ME X (.BoolOp .And (b::rest) pos) fb):ME X (.BoolOp .And (a::b::rest) pos) (andV fa fb):=PE.imp (y3n ha hb) fun σ H Q hx_=>by
 obtain⟨ρ,d,H0,G0,G,e,s,h⟩:=hx_
 unfold andV at e
 obtain⟨k,h1,e⟩:=qa e
 obtain⟨d1,h2,h3⟩:=Ybn h1
 cases Ymb h3
 refine tOf.at h2 s fun v H1 G1 g1 r1 s1=>⟨k,by rw[Rp]at r1;exact r1,?_⟩
 cases k with
 | true=>
   rw[if_pos rfl]at e ⊢
   exact tOf.at e s1 fun w H2 G2 g2 r2 _=>h w H2 G2 (g1.trans g2) r2
 | false=>
   rw[if_neg qi]at e ⊢
   cases e
   exact h _ H1 G1 g1 (by rw[Rp])
theorem y7a(ha:ME X a fa)(hb:ME X (.BoolOp .Or (b::rest) pos) fb):ME X (.BoolOp .Or (a::b::rest) pos) (orV fa fb):=PE.imp (y6t ha hb) fun σ H Q hx_=>by
 obtain⟨ρ,d,H0,G0,G,e,s,h⟩:=hx_
 unfold orV at e
 obtain⟨k,h1,e⟩:=qa e
 obtain⟨d1,h2,h3⟩:=Ybn h1
 cases Ymb h3
 refine tOf.at h2 s fun v H1 G1 g1 r1 s1=>⟨k,by rw[Rp]at r1;exact r1,?_⟩
 cases k with
 | false=>
   rw[if_neg qi]at e ⊢
   exact tOf.at e s1 fun w H2 G2 g2 r2 _=>h w H2 G2 (g1.trans g2) r2
 | true=>
   rw[if_pos rfl]at e ⊢
   cases e
   exact h _ H1 G1 g1 (by rw[Rp])
theorem y4n(ha:ME X a fa):ME X (.UnaryOp .Not a pos) (notV fa):=PE.imp (y3o ha) fun σ H Q hx_=>by
 obtain⟨ρ,d,H0,G0,G,e,s,h⟩:=hx_
 obtain⟨k,h1,rfl⟩:=qc e
 obtain⟨d1,h2,h3⟩:=Ybn h1
 cases Ymb h3
 exact tOf.at h2 s fun v H1 G1 g1 r1 s1=>⟨k,by rw[Rp]at r1;exact r1,h _ H1 G1 g1 (by rw[Rp])⟩
def ifV(fc:Ro->Option Bool)(fa fb:Ro->Option D):Ro->Option D:=fun ρ=>(fc ρ).bind fun k=>if k=true then fa ρ else fb ρ
theorem y7b(hc:MT X c fc)(ha:ME X a fa)(hb:ME X b fb):ME X (.IfExp c a b pos) (ifV fc fa fb):=PE.imp (Yw4 hc ha hb) fun σ H Q hx_=>by
 obtain⟨ρ,d,H0,G0,G,e,s,h⟩:=hx_
 unfold ifV at e
 obtain⟨k,h1,e⟩:=qa e
 refine tTof.at h1 s fun H1 G1 g1 s1=>?_
 cases k with
 | true=>
   rw[if_pos rfl]at e ⊢
   exact tOf.at e s1 fun w H2 G2 g2 r2 _=>h w H2 G2 (g1.trans g2) r2
 | false=>
   rw[if_neg qi]at e ⊢
   exact tOf.at e s1 fun w H2 G2 g2 r2 _=>h w H2 G2 (g1.trans g2) r2
def Ye8:D->Bool
 | .non=>true
 | _=>false
theorem Yxi{d:D}{v:V}{G H:Hp}(r:Ct K G H d v):decide (v=V.non)=Ye8 d:=by
 cases d with
 | non=>rw[Ct]at r;subst r;rfl
 | bl _=>rw[Ct]at r;subst r;rfl
 | int _=>rw[Ct]at r;subst r;rfl
 | str _=>rw[Ct]at r;obtain⟨rfl,_⟩:=r;rfl
 | tup _=>rw[Ct]at r;obtain⟨_,_,rfl,_⟩:=r;rfl
 | lst _=>rw[Ct]at r;obtain⟨_,_,rfl,_⟩:=r;rfl
 | scr _=>rw[Ct]at r;obtain⟨_,rfl,_⟩:=r;rfl
 | dct _ _ _=>rw[Ct]at r;obtain⟨_,_,_,rfl,_⟩:=r;rfl
 | obj _ _ _=>rw[Ct]at r;obtain⟨_,_,_,_,rfl,_⟩:=r;rfl
 | adr _=>rw[Ct]at r;subst r;rfl
def isN(neg:Bool):D->D->Option Bool:=fun d e=>if Ye8 e then some (if neg then !Ye8 d else Ye8 d)else none
theorem y1e:Ygl K (fun x y H Q=>y=.non/\Q (.bl (decide (x=.non))) H) (isN false):=by
 intro x y dx dy b H G Q h s rx ry q
 unfold isN at h
 split at h
 ·rename_i hn
  cases h
  cases dy<;>simp[Ye8]at hn
  rw[Ct]at ry
  exact⟨ry,by rw[Yxi rx];exact q⟩
 ·cases h
theorem y4o(ha:MC X a fa)(hb:MC X b fb):MT X (.Compare a [.Is] [b] pos) (b2 fa fb (isN false)):=Ynp y3u y1e ha hb (Ylm _)
def ixD:D->D->Option D
 | c,.int i=>(Ycg c).bind fun l=>atI l i
 | _,_=>none
theorem Ytn{G:Hp}{l:List D}{xs:List V}{i:Int}{d:D}(r:RpL K G l xs)(h:atI l i=some d):∃x,atI xs i=some x/\Rp K G d x:=by
 unfold atI at h ⊢
 rw[r.length]
 obtain⟨j,h1,h2⟩:=qa h
 obtain⟨x,h3,h4⟩:=r.get h2
 exact⟨x,by rw[h1];exact h3,h4⟩
theorem y4p:Sem2 X.K (rIx X.K) ixD:=by
 intro x y dx dy d H G Q h s rx ry q
 unfold ixD at h
 split at h
 ·rename_i c i
  obtain⟨l,h1,h2⟩:=qa h
  rw[Ct]at ry
  subst ry
  rcases Ydv h1 with rfl | rfl | ⟨ns,rfl,rfl⟩
  ·rw[Ct]at rx
   obtain⟨p,xs,rfl,g,rl⟩:=rx
   obtain⟨v,h3,h4⟩:=Ytn rl h2
   exact .inr (.inl ⟨p,xs,i,v,rfl,rfl,.inl (.inl g.1),h3,q v H G (.refl s) h4⟩)
  ·rw[Ct]at rx
   obtain⟨p,xs,rfl,g,rl⟩:=rx
   obtain⟨v,h3,h4⟩:=Ytn rl h2
   exact .inl ⟨p,xs,i,v,rfl,rfl,.inl g,h3,q v H G (.refl s) h4⟩
  ·rw[Ct]at rx
   obtain⟨p,rfl,g⟩:=rx
   obtain⟨v,h3,h4⟩:=Ytn (G:=G) (K:=X.K) (.ints ns) h2
   exact .inl ⟨p,_,i,v,rfl,rfl,g,h3,q v H G (.refl s) h4⟩
 ·cases h
theorem y1f(ha:MC X a fa)(hb:MC X b fb)(hs:Yis b:=by intro _ _;rfl):ME X (.Subscript a b pos) (b2 fa fb ixD):=y4a y30 y4p ha hb hs
def intD:D->Option Int
 | .int i=>some i
 | _=>none
def optI(f:Option (Ro->Option D)):Ro->Option (Option Int):=fun ρ=>match f with
 | none=>some none
 | some f=>(b1 f intD ρ).map some
def cutD(l:List D)(lo hi:Option Int):List D:=(l.drop (HT.sIx l.length 0 lo)).take (HT.sIx l.length l.length hi - HT.sIx l.length 0 lo)
def lstD:D->Option (List D)
 | .lst l=>some l
 | .scr ns=>some (ns.map D.int)
 | _=>none
theorem Ynq{d:D}{l:List D}{v:V}{G H:Hp}(h:lstD d=some l)(r:Ct K G H d v):∃p xs,v=.ref p/\SqL K H p xs/\RpL K G l xs:=by
 cases d with
 | lst m=>
   cases h
   rw[Ct]at r
   obtain⟨p,xs,e,g,q⟩:=r
   exact⟨p,xs,e,.inl g,q⟩
 | scr ns=>
   cases h
   rw[Ct]at r
   obtain⟨p,e,g⟩:=r
   exact⟨p,_,e,g,.ints ns⟩
 | non=>cases h
 | bl _=>cases h
 | int _=>cases h
 | str _=>cases h
 | tup _=>cases h
 | dct _ _ _=>cases h
 | obj _ _ _=>cases h
 | adr _=>cases h
def slF(fa:Ro->Option D)(lo hi:Option (Ro->Option D)):Ro->Option (List D):=fun ρ=>(b1 fa lstD ρ).bind fun l=>(optI lo ρ).bind fun i=>(optI hi ρ).bind fun j=>some (cutD l i j)
abbrev tO(K:W.Frag)(f:Option (Ro->Option D)):TO:=match f with
 | none=>Ytg
 | some f=>y3z (tCof K f)
theorem y4q{H0 G0 H G:Hp}{σ:L2.St}{ρ:Ro}{f:Option (Ro->Option D)}{i:Option Int}{Q:Option Int->Hp->Prop}(e:optI f ρ=some i)(s:SR K H0 G0 σ H G ρ)(h:∀H' G',Gr H G H' G'->SR K H0 G0 σ H' G' ρ->Q i H'):tO K f σ H Q:=by
 cases f with
 | none=>
   cases e
   exact h H G (.refl s.seen) s
 | some f=>
   obtain⟨k,h1,rfl⟩:=qc e
   obtain⟨d,h2,h3⟩:=Ybn h1
   refine tCof.at h2 s fun v H1 G1 g1 r1 s1=>⟨k,?_,h H1 G1 g1 s1⟩
   cases d<;>simp[intD]at h3
   subst h3
   rw[Ct]at r1
   exact r1
theorem Yxj{lo hi:Option Expr}{fl fh:Option (Ro->Option D)}{p2:Pos}(ha:MC X a fa)(hl:PO X lo (tO X.K fl))(hh:PO X hi (tO X.K fh)):MF X (.Subscript a (.Slice lo hi none p2) pos) (slF fa fl fh):=
 PE.imp (Yqk y05 ha hl hh) fun σ H Q hx_=>by
  obtain⟨ρ,l,H0,G0,G,e,s,h⟩:=hx_
  unfold slF at e
  obtain⟨l0,h1,e⟩:=qa e
  obtain⟨i,h2,e⟩:=qa e
  obtain⟨j,h3,e⟩:=qa e
  cases e
  obtain⟨d,h4,h5⟩:=Ybn h1
  refine tCof.at h4 s fun v H1 G1 g1 r1 s1=>y4q h2 s1 fun H2 G2 g2 s2=>y4q h3 s2 fun H3 G3 g3 s3=>?_
  have r3:=(r1.grow g2).grow g3
  obtain⟨p,xs,rfl,g,rl⟩:=Ynq h5 r3
  refine⟨p,xs,rfl,g,fun q hq=>?_⟩
  have hq0:H q=none:=g1.h.free (g2.h.free (g3.h.free hq))
  have gg:=((g1.trans g2).trans g3).trans (Gr.hid (p:=q) s3.seen hq (.lst (cutV xs i j)))
  refine h q _ _ G3 gg hq0 (s3.seen.free hq) Yq ?_
  unfold cutD cutV
  rw[rl.length]
  exact(rl.drop _).take _
theorem y7c:PO X none (tO X.K none):=Yth
theorem y7d(h:MC X e f):PO X (some e) (tO X.K (some f)):=Yti h
def lF(f:Ro->Option (List D)):Ro->Option D:=fun ρ=>(f ρ).map D.lst
theorem MF.me{g:Ro->Option (List D)}(h:MF X e g):ME X e (lF g):=PE.imp h fun σ H Q hx_=>by
 obtain⟨ρ,d,H0,G0,G,e,s,h⟩:=hx_
 obtain⟨l,h1,rfl⟩:=qc e
 exact⟨ρ,l,H0,G0,G,h1,s,fun p xs H' G' g hp gp e' r=>h _ H' _ (g.show hp gp e') (by
  rw[Rp]
  refine⟨p,xs,rfl,.inl Yq,r.mono fun b o q=>?_⟩
  rw[Yn (y7 q gp)];exact q)⟩
def aNil:Ro->Option (List D):=fun _=>some []
def Yg(f:Ro->Option D)(g:Ro->Option (List D)):Ro->Option (List D):=fun ρ=>(f ρ).bind fun d=>(g ρ).map (d::·)
theorem y4r:MA X [] aNil:=PA.imp Yd5 fun σ H Q hx_=>by
 obtain⟨ρ,l,H0,G0,G,e,s,h⟩:=hx_
 cases e
 exact h [] H G (.refl s.seen) .nil
theorem y1g(ha:ME X e f)(hr:MA X es ga)(hs:starEach (e::es) X.env=(false,eval e X.env)::starEach es X.env:=by rfl):MA X (e::es) (Yg f ga):=PA.imp (Ybb ha hr hs) fun σ H Q hx_=>by
 obtain⟨ρ,l,H0,G0,G,e,s,h⟩:=hx_
 unfold Yg at e
 obtain⟨d,h1,e⟩:=qa e
 obtain⟨l',h2,rfl⟩:=qc e
 exact tOf.at h1 s fun v H1 G1 g1 r1 s1=>tAof.at h2 s1 fun vs H2 G2 g2 r2 _=>h (v::vs) H2 G2 (g1.trans g2) (.cons (r1.mono g2.g) r2)
theorem Yto:MCA X [] aNil:=PA.imp Yd5 fun σ H Q hx_=>by
 obtain⟨ρ,l,H0,G0,G,e,s,h⟩:=hx_
 cases e
 exact h [] H G (.refl s.seen) rfl
theorem Yqn(ha:MC X e f)(hr:MCA X es ga)(hs:starEach (e::es) X.env=(false,eval e X.env)::starEach es X.env:=by rfl):MCA X (e::es) (Yg f ga):=PA.imp (Ybb ha hr hs) fun σ H Q hx_=>by
 obtain⟨ρ,l,H0,G0,G,e,s,h⟩:=hx_
 unfold Yg at e
 obtain⟨d,h1,e⟩:=qa e
 obtain⟨l',h2,rfl⟩:=qc e
 exact tCof.at h1 s fun v H1 G1 g1 r1 s1=>tCAof.at h2 s1 fun vs H2 G2 g2 r2 _=>h (v::vs) H2 G2 (g1.trans g2) ⟨v,vs,rfl,r1.grow g2,r2⟩
def cap6:Nat:=1000000
theorem Yes{n:Nat}(h:n<=cap6):n<=sizeLine:=qy h (by rw[sizeLine_eq];decide)
def dTup(ga:Ro->Option (List D)):Ro->Option D:=fun ρ=>(ga ρ).bind fun l=>if l.length<=cap6 then some (.tup l)else none
theorem y4s{x1}(h:MA X es ga):ME X (.Tuple es x1 pos) (dTup ga):=PE.imp (Yzp h) fun σ H Q hx_=>by
 obtain⟨ρ,d,H0,G0,G,e,s,h⟩:=hx_
 unfold dTup at e
 obtain⟨l,h1,e⟩:=qa e
 split at e
 ·cases e
  refine tAof.at h1 s fun vs H1 G1 g1 r1 s1=>⟨by rw[r1.length];exact Yes (by assumption),fun p hp=>?_⟩
  refine h _ _ _ (g1.trans (.new s1.seen hp (.tup vs))) ?_
  rw[Rp]
  exact⟨p,vs,rfl,Yq,r1.mono (Gr.new s1.seen hp (.tup vs)).g⟩
 ·cases e
def dLst(ga:Ro->Option (List D)):Ro->Option (List D):=fun ρ=>(ga ρ).bind fun l=>if l.length<=cap6 then some l else none
theorem y4t(h:MA X es ga):MF X (.List es pos) (dLst ga):=PE.imp (y3y h) fun σ H Q hx_=>by
 obtain⟨ρ,d,H0,G0,G,e,s,h⟩:=hx_
 unfold dLst at e
 obtain⟨l,h1,e⟩:=qa e
 split at e
 ·cases e
  refine tAof.at h1 s fun vs H1 G1 g1 r1 s1=>⟨by rw[r1.length];exact Yes (by assumption),fun p hp=>?_⟩
  exact h p vs _ G1 (g1.trans (.hid s1.seen hp (.lst vs))) (g1.h.free hp) (s1.seen.free hp) Yq r1
 ·cases e
def cC(ga:Ro->Option (List D))(g:List D->Option D):Ro->Option D:=fun ρ=>(ga ρ).bind g
theorem Yzx{r:List V->Hp->VK->Prop}{g:List D->Option D}(hr:SemC K r g){σ:L2.St}{H:Hp}{Q:VK}(h:tOf K (cC ga g) σ H Q):tCB r (tCAof K ga) σ H Q:=by
 obtain⟨ρ,d,H0,G0,G,e,s,h⟩:=h
 unfold cC at e
 obtain⟨l,h1,h2⟩:=qa e
 exact tCAof.at h1 s fun vs H1 G1 g1 r1 s1=>hr vs l d H1 G1 Q h2 s1.seen r1 fun v H' G' g2 r2=>h v H' G' (g1.trans g2) r2
section
variable {x:Str} {p:Pos} {id T:String} {r:List V->Hp->VK->Prop} {g:List D->Option D} {gf:List D->Option (List D)}
theorem Yxk(hc:Ye6 X (.builtin id) r)(hr:SemC X.K r g)(hg:Gl X x)(hm:X.mg x=none)(hv:bootBuiltins x=some (.builtin id))(ha:MCA X (e::es) ga)(hn:x≠"__name__":=by decide)(hdb:(x==("__debug__":Str))=false:=by decide)
 (he:starEach (e::es) X.env=(false,eval e X.env)::starEach es X.env:=by rfl) (hpl:(backTo pos (starEach es X.env)).any (·.1)=false:=by rfl):ME X (.Call (.Name x p) (e::es) [] pos) (cC ga g):=
 PE.imp (Yjn hc hg hm hv ha hn hdb he hpl) fun _ _ _ h=>Yzx hr h
theorem Ytp(hc:Ye6 X (.type T) r)(hr:SemC X.K r g)(hg:Gl X x)(hm:X.mg x=none)(hv:bootBuiltins x=some (.type T))(ha:MCA X (e::es) ga)(hn:x≠"__name__":=by decide)(hdb:(x==("__debug__":Str))=false:=by decide)
 (he:starEach (e::es) X.env=(false,eval e X.env)::starEach es X.env:=by rfl) (hpl:(backTo pos (starEach es X.env)).any (·.1)=false:=by rfl):ME X (.Call (.Name x p) (e::es) [] pos) (cC ga g):=
 PE.imp (Yj0 hc hg hm hv ha hn hdb he hpl) fun _ _ _ h=>Yzx hr h
end
def spOf(K:W.Frag)(n:Nat)(fn:List D->Option D):Sp:=fun vs H Q _=>vs.length=n/\∃ds d G,Same G H/\RpL K G ds vs/\fn ds=some d/\∀v H' G',Gr H G H' G'->Rp K G' d v->Q v H'
theorem y1h{k n:Nat}{fa':Addr}{fd':FuncData}{ps:List Str}{x:Str}{p:Pos}{fn:List D->Option D}(F:FnOk X.prog X.w X.K X.mg X.base CX0 k fa' fd' ps (spOf X.K n fn))(hr:Room k X.A)(hg:Gl X x)(hm:X.mg x=some (.ref fa'))(hk:W.keepIn X.K (.ref fa')=true)(hb:Binds X.K fd' ps [])
 (ha:MA X (e::es) ga) (hdb:(x==("__debug__":Str))=false:=by decide) (he:starEach (e::es) X.env=(false,eval e X.env)::starEach es X.env:=by rfl) (hpl:(backTo pos (starEach es X.env)).any (·.1)=false:=by rfl)
 (hl:∀ρ l,ga ρ=some l->l.length=n):ME X (.Call (.Name x p) (e::es) [] pos) (cC ga fn):=
 PE.imp (Ye7 (E:=E0) F hr hg hm hk hb .nil Yl7 ha hdb he hpl) fun σ H Q hx_=>by
  obtain⟨ρ,d,H0,G0,G,e,s,h⟩:=hx_
  unfold cC at e
  obtain⟨l,h1,h2⟩:=qa e
  refine tAof.at h1 s fun vs H1 G1 g1 r1 s1=>?_
  rw[Qf]
  exact⟨by rw[r1.length];exact hl ρ l h1,l,d,G1,s1.seen,r1,h2,fun v H' G' g2 r2=>h v H' G' (g1.trans g2) r2⟩
theorem Yxl{ρ:Ro}{l:List D}(h:aNil ρ=some l):l.length=0:=by cases h;rfl
theorem Ynr{f:Ro->Option D}{g:Ro->Option (List D)}{n:Nat}(hg:∀ρ l,g ρ=some l->l.length=n):∀ρ l,Yg f g ρ=some l->l.length=n+1:=fun ρ l h=>by
 unfold Yg at h
 obtain⟨d,h1,e⟩:=qa h
 obtain⟨l',h2,rfl⟩:=qc e
 rw[qs,hg ρ l' h2]
def lenC:List D->Option D
 | [c]=>(Ycg c).map fun l=>.int l.length
 | _=>none
theorem y4u{G H:Hp}{c:D}{l:List D}{v:V}(h:Ycg c=some l)(r:Ct K G H c v):∃p xs,v=.ref p/\(SqL K H p xs\/SqT K H p xs)/\RpL K G l xs:=by
 rcases Ydv h with rfl | rfl | ⟨ns,rfl,rfl⟩
 ·rw[Ct]at r
  obtain⟨p,xs,rfl,g,rl⟩:=r
  exact⟨p,xs,rfl,.inr (.inl (.inl g.1)),rl⟩
 ·rw[Ct]at r
  obtain⟨p,xs,rfl,g,rl⟩:=r
  exact⟨p,xs,rfl,.inl (.inl g),rl⟩
 ·rw[Ct]at r
  obtain⟨p,rfl,g⟩:=r
  exact⟨p,_,rfl,.inl g,.ints ns⟩
theorem Yo7{G:Hp}{d:D}{vs:List V}(h:RpL K G [d] vs):∃v,vs=[v]/\Rp K G d v:=by
 rw[RpL]at h
 obtain⟨x,r,rfl,h1,h2⟩:=h
 rw[RpL]at h2
 subst h2
 exact⟨x,rfl,h1⟩
theorem Yet{G H:Hp}{d:D}{vs:List V}(h:CtL K G H [d] vs):∃v,vs=[v]/\Ct K G H d v:=by
 obtain⟨x,r,rfl,h1,h2⟩:=h
 cases (show r=[] from h2)
 exact⟨x,rfl,h1⟩
theorem Yg5:SemC X.K (fun xs H Q=>∃p ys,xs=[.ref p]/\(SqL X.K H p ys\/SqT X.K H p ys)/\Q (.int ys.length) H) lenC:=by
 intro vs ds d H G Q h s r q
 match ds,h,r with
 | [c],h,r=>
   obtain⟨l,h1,rfl⟩:=qc h
   obtain⟨v,rfl,rv⟩:=Yet r
   obtain⟨p,xs,rfl,h2,rl⟩:=y4u (K:=X.K) h1 rv
   exact⟨p,xs,rfl,h2,q _ H G (.refl s) (by rw[Rp,rl.length])⟩
def tupC:List D->Option D
 | [c]=>(Ycg c).map D.tup
 | _=>none
theorem Yo8:SemC X.K (fun xs H Q=>∃p ys,xs=[.ref p]/\((SqL X.K H p ys/\∀l,H l=none->Q (.ref l) (upd H l (.tup ys)))\/(SqT X.K H p ys/\Q (.ref p) H))) tupC:=by
 intro vs ds d H G Q h s r q
 match ds,h,r with
 | [c],h,r=>
   obtain⟨l,h1,rfl⟩:=qc h
   obtain⟨v,rfl,rv⟩:=Yet r
   rcases Ydv h1 with rfl | rfl | ⟨ns,rfl,rfl⟩
   ·rw[Ct]at rv
    obtain⟨p,xs,rfl,g,rl⟩:=rv
    exact⟨p,xs,rfl,.inr ⟨.inl (.inl g.1),q _ H G (.refl s) (by rw[Rp];exact⟨p,xs,rfl,g.2,rl⟩)⟩⟩
   ·rw[Ct]at rv
    obtain⟨p,xs,rfl,g,rl⟩:=rv
    refine⟨p,xs,rfl,.inl ⟨.inl g,fun m hm=>q _ _ _ (.new s hm (.tup xs)) ?_⟩⟩
    rw[Rp]
    exact⟨m,xs,rfl,Yq,rl.mono (Gr.new s hm (.tup xs)).g⟩
   ·rw[Ct]at rv
    obtain⟨p,rfl,g⟩:=rv
    refine⟨p,_,rfl,.inl ⟨g,fun m hm=>q _ _ _ (.new s hm (.tup _)) ?_⟩⟩
    rw[Rp]
    exact⟨m,_,rfl,Yq,.ints ns⟩
def intC:List D->Option D
 | [.int i]=>some (.int i)
 | [.bl k]=>some (.int (if k then 1 else 0))
 | _=>none
theorem Yo9:SemC X.K (fun xs H Q=>(∃i,xs=[.int i]/\Q (.int i) H)\/∃k,xs=[.bl k]/\Q (.int (if k then 1 else 0)) H) intC:=by
 intro vs ds d H G Q h s r q
 match ds,h,r with
 | [.int i],h,r=>
   cases h
   obtain⟨v,rfl,rv⟩:=Yet r
   rw[Ct]at rv
   subst rv
   exact .inl ⟨i,rfl,q _ H G (.refl s) (by rw[Rp])⟩
 | [.bl k],h,r=>
   cases h
   obtain⟨v,rfl,rv⟩:=Yet r
   rw[Ct]at rv
   subst rv
   exact .inr ⟨k,rfl,q _ H G (.refl s) (by rw[Rp])⟩
end
end
section
variable {K:W.Frag}
section
variable {X:Cx} {e:Expr} {f:Ro->Option D} {gl:Ro->Option (List D)} {pos pos':Pos} {st:Stmt} {sts:List Stmt} {fs gs:Ro->Option Out}
def sNil:Ro->Option Out:=fun ρ=>some (.nx ρ)
def sSeq(f g:Ro->Option Out):Ro->Option Out:=fun ρ=>(f ρ).bind fun
 | .nx ρ'=>g ρ'
 | o=>some o
theorem y4v:MB X [] sNil:=PSs.imp Yox fun F σ H hx_=>by
 obtain⟨ρ,out,H0,G0,G,e,s,h⟩:=hx_
 cases e
 exact h σ H G s
theorem y1i(h1:MS X st fs)(h2:MB X sts gs):MB X (st::sts) (sSeq fs gs):=PSs.imp (Ydg h1 h2) fun F σ H hx_=>by
 obtain⟨ρ,out,H0,G0,G,e,s,h⟩:=hx_
 unfold sSeq at e
 obtain⟨o,h3,e⟩:=qa e
 cases o with
 | nx ρ'=>exact⟨ρ,.nx ρ',H0,G0,G,h3,s,fun σ' H' G' s'=>⟨ρ',out,H0,G0,G',e,s',h⟩⟩
 | rt d=>cases e;exact⟨ρ,.rt d,H0,G0,G,h3,s,h⟩
 | bk ρ'=>cases e;exact⟨ρ,.bk ρ',H0,G0,G,h3,s,h⟩
 | ct ρ'=>cases e;exact⟨ρ,.ct ρ',H0,G0,G,h3,s,h⟩
theorem y4w(h1:MS X st fs):MB X [st] fs:=Yl3 h1
def frz1(i:Nat)(ρ:Ro):Ro:=match ρ[i]? with
 | some (some (B.ow l))=>ρ.set i (some (.sh (.lst l)))
 | some (some (B.od t ks vs))=>ρ.set i (some (.sh (.dct t ks vs)))
 | _=>ρ
theorem SR.frz1{H0 G0 H G:Hp}{σ:L2.St}{ρ:Ro}(s:SR K H0 G0 σ H G ρ)(i:Nat):∃G',SR K H0 G0 σ H G' (M.frz1 i ρ):=by
 unfold M.frz1
 split
 ·rename_i l hl
  exact s.freeze hl
 ·rename_i t ks vs hl
  exact s.freezed hl
 ·exact⟨G,s⟩
def frz(is:List Nat)(ρ:Ro):Ro:=is.foldl (fun r i=>frz1 i r) ρ
theorem SR.frz{H0 G0 H:Hp}{σ:L2.St}:∀(is:List Nat) {G:Hp} {ρ:Ro},SR K H0 G0 σ H G ρ->∃G',SR K H0 G0 σ H G' (M.frz is ρ)
 | [],G,_,s=>⟨G,s⟩
 | i::is,_,ρ,s=>by
   obtain⟨G',s'⟩:=s.frz1 i
   exact SR.frz is s'
def wF(is:List Nat)(f:Ro->Option Out):Ro->Option Out:=fun ρ=>f (frz is ρ)
theorem y4x(is:List Nat)(h:MS X st fs):MS X st (wF is fs):=PS.imp h fun F σ H hx_=>by
 obtain⟨ρ,out,H0,G0,G,e,s,h⟩:=hx_
 obtain⟨G',s'⟩:=SR.frz is s
 exact⟨frz is ρ,out,H0,G0,G',e,s',h⟩
def sSet(i:Nat)(f:Ro->Option D):Ro->Option Out:=fun ρ=>(f ρ).map fun d=>.nx (ρ.set i (some (.sh d)))
def sOwn(i:Nat)(f:Ro->Option (List D)):Ro->Option Out:=fun ρ=>(f ρ).map fun l=>.nx (ρ.set i (some (.ow l)))
theorem y4y{i:Nat}{F:Ends}{σ:L2.St}{H:Hp}(h:sOf K (sSet i f) F σ H):tAsg (tOf K f) (Yw6 i) F σ H:=by
 obtain⟨ρ,out,H0,G0,G,e,s,h⟩:=h
 obtain⟨d,h1,rfl⟩:=qc e
 exact tOf.at h1 s fun v H1 G1 g1 r1 s1=>h _ H1 G1 (s1.set_sh i r1)
theorem y4z{i:Nat}{F:Ends}{σ:L2.St}{H:Hp}(h:sOf K (sOwn i gl) F σ H):tAsg (tFof K gl) (Yw6 i) F σ H:=by
 obtain⟨ρ,out,H0,G0,G,e,s,h⟩:=h
 obtain⟨l,h1,rfl⟩:=qc e
 exact⟨ρ,l,H0,G0,G,h1,s,fun p xs H' G' g hp gp e' r=>h _ H' G' (s.set_ow i g hp gp e' r)⟩
theorem y40(i:Nat){x:Str}(hN:X.N.Nodup)(he:ME X e f)(hi:X.N[i]?=some x:=by rfl)(hx:Loc X.env.scope x:=by first | exact Or.inl rfl | exact Or.inr rfl)(hs:swapsWith e (some (.Name x pos')) pos.line X.env=pure false:=by rfl)
 (hf:X.fn x=true\/X.env.scope.names.lookup x=some .local:=by first | exact .inl rfl | exact .inr rfl):MS X (.Assign [.Name x pos'] e pos) (sSet i f):=PS.imp (Ylk hN hi hx he hs hf) fun _ _ _ h=>y4y h
theorem y41(i:Nat){x:Str}(hN:X.N.Nodup)(he:MF X e gl)(hi:X.N[i]?=some x:=by rfl)(hx:Loc X.env.scope x:=by first | exact Or.inl rfl | exact Or.inr rfl)(hs:swapsWith e (some (.Name x pos')) pos.line X.env=pure false:=by rfl)
 (hf:X.fn x=true\/X.env.scope.names.lookup x=some .local:=by first | exact .inl rfl | exact .inr rfl):MS X (.Assign [.Name x pos'] e pos) (sOwn i gl):=PS.imp (Ylk hN hi hx he hs hf) fun _ _ _ h=>y4z h
def sRet(f:Ro->Option D):Ro->Option Out:=fun ρ=>(f ρ).map .rt
theorem y42(he:ME X e f):MS X (.Return (some e) pos) (sRet f):=PS.imp (Yni he) fun F σ H hx_=>by
 obtain⟨ρ,out,H0,G0,G,e,s,h⟩:=hx_
 obtain⟨d,h1,rfl⟩:=qc e
 exact tOf.at h1 s fun v H1 G1 g1 r1 s1=>h v H1 G1 s1.gr r1
def sIf(c:Ro->Option Bool)(f g:Ro->Option Out):Ro->Option Out:=fun ρ=>(c ρ).bind fun k=>if k=true then f ρ else g ρ
theorem y7e{c:Expr}{a b:List Stmt}{fc:Ro->Option Bool}(hc:MT X c fc)(ha:MB X a fs)(hb:MB X b gs):MS X (.If c a b pos) (sIf fc fs gs):=PS.imp (Ys5 hc ha hb) fun F σ H hx_=>by
 obtain⟨ρ,out,H0,G0,G,e,s,h⟩:=hx_
 unfold sIf at e
 obtain⟨k,h1,e⟩:=qa e
 refine tTof.at h1 s fun H1 G1 g1 s1=>?_
 cases k with
 | true=>
   rw[if_pos rfl]at e ⊢
   exact⟨ρ,out,H0,G0,G1,e,s1,h⟩
 | false=>
   rw[if_neg qi]at e ⊢
   exact⟨ρ,out,H0,G0,G1,e,s1,h⟩
def sMut(i:Nat)(f:Ro->Option D)(g:List D->D->Option (List D)):Ro->Option Out:=fun ρ=>(getO i ρ).bind fun l=>(f ρ).bind fun d=>(g l d).map fun l'=>.nx (ρ.set i (some (.ow l')))
theorem Yqo{H0 G0 H G:Hp}{σ:L2.St}{ρ:Ro}{i:Nat}{l:List D}(s:SR K H0 G0 σ H G ρ)(h:getO i ρ=some l):∃a xs,σ[i]?=some (some (V.ref a))/\H a=some (.lst xs)/\RpL K G l xs/\G a=none:=by
 obtain⟨a,xs,h1,h2,h3,h4,h5⟩:=s.ow i l (Yj6 h)
 exact⟨a,xs,h1,h4,h5,h2⟩
def appD(l:List D)(d:D):Option (List D):=if l.length < cap6 then some (l++[d])else none
theorem Ytq(i:Nat){x:Str}{p2 apos cpos:Pos}(he:ME X e f)(hN:X.N[i]?=some x:=by rfl)(hv:Vis X.env.scope x:=by first | exact Or.inl rfl | exact Or.inr (Or.inl rfl) | exact Or.inr (Or.inr rfl))
 (hd:(x==("__debug__":Str))=false:=by decide) (hcd:(x==("__classdict__":Str))=false:=by decide) (hse:swapsWith (.Call (.Attribute (.Name x p2) "append" apos) [e] [] cpos) none pos.line X.env=pure false:=by rfl)
 (hs:starEach [e] X.env=[(false,eval e X.env)]:=by rfl)
 (hfew:((backTo cpos (starEach [e] X.env)).all (fun x=>!x.1)&&(backToKw cpos (keywordEach [] X.env)).all (fun x=>x.1.isSome)&&decide ([e].length+([]:List Keyword).length+(if ([]:List Keyword).isEmpty then 0 else 1) < 30))=true:=by rfl)
 (hline:(apos.endLine==cpos.line)=true:=by rfl) (hbase:attributeBase (.Name x p2) "append" X.env (eval (.Name x p2) X.env)=eval (.Name x p2) X.env:=by rfl) :
 MS X (.Expr (.Call (.Attribute (.Name x p2) "append" apos) [e] [] cpos) pos) (sMut i f appD):=
 PS.imp (Yoy (Ytj PySem.F.plainAttrs_list PySem.F.slot_list_append PySem.F.type_list_append Yft (Yd3 hN hv hd hcd) (Ybb he Yd5 hs) hbase hfew hline hs rfl) hse) fun F σ H hx_=>by
  obtain⟨ρ,out,H0,G0,G,e,s,h⟩:=hx_
  unfold sMut at e
  obtain⟨l,h1,e⟩:=qa e
  obtain⟨d,h2,e⟩:=qa e
  obtain⟨l',h3,rfl⟩:=qc e
  unfold appD at h3
  split at h3
  ·rename_i hl
   cases h3
   obtain⟨a,xs,ha,hH,hr,hG⟩:=Yqo s h1
   refine⟨_,ha,.inl ⟨rfl,xs,SqL.of hH⟩,tOf.at h2 s fun v H1 G1 g1 r1 s1=>?_⟩
   refine⟨a,xs,v,rfl,rfl,g1.h _ _ hH,?_,h σ _ G1 (s1.mut (Yj6 h1) ha ((hr.mono g1.g).append (.one r1)))⟩
   rw[hr.length]
   exact Qd hl (Yes (qu _))
  ·cases h3
theorem Ysh{J:It}{G':Hp}{ds:List D}(hz:ds.length<=sizeLine)(h:∀(i:Nat) H2 G2,Same G' G2->Same G2 H2->(∀d,ds[i]?=some d->J.go i H2/\∀y H3,J.yld i H2 y H3->H3=H2/\Rp K G2 d y)/\(ds.length<=i->J.stop i H2)):Wk K J G' ds:=
 ⟨hz,fun i H2 G2 s1 s2=>⟨fun d hd=>⟨((h i H2 G2 s1 s2).1 d hd).1,fun y H3 q=>by
  obtain⟨rfl,r⟩:=((h i H2 G2 s1 s2).1 d hd).2 y H3 q
  exact⟨G2,.refl s2,r⟩⟩,(h i H2 G2 s1 s2).2⟩⟩
variable {tg:Expr}
def iSeq(K:W.Frag)(tl:TE):TI:=fun σ H R=>tl σ H fun x H1=>∃a xs,x=.ref a/\((SqL K H1 a xs/\(xs.length<=sizeLine->R (Itl K a) H1))\/(SqT K H1 a xs/\(xs.length<=sizeLine->R (Itt K a) H1)))
theorem y43{l:Expr}{tl:TE}(hl:PE X l tl):PI X tg l (iSeq X.K tl):=by
 intro pins s σ H R I h
 refine thn (hl pins s σ H _ I h) fun v s1 hx_=>?_
 obtain⟨x,H1,I1,r1,q1⟩:=hx_
 obtain⟨a,xs,e,q1⟩:=q1
 subst e
 cases r1
 rcases q1 with⟨hq,q⟩ | ⟨hq,q⟩
 ·obtain⟨its,rv,p,hz⟩:=I1.list hq
  refine wpAny_pyIter_list p.isList ?_
  refine⟨s1.heap.objs.size,[s1.heap.objs.size],_,_,H1,rfl,I1.kept (t':=s1.toks) fun b o e=>qe _ e,Ys6 a _,⟨_,qp _ rfl,rfl,rfl⟩,fun b hb=>?_,q hz⟩
  have e:b=s1.heap.objs.size:=by simpa using hb
  subst e
  exact I1.fpOk (qu _) (I1.hok.fresh (qu _))
 ·obtain⟨its,rv,p,hz⟩:=I1.tuple hq
  refine wpAny_pyIter_tuple (show s1.heap.IsTuple a its.toArray from p) ?_
  refine⟨s1.heap.objs.size,[s1.heap.objs.size],_,_,H1,rfl,I1.kept (t':=s1.toks) fun b o e=>qe _ e,Yll a _,⟨_,qp _ rfl,rfl,rfl⟩,fun b hb=>?_,q hz⟩
  have e:b=s1.heap.objs.size:=by simpa using hb
  subst e
  exact I1.fpOk (qu _) (I1.hok.fresh (qu _))
theorem y44{l:Expr}(hl:ME X l f):MI X tg l (b1 f Ycg):=PI.imp (y43 hl) fun σ H R hx_=>by
 obtain⟨ρ,ds,H0,G0,G,e,s,h⟩:=hx_
 obtain⟨c,h1,h2⟩:=Ybn e
 refine tOf.at h1 s fun v H1 G1 g1 r1 s1=>?_
 rcases Ydv h2 with rfl | rfl | ⟨ns,rfl,rfl⟩
 ·rw[Rp]at r1
  obtain⟨p,xs,rfl,g,rl⟩:=r1
  refine⟨p,xs,rfl,.inr ⟨.inl (.inl (s1.seen _ _ g)),fun hz=>h _ H1 G1 g1 (Ysh (by rw[<-rl.length];exact hz) fun i H2 G2 e1 e2=>⟨fun d hd=>?_,fun hi=>⟨xs,.inl (.inl (e2 _ _ (e1 _ _ g))),by rw[rl.length];exact hi⟩⟩)⟩⟩
  obtain⟨x,hx,rx⟩:=rl.get hd
  refine⟨⟨xs,x,.inl (.inl (e2 _ _ (e1 _ _ g))),hx⟩,fun y H3 q=>⟨q.1,?_⟩⟩
  have:=q.2 xs (.inl (.inl (e2 _ _ (e1 _ _ g))))
  rw[hx]at this
  cases this
  exact rx.mono e1
 ·rw[Rp]at r1
  obtain⟨p,xs,rfl,g,rl⟩:=r1
  refine⟨p,xs,rfl,.inl ⟨.inl (Yer s1.seen g),fun hz=>h _ H1 G1 g1 (Ysh (by rw[<-rl.length];exact hz) fun i H2 G2 e1 e2=>⟨fun d hd=>?_,fun hi=>⟨xs,.inl (Yer e2 (Yer e1 g)),by rw[rl.length];exact hi⟩⟩)⟩⟩
  obtain⟨x,hx,rx⟩:=rl.get hd
  refine⟨⟨xs,x,.inl (Yer e2 (Yer e1 g)),hx⟩,fun y H3 q=>⟨q.1,?_⟩⟩
  have:=q.2 xs (.inl (Yer e2 (Yer e1 g)))
  rw[hx]at this
  cases this
  exact rx.mono e1
 ·rw[Rp]at r1
  obtain⟨p,rfl,g⟩:=r1
  have rl:RpL X.K G1 (ns.map D.int) (ns.map V.int):=.ints ns
  refine⟨p,_,rfl,.inl ⟨s1.seen.seq g,fun hz=>h _ H1 G1 g1 (Ysh (by rw[<-rl.length];exact hz) fun i H2 G2 e1 e2=>⟨fun d hd=>?_,fun hi=>⟨_,e2.seq (e1.seq g),by rw[rl.length];exact hi⟩⟩)⟩⟩
  obtain⟨x,hx,rx⟩:=rl.get hd
  refine⟨⟨_,x,e2.seq (e1.seq g),hx⟩,fun y H3 q=>⟨q.1,?_⟩⟩
  have:=q.2 _ (e2.seq (e1.seq g))
  rw[hx]at this
  cases this
  exact rx.mono e1
def rngD(a n:Int):List D:=(List.range (n - a).toNat).map fun i=>.int (a+(i:Nat))
theorem Yj9(a n:Int):(rngD a n).length=(n - a).toNat:=by simp[rngD]
theorem Ytr{a n:Int}{G':Hp}(hz:(n - a).toNat<=sizeLine):Wk K (Itr a (n - a).toNat) G' (rngD a n):=
 Ysh (by rw[Yj9];exact hz) fun i H2 G2 _ _=>⟨fun d hd=>by
  unfold rngD at hd
  rw[Qa]at hd
  obtain⟨j,h1,rfl⟩:=qc hd
  have hj:i < (n - a).toNat:=by
   have:=(qo h1).1
   simpa using this
  rw[List.getElem?_range hj]at h1
  cases h1
  exact⟨hj,fun y H3 q=>⟨q.1,by rw[Rp];exact q.2⟩⟩,fun hi=>by rw[Yj9]at hi;exact hi⟩
def rng1:List D->Option (List D)
 | [.int n]=>if decide (-(cap6:Int)<=n)&&decide (n<=cap6)then some (rngD 0 n)else none
 | _=>none
theorem Yka{l ds:List D}(h:rng1 l=some ds):∃n:Int,l=[.int n]/\-1000000<=n/\n<=1000000/\ds=rngD 0 n:=by
 unfold rng1 at h
 split at h
 ·rename_i n
  split at h
  ·rename_i hc
   cases h
   simp only[qx,decide_eq_true_eq]at hc
   have hcap:(cap6:Int)=1000000:=by decide
   exact⟨n,rfl,by lia,by lia,rfl⟩
  ·cases h
 ·cases h
def gSet(i:Nat):D->Ro->Option Ro:=fun d ρ=>some (ρ.set i (some (.sh d)))
theorem y1j(i:Nat){x:Str}(hN:X.N.Nodup)(hi:X.N[i]?=some x:=by rfl)(hx:Loc X.env.scope x:=by first | exact Or.inl rfl | exact Or.inr rfl)(hf:X.fn x=true\/X.env.scope.names.lookup x=some .local:=by first | exact .inl rfl | exact .inr rfl):MG X (.Name x pos) (gSet i):=
 PG.imp (y0s hN hi hx hf) fun v σ H Q hx_=>by
  obtain⟨d,ρ,ρ',H0,G0,G,e,s,r,h⟩:=hx_
  cases e
  exact h _ (s.set_sh i r)
def forM(gt:D->Ro->Option Ro)(fb:Ro->Option Out):List D->Ro->Option Out
 | [],ρ=>some (.nx ρ)
 | d::ds,ρ=>(gt d ρ).bind fun ρ1=>(fb ρ1).bind fun
   | .nx ρ2=>forM gt fb ds ρ2
   | .ct ρ2=>forM gt fb ds ρ2
   | .bk ρ2=>some (.nx ρ2)
   | .rt d=>some (.rt d)
def sFor(gl:Ro->Option (List D))(gt:D->Ro->Option Ro)(fb:Ro->Option Out):Ro->Option Out:=fun ρ=>(gl ρ).bind fun ds=>forM gt fb ds ρ
theorem Yg6{gt:D->Ro->Option Ro}{fb:Ro->Option Out}:∀(ds:List D) (ρ:Ro) (out:Out),forM gt fb ds ρ=some out->(∃ρ',out=.nx ρ')\/∃d,out=.rt d
 | [],ρ,out,h=>by cases h;exact .inl ⟨_,rfl⟩
 | d::ds,ρ,out,h=>by
   rw[forM]at h
   obtain⟨ρ1,h1,h⟩:=qa h
   obtain⟨o,h2,h⟩:=qa h
   cases o with
   | nx ρ2=>exact Yg6 ds ρ2 out h
   | ct ρ2=>exact Yg6 ds ρ2 out h
   | bk ρ2=>cases h;exact .inl ⟨_,rfl⟩
   | rt d=>cases h;exact .inr ⟨_,rfl⟩
theorem y45{iter:Expr}{body:List Stmt}{gt:D->Ro->Option Ro}(hp:PassesOwn (model X.prog X.w) X.A X.env X.xe)(hc:X.calm=true)(hi:MI X tg iter gl)(hg:MG X tg gt)(hb:MB X body fs)
 (hs:∀x,foldedSetIterable iter X.env x=pure x:=by intro _;rfl):MS X (.For tg iter body [] pos) (sFor gl gt fs):=
 PS.imp (Ys8 hp hc hi hg hb hs) fun F σ H hx_=>by
  obtain⟨ρ,out,H0,G0,G,e,s,h⟩:=hx_
  unfold sFor at e
  obtain⟨ds,h1,h2⟩:=qa e
  refine⟨ρ,ds,H0,G0,G,h1,s,fun J H1 G1 g1 wk=>?_⟩
  obtain⟨Hb,sb,back⟩:=(s.grow g1).rebase
  have hout:=Yg6 ds ρ out h2
  refine⟨fun i m σ' H'=>m=ds.length - i/\i<=ds.length/\∃ρ' G',SR X.K Hb G1 σ' H' G' ρ'/\forM gt fs (ds.drop i) ρ'=some out,⟨_,rfl,Nat.zero_le _,ρ,G1,sb,h2⟩,?_⟩
  rintro i m σ' H' ⟨rfl,hi,ρ',G',s',e'⟩
  have W:=wk.2 i H' G' s'.gr.g s'.seen
  by_cases hlt:i < ds.length
  ·have hd:ds[i]?=some ds[i]:=qr hlt
   obtain⟨go,yl⟩:=W.1 _ hd
   rw[Ql hlt,forM]at e'
   obtain⟨ρ1,e1,e'⟩:=qa e'
   obtain⟨o,e2,e'⟩:=qa e'
   refine .inr ⟨go,fun σ' H'=>i+1<=ds.length/\∃ρ' G',SR X.K Hb G1 σ' H' G' ρ'/\forM gt fs (ds.drop (i+1)) ρ'=some out,fun σ2 H2 q=>⟨ds.length - (i+1),by lia,rfl,q.1,q.2⟩,fun x H2 y=>?_⟩
   obtain⟨G2,g2,r2⟩:=yl x H2 y
   refine⟨_,ρ',ρ1,Hb,G1,G2,e1,s'.grow g2,r2,fun σ3 s3=>?_⟩
   refine⟨ρ1,o,Hb,G1,G2,e2,s3,?_⟩
   cases o with
   | nx ρ2=>exact fun σ4 H4 G4 s4=>⟨hlt,ρ2,G4,s4,e'⟩
   | ct ρ2=>exact fun σ4 H4 G4 s4=>⟨hlt,ρ2,G4,s4,e'⟩
   | bk ρ2=>
     cases e'
     exact fun σ4 H4 G4 s4=>h σ4 H4 G4 (back _ _ _ _ s4)
   | rt d=>
     cases e'
     refine fun v H4 G4 g4 r4=>h v H4 G4 ?_ r4
     have:=(back [] H4 G4 [] (SR.mkSh g4 rfl (fun i d e=>(by simp at e)) (fun i l e=>(by simp at e)) (fun i t ks vs e=>(by simp at e)))).gr
     exact this
  ·have ei:i=ds.length:=by lia
   subst ei
   rw[List.drop_length,forM]at e'
   cases e'
   exact .inl ⟨W.2 (qu _),h σ' H' G' (back _ _ _ _ s')⟩
def capR(src:List (Option Nat))(ρ:Ro):Ro:=src.map fun o=>o.bind fun j=>match ρ[j]? with
 | some (some (B.sh d))=>some (.sh d)
 | _=>none
theorem SR.cap{H0 G0 H G:Hp}{σ:L2.St}{ρ:Ro}(s:SR K H0 G0 σ H G ρ)(src:List (Option Nat)):SR K H G (capσ src σ) H G (capR src ρ):=by
 have noow:∀(i:Nat) l,(capR src ρ)[i]?≠some (some (B.ow l)):=fun i l h=>by
  unfold capR at h
  rw[Qa]at h
  obtain⟨o,h1,h2⟩:=qc h
  obtain⟨j,rfl,h3⟩:=qa h2
  split at h3<;>cases h3
 have nood:∀(i:Nat) t ks vs,(capR src ρ)[i]?≠some (some (B.od t ks vs)):=fun i t ks vs h=>by
  unfold capR at h
  rw[Qa]at h
  obtain⟨o,h1,h2⟩:=qc h
  obtain⟨j,rfl,h3⟩:=qa h2
  split at h3<;>cases h3
 refine SR.mkSh (.refl s.seen) (by simp[capσ,capR]) (fun i d h=>?_) noow nood
 unfold capR at h
 rw[Qa]at h
 obtain⟨o,h1,h2⟩:=qc h
 obtain⟨j,rfl,h3⟩:=qa h2
 split at h3
 ·rename_i d' hd
  cases h3
  obtain⟨v,q1,q2⟩:=s.sh j _ hd
  refine⟨v,?_,q2⟩
  unfold capσ
  rw[Qa,h1]
  show some ((σ[j]?).join)=some (some v)
  rw[q1]
  rfl
 ·cases h3
def Yk5(gt:D->Ro->Option Ro)(fc:Ro->Option Bool)(fe:Ro->Option D)(ρ:Ro):List D->Option (List D)
 | []=>some []
 | d::ds=>(gt d ρ).bind fun ρ1=>(fc ρ1).bind fun k=>if k=true then (fe ρ1).bind fun v=>(Yk5 gt fc fe ρ ds).map (v::·)else Yk5 gt fc fe ρ ds
def Yns(gl:Ro->Option (List D))(src:List (Option Nat))(gt:D->Ro->Option Ro)(fc:Ro->Option Bool)(fe:Ro->Option D):Ro->Option (List D):=fun ρ=>(gl ρ).bind fun ds=>Yk5 gt fc fe (capR src ρ) ds
def tY:Ro->Option Bool:=fun _=>some true
theorem y1k{σ:L2.St}{H:Hp}{Q:Bool->Hp->Prop}(h:tTof K tY σ H Q):tYes σ H Q:=by
 obtain⟨ρ,k,H0,G0,G,e,s,h⟩:=h
 cases e
 exact h H G (.refl s.seen)
theorem Yqp:PIfs X [] (tTof X.K tY):=fun pins s σ H Q I h=>y07 pins s σ H Q I (y1k h)
theorem Yiv{src:List (Option Nat)}{i:Nat}(h:src[i]?=some none):∀ρ d ρ1,gSet i d (capR src ρ)=some ρ1->Le (capR src ρ) ρ1:=fun ρ d ρ1 e=>by
 cases e
 refine⟨by simp,fun j b hb=>?_⟩
 by_cases hj:j=i
 ·subst hj
  unfold capR at hb
  rw[Qa,h]at hb
  cases hb
 ·rw[Qb (Ne.symm hj)];exact hb
theorem y1l{src:List (Option Nat)}{gt:D->Ro->Option Ro}{fc:Ro->Option Bool}{fe:Ro->Option D}(hle:∀ρ d ρ1,gt d (capR src ρ)=some ρ1->Le (capR src ρ) ρ1){σ:L2.St}{H:Hp}{Q:VK}
 (h:tFof K (Yns gl src gt fc fe) σ H Q):tLC (tIof K gl) src (gOf K gt) (tTof K fc) (tOf K fe) σ H Q:=by
 obtain⟨ρ,l,H0,G0,G,e,s,h⟩:=h
 unfold Yns at e
 obtain⟨ds,h1,h2⟩:=qa e
 refine⟨ρ,ds,H0,G0,G,h1,s,fun J H1 G1 g1 wk p hp=>?_⟩
 have s1:=s.grow g1
 have sc:=s1.cap src
 have gp:G1 p=none:=s1.seen.free hp
 refine⟨fun i m σ' H'=>m=ds.length - i/\i<=ds.length/\∃G' done xs rest,SR K H1 G1 σ' H' G' (capR src ρ)/\H' p=some (.lst xs)/\G' p=none/\RpL K G' done xs/\xs.length<=i/\Yk5 gt fc fe (capR src ρ) (ds.drop i)=some rest/\done++rest=l,
  ⟨_,rfl,Nat.zero_le _,G1,[],[],l,sc.grow (Gr.hid s1.seen hp _),Yq,gp,.nil,Nat.zero_le _,h2,rfl⟩,?_⟩
 rintro i m σ' H' ⟨rfl,hi,G',done,xs,rest,s',hx,gx,rx,hl,e',hd⟩
 have W:=wk.2 i H' G' s'.gr.g s'.seen
 by_cases hlt:i < ds.length
 ·have hdi:ds[i]?=some ds[i]:=qr hlt
  obtain⟨go,yl⟩:=W.1 _ hdi
  rw[Ql hlt,Yk5]at e'
  obtain⟨ρ1,e1,e'⟩:=qa e'
  obtain⟨k,e2,e'⟩:=qa e'
  refine .inr ⟨go,fun x H2 y=>?_⟩
  obtain⟨G2,g2,r2⟩:=yl x H2 y
  have keep:∀{Ha Ga Hb Gb:Hp},Gr Ha Ga Hb Gb->Ha p=some (.lst xs)->Ga p=none->Hb p=some (.lst xs)/\Gb p=none:=fun {Ha Ga Hb Gb} g e1 e2=>by
   refine⟨g.h _ _ e1,?_⟩
   cases q:Gb p with
   | none=>rfl
   | some o=>
     have:=g.n p e2 (by rw[q];exact fun z=>nomatch z)
     rw[e1]at this
     cases this
  obtain⟨hx2,gx2⟩:=keep g2 hx gx
  refine⟨_,capR src ρ,ρ1,H1,G1,G2,e1,s'.grow g2,r2,fun σ3 s3=>?_⟩
  refine tTof.at e2 s3 fun H4 G4 g4 s4=>?_
  obtain⟨hx4,gx4⟩:=keep g4 hx2 gx2
  have le:=hle ρ _ ρ1 e1
  cases k with
  | false=>
    rw[if_neg qi]at e' ⊢
    exact⟨ds.length - (i+1),by lia,rfl,hlt,G4,done,xs,rest,s4.le le,hx4,gx4,(rx.mono g2.g).mono g4.g,by lia,e',hd⟩
  | true=>
    rw[if_pos rfl]at e' ⊢
    obtain⟨v,e3,e'⟩:=qa e'
    obtain⟨rest',e4,rfl⟩:=qc e'
    refine tOf.at e3 s4 fun w H5 G5 g5 r5 s5=>?_
    obtain⟨hx5,gx5⟩:=keep g5 hx4 gx4
    have hz:=wk.1
    refine⟨xs,hx5,by lia,ds.length - (i+1),by lia,rfl,hlt,G5,done++[v],xs++[w],rest',?_,Yq,gx5,(((rx.mono g2.g).mono g4.g).mono g5.g).append (.one r5),by simp;lia,e4,by simpa using hd⟩
    have s6:=s5.le le
    have noow:∀(i:Nat) l,(capR src ρ)[i]?≠some (some (B.ow l)):=fun i l h=>by
     unfold capR at h
     rw[Qa]at h
     obtain⟨o,h1,h2⟩:=qc h
     obtain⟨j,rfl,h3⟩:=qa h2
     split at h3<;>cases h3
    have nood:∀(i:Nat) t ks vs,(capR src ρ)[i]?≠some (some (B.od t ks vs)):=fun i t ks vs h=>by
     unfold capR at h
     rw[Qa]at h
     obtain⟨o,h1,h2⟩:=qc h
     obtain⟨j,rfl,h3⟩:=qa h2
     split at h3<;>cases h3
    refine SR.mkSh ⟨fun b o q=>?_,s6.gr.g,fun b o q=>?_,s6.gr.n⟩ s6.len s6.sh noow nood
    ·rw[Yn (y7 q hp)];exact s6.gr.h b o q
    ·rw[Yn (y7 q gx5)];exact s6.gr.s b o q
 ·have ei:i=ds.length:=by lia
  subst ei
  rw[List.drop_length,Yk5]at e'
  cases e'
  rw[Qf]at hd
  subst hd
  exact .inl ⟨W.2 (qu _),h p xs H' G' (g1.trans s'.gr) (g1.h.free hp) gx hx rx⟩
section
variable {elt iter:Expr} {ifs:List Expr} {scope:Scope} {N:List Str} {src:List (Option Nat)} {gt:D->Ro->Option Ro} {fc:Ro->Option Bool} {fe:Ro->Option D}
theorem y1m(S:CompSc X.N X.env.scope N src scope)(hc:X.calm=true)(hit:MI X tg iter gl)(hg:∀cl C fp s H,MG (Yak X scope N cl C fp s H) tg gt)(hi:∀cl C fp s H,PIfs (Yak X scope N cl C fp s H) ifs (tTof X.K fc))(he:∀cl C fp s H,ME (Yak X scope N cl C fp s H) elt fe)
 (hle:∀ρ d ρ1,gt d (capR src ρ)=some ρ1->Le (capR src ρ) ρ1) (hs:∀x,foldedSetIterable iter X.env x=pure x:=by intro _;rfl):MF X (.ListComp elt [⟨tg,iter,ifs,0⟩] scope pos) (Yns gl src gt fc fe):=
 PE.imp (Yo3 S hc hit hg hi he hs) fun _ _ _ h=>y1l hle h
end
def Yl(n:Nat)(ds:List D):Ro:=ds.map (fun d=>some (.sh d))++List.replicate (n - ds.length) none
def runB(k n:Nat)(fb:Ro->Option Out)(ds:List D):Option D:=if ds.length=k then (fb (Yl n ds)).bind fun
 | .rt d=>some d
 | .nx _=>some .non
 | _=>none
 else none
theorem SR.start{H G:Hp}{ds:List D}{vs:List V}{N:List Str}(s:Same G H)(r:RpL K G ds vs):SR K H G (start N vs) H G (Yl N.length ds):=by
 have hl:=r.length
 have noow:∀(i:Nat) l,(Yl N.length ds)[i]?≠some (some (B.ow l)):=fun i l h=>by
  unfold Yl at h
  rw[List.getElem?_append]at h
  split at h
  ·rw[Qa]at h
   obtain⟨d,_,h2⟩:=qc h
   cases h2
  ·rw[List.getElem?_replicate]at h
   split at h<;>cases h
 have nood:∀(i:Nat) t ks vs,(Yl N.length ds)[i]?≠some (some (B.od t ks vs)):=fun i t ks vs h=>by
  unfold Yl at h
  rw[List.getElem?_append]at h
  split at h
  ·rw[Qa]at h
   obtain⟨d,_,h2⟩:=qc h
   cases h2
  ·rw[List.getElem?_replicate]at h
   split at h<;>cases h
 refine SR.mkSh (.refl s) (by simp[L2.start,Yl,hl]) (fun i d h=>?_) noow nood
 unfold Yl at h
 rw[List.getElem?_append]at h
 split at h
 ·rename_i hi
  rw[Qa]at h
  obtain⟨d',h1,h2⟩:=qc h
  cases h2
  obtain⟨v,h3,h4⟩:=r.get h1
  refine⟨v,?_,h4⟩
  unfold L2.start
  rw[List.getElem?_append_left (by rw[qf,hl];simpa using hi),Qa,h3]
  rfl
 ·rw[List.getElem?_replicate]at h
  split at h<;>cases h
section
variable {P:Program} {w:World} {mg:Str->Option Value} {base:Heap}
theorem Yts{x qual:Str}{st:Stmt}{f:Addr}{fd:FuncData}{N ps:List Str}{k n m:Nat}{fb:Ro->Option Out}(F:Fun K x qual st f fd)(S:FnScope N ps (defScope st))(hn:N.length=n)(hm:ps.length=m)
 (hb:∀(cdv:Value) (A:Around) (outer:List Env) (s:Shared) (H:Hp) (E:XK),Room k (A.deeper (envOfC qual (defScope st) s.heap.objs.size f cdv))->MB (cxOf CX0 P w K mg base N qual (defScope st) f cdv A outer s H E).nox (defBody st) fb) :
 FnOk P w K mg base CX0 (k+1) f fd ps (spOf K m (runB m n fb)):=by
 refine F.ok S (fun vs H Q E h=>by rw[h.1,hm]) fun cdv A outer s H vs Q E hr h=>?_
 obtain⟨hl,ds,d,G,sm,r,e,q⟩:=h
 refine⟨_,hb cdv A outer s H E hr,?_⟩
 unfold runB at e
 split at e
 ·rename_i hds
  obtain⟨o,h1,h2⟩:=qa e
  refine⟨Yl n ds,o,H,G,G,h1,by rw[<-hn];exact SR.start sm r,?_⟩
  cases o with
  | rt d'=>cases h2;exact fun v H' G' g r'=>q v H' G' g r'
  | nx ρ=>cases h2;exact fun σ' H' G' s'=>q .non H' G' s'.gr (by rw[Rp])
  | bk ρ=>cases h2
  | ct ρ=>cases h2
 ·cases e
end
end
end
section
variable {K:W.Frag}
def Okf(P:Program)(w:World)(K:W.Frag)(mg:Str->Option Value)(base:Heap)(k n:Nat)(x:Str)(ps:List Str)(fn:List D->Option D):Prop:=
 ∃a fd,FnOk P w K mg base CX0 k a fd ps (spOf K n fn)/\Binds K fd ps []/\W.keepIn K (.ref a)=true/\mg x=some (.ref a)
theorem y46{P:Program}{w:World}{K:W.Frag}{mg:Str->Option Value}{base:Heap}{k n:Nat}{x q:Str}{ps:List Str}{fn:List D->Option D}{st:Stmt}{a:Addr}{fd:FuncData}(F:Fun K x q st a fd)(b:Binds K fd ps [])
 (hm:mg x=some (.ref a)) (h:FnOk P w K mg base CX0 k a fd ps (spOf K n fn)):Okf P w K mg base k n x ps fn:=⟨a,fd,h,b,F.kp,hm⟩
section
variable {X:Cx} {a b e:Expr} {es:List Expr} {fa fb:Ro->Option D} {ga:Ro->Option (List D)} {pos:Pos}
theorem Yxm{j k n:Nat}{x:Str}{p:Pos}{ps:List Str}{fn:List D->Option D}(c:Okf X.prog X.w X.K X.mg X.base j n x ps fn)(hr:Room k X.A)(hg:Gl X x)(ha:MA X (e::es) ga)(hl:∀ρ l,ga ρ=some l->l.length=n)
 (hj:j<=k:=by first | exact qu _ | lia) (hdb:(x==("__debug__":Str))=false:=by decide) (he:starEach (e::es) X.env=(false,eval e X.env)::starEach es X.env:=by rfl) (hpl:(backTo pos (starEach es X.env)).any (·.1)=false:=by rfl) :
 ME X (.Call (.Name x p) (e::es) [] pos) (cC ga fn):=by
 obtain⟨a,fd,F,hb,hk,hm⟩:=c
 exact y1h F (hr.mono hj) hg hm hk hb ha hdb he hpl hl
theorem y47(ha:MC X a fa)(hb:MC X b fb):ME X (.BinOp a .Add b pos) (b2 fa fb addI):=Yj7 Yzk Yo5 ha hb
def catD:D->D->Option (List D)
 | .lst a,.lst b=>if a.length+b.length<=cap6 then some (a++b)else none
 | _,_=>none
def y7f:R2:=fun x y H Q=>∃l b xs zs,x=.ref l/\y=.ref b/\Rd H l (.lst xs)/\Rd H b (.lst zs)/\xs.length+zs.length<=sizeLine/\∀p,H p=none->Q (.ref p) (upd H p (.lst (xs++zs)))
theorem y1n:OpR X (binaryOp .Add) y7f:=by
 intro pins s σ H x y v u Q I rx ry h
 obtain⟨l,b,xs,zs,rfl,rfl,hH,hB,hz,q⟩:=h
 cases rx
 cases ry
 obtain⟨z,its,n,r,e⟩:=hH.ok I.hok
 obtain⟨z2,its2,n2,r2,e2⟩:=hB.ok I.hok
 have hl:=r.length
 have hl2:=r2.length
 refine PySem.P.add_list e e2 ?_ (by rw[qk,qk];lia)
 have ea:its.toArray++its2.toArray=(its++its2).toArray:=by simp
 rw[ea]
 exact⟨.ref _,_,I.lnew (t':=s.toks) (r.append r2) (by rw[qw];lia),rfl,q _ I.fresh⟩
theorem y48(ha:MC X a fa)(hb:MC X b fb):MF X (.BinOp a .Add b pos) (b2 fa fb catD):=PE.imp (Yw9 y1n ha hb) fun σ H Q hx_=>by
 obtain⟨ρ,l,H0,G0,G,e,s,h⟩:=hx_
 obtain⟨dx,dy,h1,h2,h3⟩:=Yj4 e
 refine tCof.at h1 s fun v H1 G1 g1 r1 s1=>tCof.at h2 s1 fun u H2 G2 g2 r2 s2=>?_
 unfold catD at h3
 split at h3
 ·rename_i l1 l2
  split at h3
  ·rename_i hz
   cases h3
   have r1':=r1.grow g2
   rw[Ct]at r1' r2
   obtain⟨p,xs,rfl,gp,rl⟩:=r1'
   obtain⟨q,zs,rfl,gq,rm⟩:=r2
   refine⟨p,q,xs,zs,rfl,rfl,gp,gq,by rw[rl.length,rm.length];exact Yes hz,fun m hm=>?_⟩
   exact h m _ _ G2 ((g1.trans g2).trans (.hid s2.seen hm _)) (g1.h.free (g2.h.free hm)) (s2.seen.free hm) Yq (rl.append rm)
  ·cases h3
 ·cases h3
def Ye1:D->String
 | .non=>"NoneType"
 | .bl _=>"bool"
 | .int _=>"int"
 | .str _=>"str"
 | .tup _=>"tuple"
 | .lst _=>"list"
 | .scr _=>"list"
 | .dct _ _ _=>"dict"
 | .obj _ _ _=>"dict"
 | .adr _=>"dict"
def Ynt:D->Bool
 | .scr _=>false
 | .dct t _ _=>!t
 | .obj _ _ _=>false
 | .adr _=>false
 | _=>true
def isiD(T:String)(d:D):Option Bool:=if Ynt d=true then some (Ye1 d==T||(T=="int"&&Ye1 d=="bool"))else none
theorem y1o{G H:Hp}{d:D}{v:V}(hn:Ynt d=true)(r:Ct K G H d v):TyOf K H v (.type (Ye1 d)):=by
 cases d<;>rw[Ct]at r
 ·subst r;exact .non
 ·subst r;exact .bl _
 ·subst r;exact .int _
 ·obtain⟨rfl,_⟩:=r;exact .str _
 ·obtain⟨a,xs,rfl,g,_⟩:=r;exact .tup g.1
 ·obtain⟨a,xs,rfl,g,_⟩:=r
  rcases g with g | ⟨o,g⟩
  ·exact .lst g
  ·exact .frz g
 ·cases hn
 ·rename_i t _ _
  cases t with
  | true=>cases hn
  | false=>
    obtain⟨a,_,_,rfl,g,_⟩:=r
    rcases g with⟨_,_,g,_⟩ | ⟨g,_⟩
    ·exact .dK g
    ·cases g
 ·cases hn
 ·cases hn
def Kit(T:String):Prop:=∀(K:W.Frag) (d:D),W.kitOne K (.type (Ye1 d)) (.type T)=some (Ye1 d==T||(T=="int"&&Ye1 d=="bool"))
theorem y1p:Kit "int":=fun K d=>by cases d<;>rfl
theorem Yxn:Kit "bool":=fun K d=>by cases d<;>rfl
theorem Yxo{T:String}(hk:Kit T):Ye6 X (.builtin "isinstance") (fun xs H Q=>∃x d G,xs=[x,.ty T]/\Ynt d=true/\Ct X.K G H d x/\Q (.bl (Ye1 d==T||(T=="int"&&Ye1 d=="bool"))) H):=by
 intro pins s σ H xs us Q I r h
 obtain⟨x,d,G,rfl,hn,rx,q⟩:=h
 obtain⟨u,w',rfl,r1,r2⟩:=y0x r
 cases (show w'=Value.type T from r2)
 exact Ytd I r1 (y1o hn rx) (hk X.K d) fun tk=>⟨.bl _,H,I.tok tk,rfl,q⟩
theorem y49{T:String}{tn:Str}{p p2:Pos}(ha:MC X a fa)(hg:Gl X "isinstance")(hg2:Gl X tn)(hm:X.mg "isinstance"=none)(hm2:X.mg tn=none)(hv2:bootBuiltins tn=some (.type T))(hk:Kit T)(hv:bootBuiltins "isinstance"=some (.builtin "isinstance"):=by decide +kernel)
 (hn2:tn≠"__name__":=by decide) (hd2:(tn==("__debug__":Str))=false:=by decide)
 (hs:starEach [a,.Name tn p2] X.env=(false,eval a X.env)::starEach [.Name tn p2] X.env:=by rfl) (hs2:starEach [.Name tn p2] X.env=(false,eval (.Name tn p2) X.env)::starEach [] X.env:=by rfl) (hpl:(backTo pos (starEach [.Name tn p2] X.env)).any (·.1)=false:=by rfl) :
 ME X (.Call (.Name "isinstance" p) [a,.Name tn p2] [] pos) (mB (b1 fa (isiD T))):=
 PE.imp (Yjn (Yxo hk) hg hm hv (Ybb ha (Ybb (Ys4 hg2 hm2 hv2 (v:=.ty T) rfl hn2 hd2) Yd5 hs2) hs) (by decide) (by decide) hs hpl) fun σ H Q hx_=>by
  obtain⟨ρ,d,H0,G0,G,e,s,h⟩:=hx_
  obtain⟨k,ek,rfl⟩:=Yo4 e
  obtain⟨x,h1,h2⟩:=Ybn ek
  unfold isiD at h2
  split at h2
  ·cases h2
   exact tCof.at h1 s fun v H1 G1 g1 r1 s1=>⟨v,x,G1,rfl,by assumption,r1,h _ H1 G1 g1 (by rw[Rp])⟩
  ·cases h2
end
end
section
variable {K:W.Frag}
def Ygm:List D->Option (List Int)
 | []=>some []
 | .int i::l=>(Ygm l).map (i::·)
 | _=>none
theorem Yls:∀{l:List D} {ns:List Int},Ygm l=some ns->l=ns.map D.int
 | [],ns,h=>by cases h;rfl
 | .int i::l,ns,h=>by
   rw[Ygm]at h
   obtain⟨m,h1,rfl⟩:=qc h
   rw[Yls h1]
   rfl
 | .non::l,ns,h=>by simp[Ygm]at h
 | .bl _::l,ns,h=>by simp[Ygm]at h
 | .str _::l,ns,h=>by simp[Ygm]at h
 | .tup _::l,ns,h=>by simp[Ygm]at h
 | .lst _::l,ns,h=>by simp[Ygm]at h
 | .scr _::l,ns,h=>by simp[Ygm]at h
 | .dct _ _ _::l,ns,h=>by simp[Ygm]at h
 | .obj _ _ _::l,ns,h=>by simp[Ygm]at h
 | .adr _::l,ns,h=>by simp[Ygm]at h
theorem Yqq{G:Hp}:∀{ns:List Int} {xs:List V},RpL K G (ns.map D.int) xs->xs=ns.map V.int
 | [],xs,h=>by rw[List.map_nil,RpL]at h;exact h
 | n::ns,xs,h=>by
   rw[qz,RpL]at h
   obtain⟨x,r,rfl,h1,h2⟩:=h
   rw[Rp]at h1
   rw[h1,Yqq h2]
   rfl
end
section
variable {K:W.Frag}
section
variable {X:Cx} {e:Expr} {f fb:Ro->Option D} {pos pos':Pos}
def blsD:List D->Option (List Bool)
 | []=>some []
 | .bl b::l=>(blsD l).map (b::·)
 | _=>none
theorem Ynu:∀{l:List D} {bs:List Bool},blsD l=some bs->l=bs.map D.bl
 | [],bs,h=>by cases h;rfl
 | .bl i::l,bs,h=>by
   rw[blsD]at h
   obtain⟨m,h1,rfl⟩:=qc h
   rw[Ynu h1]
   rfl
 | .non::l,ns,h=>by simp[blsD]at h
 | .int _::l,ns,h=>by simp[blsD]at h
 | .str _::l,ns,h=>by simp[blsD]at h
 | .tup _::l,ns,h=>by simp[blsD]at h
 | .lst _::l,ns,h=>by simp[blsD]at h
 | .scr _::l,ns,h=>by simp[blsD]at h
 | .dct _ _ _::l,ns,h=>by simp[blsD]at h
 | .obj _ _ _::l,ns,h=>by simp[blsD]at h
 | .adr _::l,ns,h=>by simp[blsD]at h
theorem Ytt{G:Hp}:∀{bs:List Bool} {xs:List V},RpL K G (bs.map D.bl) xs->xs=bs.map V.bl
 | [],xs,h=>by rw[List.map_nil,RpL]at h;exact h
 | n::ns,xs,h=>by
   rw[qz,RpL]at h
   obtain⟨x,r,rfl,h1,h2⟩:=h
   rw[Rp]at h1
   rw[h1,Ytt h2]
   rfl
theorem Ymc:∀{bs:List Bool} {us:List Value},Vals (bs.map V.bl) us->us=bs.map Value.bool
 | [],us,h=>by cases h;rfl
 | b::bs,us,h=>by
   cases h with
   | cons r t=>
     cases (show _=Value.bool b from r)
     rw[Ymc t]
     rfl
theorem Ytu(bs:List Bool):((List.range bs.length).any fun i=>bs.getD i false)=bs.any id:=by
 induction bs with
 | nil=>rfl
 | cons b bs ih=>
   rw[qs,List.range_succ_eq_map,List.any_cons,List.any_map,List.any_cons]
   have:(List.range bs.length).any ((fun i=>(b::bs).getD i false) ∘ Nat.succ)=(List.range bs.length).any fun i=>bs.getD i false:=by
    congr 1
   rw[this,ih]
   rfl
theorem Ytv(bs:List Bool):((List.range bs.length).all fun i=>bs.getD i false)=bs.all id:=by
 induction bs with
 | nil=>rfl
 | cons b bs ih=>
   rw[qs,List.range_succ_eq_map,List.all_cons,List.all_map,List.all_cons]
   have:(List.range bs.length).all ((fun i=>(b::bs).getD i false) ∘ Nat.succ)=(List.range bs.length).all fun i=>bs.getD i false:=by
    congr 1
   rw[this,ih]
   rfl
def rBls(g:List Bool->V):List V->Hp->VK->Prop:=fun vs H Q=>∃(a:Addr) (bs:List Bool),vs=[.ref a]/\Rd H a (.lst (bs.map V.bl))/\Q (g bs) H
theorem Ynv(A:Around)(prog:Program)(w:World)(bs:List Bool):TruthOf prog w A (fun i v=>((bs.map Value.bool).toArray)[i]?=some v) (fun i=>bs.getD i false):=fun i v s Q E hP hQ=>by
 have hP':(bs.map Value.bool)[i]?=some v:=by simpa using hP
 rw[Qa]at hP'
 obtain⟨b,h1,rfl⟩:=qc hP'
 refine wpAny_truthy_bool ?_
 have:bs.getD i false=b:=by simp[h1]
 rw[<-this]
 exact hQ
theorem Ytw{pins:List (Addr × Obj)}{s:Shared}{σ:L2.St}{H:Hp}{a:Addr}{its:List Value}{A:Around}{E:Value->Shared->Prop}{Q:Value->Shared->Prop}(hh:A.handled=none)(hl:s.heap.IsList a its.toArray)
 (h:∀s₂,s₂={ s with heap:=s.heap.push { cls:=.type "list_iterator",data:=.fields #[.ref a,.int 0 0] } }->Walks X.prog X.w A s.heap.objs.size [s.heap.objs.size,a] [s.heap.objs.size] its.toArray.size (fun i v=>its.toArray[i]?=some v) (fun i h=>h.IsListIter s.heap.objs.size a i/\h.IsList a its.toArray)->
  (s₂.heap.IsListIter s.heap.objs.size a 0/\s₂.heap.IsList a its.toArray)->Q (.ref s.heap.objs.size) s₂):wpAny (model X.prog X.w) A (pyIter (.ref a)) Q E s:=by
 have hne:a≠s.heap.objs.size:=by
  obtain⟨o,ho,_⟩:=hl
  exact qm (ql ho)
 refine wpAny_pyIter_list hl (h _ rfl (Walks.list hh _ a hne _) ⟨⟨_,qp _ rfl,rfl,rfl⟩,?_⟩)
 obtain⟨o,ho,r⟩:=hl
 exact⟨o,qe _ ho,r⟩
theorem Yjb{pins:List (Addr × Obj)}{s:Shared}{σ:L2.St}{H:Hp}{h':Heap}{tk:Nat}{o:Obj}(I:Inv X pins σ H s)(k:∀b u,b∉[s.heap.objs.size]->(s.heap.push o).get? b=some u->h'.get? b=some u):Inv X pins σ H { s with heap:=h',toks:=tk }:=
 I.kept fun b u q=>k b u (by
  intro z
  have e:b=s.heap.objs.size:=by simpa using z
  exact absurd (ql q) (by rw[e];exact Nat.lt_irrefl _)) (qe _ q)
theorem Ytx(hc:X.calm=true):Ye6 X (.builtin "all") (rBls fun bs=>.bl (bs.all id)):=by
 intro pins s σ H xs us Q I r h
 obtain⟨a,bs,rfl,hr,q⟩:=h
 obtain⟨u,rfl,ru⟩:=Yjk r
 cases ru
 obtain⟨its,rv,pl,hz⟩:=I.list (.inl hr)
 cases Ymc rv
 refine call_all_walk (Ytw (X:=X) (pins:=pins) (σ:=σ) (H:=H) (show X.A.in1.handled=none from I.ok.hd hc) pl.isList fun s₂ e W st=>?_)
 subst e
 refine⟨_,_,_,_,_,_,fun i=>bs.getD i false,rfl,W,st,Ynv _ _ _ bs,fun h' tk k=>⟨.bl _,H,(show Inv X pins σ H { s with heap:=h',toks:=tk } from Yjb I k),?_,q⟩⟩
 show Value.bool _=Value.bool _
 rw[qk,qf,Ytv]
def anyC:List D->Option D
 | [.lst l]=>(blsD l).map fun bs=>.bl (bs.any id)
 | _=>none
def allC:List D->Option D
 | [.lst l]=>(blsD l).map fun bs=>.bl (bs.all id)
 | _=>none
theorem Yty{g:List Bool->V}{gd:List Bool->D}{m:List D->Option D}(hm:∀ds d,m ds=some d->∃l bs,ds=[.lst l]/\blsD l=some bs/\d=gd bs)(hg:∀G bs,Rp K G (gd bs) (g bs)):SemC K (rBls g) m:=by
 intro vs ds d H G Q h s r q
 obtain⟨l,bs,rfl,h1,rfl⟩:=hm ds d h
 obtain⟨v,rfl,rv⟩:=Yet r
 rw[Ct]at rv
 obtain⟨a,xs,rfl,g',rl⟩:=rv
 cases Ynu h1
 cases Ytt rl
 exact⟨a,bs,rfl,g',q _ H G (.refl s) (hg G bs)⟩
theorem Ytz:SemC K (rBls fun bs=>.bl (bs.any id)) anyC:=Yty (gd:=fun bs=>.bl (bs.any id)) (fun ds d h=>by
 unfold anyC at h
 split at h
 ·obtain⟨bs,h1,rfl⟩:=qc h
  exact⟨_,bs,rfl,h1,rfl⟩
 ·cases h) fun G bs=>by rw[Rp]
theorem y1q:SemC K (rBls fun bs=>.bl (bs.all id)) allC:=Yty (gd:=fun bs=>.bl (bs.all id)) (fun ds d h=>by
 unfold allC at h
 split at h
 ·obtain⟨bs,h1,rfl⟩:=qc h
  exact⟨_,bs,rfl,h1,rfl⟩
 ·cases h) fun G bs=>by rw[Rp]
end
end
section
variable {K:W.Frag}
end
section
variable {K:W.Frag}
end
section
open Sem (wp)
variable {K:W.Frag}
theorem Yt0:typeLookup (.type "list_reverseiterator") "__len__"=pure none:=by rw[typeLookup_type,builtinLookup_eq_fast];kernel_rfl
theorem Yxp:typeLookup (.type "list_reverseiterator") "__length_hint__"=pure (some (.builtin "list_reverseiterator.__length_hint__")):=by rw[typeLookup_type,builtinLookup_eq_fast];kernel_rfl
set_option maxRecDepth 100000 in
theorem Ysi{prog:Program}{w:World}{A:Around}{s:Shared}{R:Result->Shared->Prop}{I:Addr}{fp wr:List Addr}{G:Array GenState->Array GenState->Prop}{n:Nat}{P:Nat->Value->Prop}{St:Nat->Shared->Prop}
 (W:WalksS prog w A.in1 I fp wr G n P St) (hT:∀i s,St i s->s.TypeIs (.ref I) "list_reverseiterator") (S:Addr) (res:Value) (c₀:Nat) (hst:St 0 s) (hSf:S∉fp) (hI:I∈fp)
 (hS:s.heap.get? S=some { cls:=.type "list",data:=.seq #[] c₀ })
 (hR:∀s' acc' c',Moved (S::wr) G s s'->s'.heap.get? S=some { cls:=.type "list",dict:=none,data:=.seq acc' c',slots:=#[] }->ItemsOf P acc' n->R (.ok (.ret res)) s') (hn:n<=sizeLine) :
 wpAny (model prog w) A.in1 (Builtin.List.listExtendWith (.ref S) (.ref I) res)
  (fun fin s'=>match fin with | .done f=>R (.ok f) s' | .again c'=>c'.quiet=true/\codeAny (model prog w) A c' R s') (fun e s'=>R (.error e) s') s:=by
 have hSI:S≠I:=fun e=>hSf (e ▸ hI)
 have h1:Builtin.List.listSameRef (.ref S) (.ref I)=false:=by simp[Builtin.List.listSameRef,hSI]
 unfold Builtin.List.listExtendWith
 refine wpAny_bind (wpAny_typeOf (hT 0 _ hst) ?_)
 rw[if_neg (by rw[h1];decide)]
 refine wpAny_bind (W.self 0 _ _ _ hst ?_)
 refine wpAny_bind (wpAny_holding ?_)
 unfold Builtin.List.listLengthHint
 refine wpAny_bind (wpAny_specialOf (hT 0 _ hst) Yt0 ?_)
 show wpAny _ A.in1 (specialOf (Value.ref I) (Str.ofString "__length_hint__") >>= _) _ _ _
 refine wpAny_bind (wpAny_specialOf (hT 0 _ hst) Yxp ?_)
 (generalize hid:("list_reverseiterator.__length_hint__":String)=id0;(fail_if_success (clear hid id0));wp_delta;rw[show splitId id0=some ("list_reverseiterator","__length_hint__") from by subst hid;decide +kernel];subst hid)
 refine wpAny_bind (wpAny_isInstance (b:=true) (hT 0 _ hst) (by rw[isSubtype_type];kernel_rfl) ?_)
 refine wpAny_pure ?_
 rw[if_neg (by decide)]
 exact wpAny_pure ⟨plainId_quiet F.plain_extend_loop _,codeAny_extend_loopS W hn _ hSf _ n 0 _ _ _ rfl (Nat.zero_le _) hst hS (ItemsOf.nil P) hR⟩
theorem Ymd{prog:Program}{w:World}{A:Around}{s:Shared}{R:Result->Shared->Prop}{I:Addr}{fp wr:List Addr}{G:Array GenState->Array GenState->Prop}{n:Nat}{P:Nat->Value->Prop}{St:Nat->Shared->Prop}
 (W:WalksS prog w A.in1 I fp wr G n P St) (hT:∀i s,St i s->s.TypeIs (.ref I) "list_reverseiterator") (S:Addr) (hst:St 0 s) (hSf:S∉fp) (hI:I∈fp)
 (hS:s.heap.get? S=some { cls:=.type "list",data:=.seq #[] })
 (hR:∀s' acc' c',Moved (S::wr) G s s'->s'.heap.get? S=some { cls:=.type "list",dict:=none,data:=.seq acc' c',slots:=#[] }->ItemsOf P acc' n->R (.ok (.ret .none)) s') (hn:n<=sizeLine) :
 wpAny (model prog w) A.in1 (Builtin.«list.__init__» ⟨[.ref S,.ref I],[]⟩)
  (fun fin s'=>match fin with | .done f=>R (.ok f) s' | .again c'=>c'.quiet=true/\codeAny (model prog w) A c' R s') (fun e s'=>R (.error e) s') s:=by
 show wpAny _ A.in1 (do let old <-Builtin.List.listItems (.ref S);Builtin.List.listUpdate (.ref S) (fun _=>#[]);letGo old.toList.reverse;Builtin.List.listExtendWith (.ref S) (.ref I) .none) _ _ s
 refine wpAny_bind ?_
 unfold Builtin.List.listItems
 refine wpAny_bind (wpAny_seqItems hS rfl (wpAny_pure ?_))
 show wpAny _ A.in1 (updateSeq S (fun _=>#[]) >>= fun _=>letGo (#[]:Array Value).toList.reverse >>= fun _=>Builtin.List.listExtendWith (.ref S) (.ref I) .none) _ _ s
 refine wpAny_bind (wpAny_updateSeq hS rfl ?_)
 have hS₂:=Heap.get?_update_self (Obj.mapSeq (fun _=>(#[]:Array Value))) hS rfl
 have oth:∀b o,b≠S->s.heap.get? b=some o->(s.heap.update S (Obj.mapSeq (fun _=>(#[]:Array Value)))).get? b=some o:=
  fun b o hb e=>(Heap.get?_update_other _ _ (Ne.symm hb)).trans e
 refine wpAny_bind (wpAny_letGo ?_)
 refine Ysi (hn:=hn) W hT S .none _ (W.frame 0 s _ s.toks hst (qu _) fun b hb o e=>oth b o (fun h=>hSf (h ▸ hb)) e) hSf hI hS₂ fun s' acc' c' hm hS' hacc=>?_
 exact hR s' acc' c' (Moved.trans W.gtrans ((Moved.refl W.grefl).then_heap (qu _) fun b o hb e=>oth b o (fun h=>hb (h ▸ qh)) e) hm) hS' hacc
section
variable {prog:Program} {w:World} {A:Around} {E:Value->Shared->Prop} {s:Shared} {I:Addr} {fp wr:List Addr} {G:Array GenState->Array GenState->Prop} {n:Nat} {P:Nat->Value->Prop} {St:Nat->Shared->Prop}
theorem Ykb{Q:Value->Shared->Prop}(W:WalksS prog w A.in1.in1 I fp wr G n P St)(hT:∀i s,St i s->s.TypeIs (.ref I) "list_reverseiterator")(hst:St 0 s)(hfp:∀b∈fp,b < s.heap.objs.size)(hI:I∈fp)
 (hQ:∀s' acc' c',Moved (s.heap.objs.size::wr) G { s with heap:=s.heap.push { cls:=.type "list",data:=.seq #[] } } s'->
  s'.heap.get? s.heap.objs.size=some { cls:=.type "list",dict:=none,data:=.seq acc' c',slots:=#[] }->ItemsOf P acc' n->Q (.ref s.heap.objs.size) s') (hn:n<=sizeLine) :
 wpAny (model prog w) A (call (.type "list") [.ref I]) Q E s:=by
 have hSf:s.heap.objs.size∉fp:=fun hm=>Nat.lt_irrefl _ (hfp _ hm)
 refine callType_codes (Q₁:=fun obj s₁=>obj=.ref s.heap.objs.size/\s₁={ s with heap:=s.heap.push { cls:=.type "list",data:=.seq #[] } }) F.called_list (F.typeCall_list_1 _) F.entry_list_init
  (code_list_new _ ⟨rfl,rfl⟩) fun obj s₁ h₁=>?_
 obtain⟨rfl,rfl⟩:=h₁
 have hS:(s.heap.push { cls:=.type "list",data:=.seq #[] }).get? s.heap.objs.size=some { cls:=.type "list",data:=.seq #[] }:=qp _ rfl
 refine⟨⟨_,hS,rfl⟩,F.args_list_init_2 _ _,Ymd (hn:=hn) W hT _ (W.frame 0 s _ s.toks hst (qu _) fun b _ o e=>qe _ e) hSf hI hS fun s' acc' c' hm hS' hacc=>?_⟩
 exact⟨rfl,hQ s' acc' c' hm hS' hacc⟩
end
theorem Yt1{items acc:Array Value}(h:ItemsOf (fun i v=>items[items.size - 1 - i]?=some v) acc items.size):acc.toList=items.toList.reverse:=by
 obtain⟨h1,h2⟩:=h
 apply List.ext_getElem?
 intro i
 by_cases hi:i < items.size
 ·have hi2:i < acc.size:=by rw[h1];exact hi
  have e:=h2 i acc[i] (Array.getElem?_eq_getElem hi2)
  rw[List.getElem?_reverse (by simpa using hi)]
  rw[Array.getElem?_toList,Array.getElem?_toList,Array.getElem?_eq_getElem hi2,<-e]
  simp
 ·rw[List.getElem?_eq_none (by simp;lia),List.getElem?_eq_none (by simp;lia)]
theorem Yjc:∀{xs:List V} {us:List Value},Vals xs us->Vals xs.reverse us.reverse
 | _,_,.nil=>.nil
 | _,_,.cons r t=>by
   rw[List.reverse_cons,List.reverse_cons]
   exact(Yjc t).append (.cons r .nil)
section
variable {X:Cx} {e:Expr} {ta:TA} {p p2 pos pos2:Pos}
theorem Yxq{pins:List (Addr × Obj)}{σ:L2.St}{H:Hp}{s:Shared}{Q:Value->Shared->Prop}{q:List V->Hp->Prop}(I:Inv X pins σ H s)(hg2:Gl X "reversed")(hm2:X.mg "reversed"=none)(ha:PA X [e] ta)(h:ta σ H q)
 (hs:starEach [e] X.env=[(false,eval e X.env)])
 (k:∀vs H1 s1,Inv X pins σ H1 s1->q vs H1->∃a xs its,vs=[.ref a]/\SqL X.K H1 a xs/\Vals xs its/\s1.heap.IsList a its.toArray/\Q (.ref s1.heap.objs.size) { s1 with heap:=s1.heap.push (revObj a ((its.toArray.size:Int) - 1)) }) :
 wpAny (model X.prog X.w) X.A (eval (.Call (.Name "reversed" p2) [e] [] pos2) X.env) Q X.xe s:=by
 refine Call_ (Ylj I hg2 hm2 boot_reversed (PyProof.Rows.callWith_type1 (thn (ha pos2 pins s σ H _ I h) fun us s1 hx_=>?_) hs rfl))
 obtain⟨vs,H1,I1,r1,q1⟩:=hx_
 obtain⟨a,xs,its,rfl,hq,rv,pl,z⟩:=k vs H1 s1 I1 q1
 obtain⟨u,rfl,ru⟩:=Yjk r1
 cases ru
 exact call_reversed_list pl z
def y7g(K:W.Frag)(ta:TA):TE:=fun σ H Q=>ta σ H fun vs H1=>∃a xs,vs=[.ref a]/\SqL K H1 a xs/\∀l,H1 l=none->Q (.ref l) (upd H1 l (.lst xs.reverse))
theorem Ysj(hc:X.calm=true)(hg:Gl X "list")(hm:X.mg "list"=none)(hg2:Gl X "reversed")(hm2:X.mg "reversed"=none)(ha:PA X [e] ta)(hs:starEach [e] X.env=[(false,eval e X.env)]:=by rfl)
 (he:starEach [.Call (.Name "reversed" p2) [e] [] pos2] X.env=[(false,eval (.Call (.Name "reversed" p2) [e] [] pos2) X.env)]:=by rfl) :
 PE X (.Call (.Name "list" p) [.Call (.Name "reversed" p2) [e] [] pos2] [] pos) (y7g X.K ta):=by
 intro pins s σ H Q I h
 refine wpAny_Call_Name_kw (Ylj I hg hm boot_list ?_ (by decide) (by decide))
 refine PyProof.Rows.callWith_type1 ?_ he rfl
 rw[he]
 refine Calls.spliced_cons (Yxq I hg2 hm2 ha h hs fun vs H1 s1 I1 q1=>?_)
 obtain⟨a,xs,rfl,hq,q⟩:=q1
 obtain⟨its,rv,pl,hz⟩:=I1.list hq
 refine⟨a,xs,its,rfl,hq,rv,pl.isList,Calls.spliced_nil ?_⟩
 have hne:a≠s1.heap.objs.size:=by
  obtain⟨o,ho,_⟩:=pl.isList
  exact qm (ql ho)
 have hlt:a < s1.heap.objs.size:=by
  obtain⟨o,ho,_⟩:=pl.isList
  exact ql ho
 have hl:=rv.length
 refine Ykb (Walks.listRev (show X.A.in1.in1.handled=none from I1.ok.hd hc) s1.heap.objs.size a hne its.toArray).toS (fun i s st=>st.2.1.typeIs) ⟨Nat.zero_le _,⟨_,qp _ rfl,rfl,by simp[revObj]⟩,pl.isList.push _⟩ (fun b hb=>?_) (by simp) (fun s' acc' c' hm' hS' hacc=>?_) (by rw[qk];lia)
 ·show b < (s1.heap.push _).objs.size
  rw[Heap.size_push]
  rcases qt hb with rfl | hb
  ·exact Nat.lt_succ_self _
  ·rw[List.mem_singleton.mp hb];exact Nat.lt_succ_of_lt hlt
 ·have hsz:(s1.heap.push (revObj a ((its.toArray.size:Int) - 1))).objs.size=s1.heap.objs.size+1:=Heap.size_push ..
  rw[Moved.eq_with hm']at hS' ⊢
  rw[hsz]at hS' ⊢
  have kp:∀b u,s1.heap.get? b=some u->s'.heap.get? b=some u:=fun b u qb=>by
   have hb:b < s1.heap.objs.size:=ql qb
   refine hm'.heap b u (fun z=>?_) (qe _ (qe _ qb))
   rw[hsz]at z
   rcases qt z with z | z
   ·exact absurd hb (by rw[z];exact Nat.not_lt.mpr (Nat.le_succ _))
   ·rw[List.mem_singleton.mp z]at hb;exact absurd hb (Nat.lt_irrefl _)
  have ev:acc'.toList=its.reverse:=by simpa using Yt1 hacc
  refine⟨.ref (s1.heap.objs.size+1),upd H1 (s1.heap.objs.size+1) (.lst xs.reverse),?_,rfl,q _ (I1.hok.fresh (Nat.le_succ _))⟩
  exact I1.laid (t':=s'.toks) kp (Nat.le_succ _) (show ObjOk X.prog X.w _ _ _ (.lst xs.reverse) from⟨by rw[List.length_reverse];exact hz,acc'.toList,c',by rw[ev];exact Yjc rv,by rw[Array.toArray_toList];exact hS'⟩)
def revF(f:Ro->Option D):Ro->Option (List D):=fun ρ=>(b1 f lstD ρ).map List.reverse
variable {f:Ro->Option D}
theorem Ysk(hc:X.calm=true)(hg:Gl X "list")(hm:X.mg "list"=none)(hg2:Gl X "reversed")(hm2:X.mg "reversed"=none)(ha:MC X e f)(hs:starEach [e] X.env=[(false,eval e X.env)]:=by rfl)
 (he:starEach [.Call (.Name "reversed" p2) [e] [] pos2] X.env=[(false,eval (.Call (.Name "reversed" p2) [e] [] pos2) X.env)]:=by rfl) :
 MF X (.Call (.Name "list" p) [.Call (.Name "reversed" p2) [e] [] pos2] [] pos) (revF f):=
 PE.imp (Ysj hc hg hm hg2 hm2 (Yqn ha Yto hs) hs he) fun σ H Q hx_=>by
  obtain⟨ρ,l,H0,G0,G,e,s,h⟩:=hx_
  obtain⟨l0,h1,rfl⟩:=qc e
  obtain⟨d,h2,h3⟩:=Ybn h1
  refine tCAof.at (show Yg f aNil ρ=some [d] by simp[Yg,aNil,h2]) s fun vs H1 G1 g1 r1 s1=>?_
  obtain⟨v,rfl,rv⟩:=Yet r1
  obtain⟨q,xs,rfl,g,rl⟩:=Ynq h3 rv
  exact⟨q,xs,rfl,g,fun m hm'=>h m _ _ G1 (g1.trans (.hid s1.seen hm' _)) (g1.h.free hm') (s1.seen.free hm') Yq rl.reverse⟩
end
end
section
variable {K:W.Frag}
end
section
variable {K:W.Frag}
def SE(w:World):List DictEntry->List (Str × Str)->Prop:=Paired fun e p=>e.hash=PyData.keyHash w.params p.1/\(∃t,e.key=.str p.1 t)/\(∃t,e.val=.str p.2 t)/\PyData.strOk p.2=true
def GD(K:W.Frag)(w:World)(mg:Str->Option Value)(x:Str)(kvs:List (Str × Str)):Prop:=∃p o es ep,mg x=some (.ref p)/\K.lookup p=some o/\o.ExactDict/\o.data=.dict es ep/\SE w es.toList kvs
def GI(mg:Str->Option Value)(x:Str)(i:Int):Prop:=∃t,mg x=some (.int i t)
theorem Yt2{P:Program}{w:World}{k v:Str}:∀{l:List DictEntry} {kvs:List (Str × Str)},SE w l kvs->kvs.lookup k=some v->∃e t,l.find? (fun e=>(PySem.strKind P w).is k e.key)=some e/\e.val=.str v t
 | _,_,.nil,h=>by simp at h
 | _,_,.cons (a:=e) (b:=p) r t,h=>by
   obtain⟨_,⟨t1,h1⟩,⟨t2,h2⟩,_⟩:=r
   obtain⟨a,b⟩:=p
   by_cases q:a=k
   ·subst q
    simp at h
    subst h
    exact⟨e,t2,by simp[List.find?_cons,h1,PySem.strKind,Value.isStrOf],h2⟩
   ·have q':¬k=a:=fun z=>q z.symm
    simp[Qe,q']at h
    have hn:(k==a)=false:=by simpa using q'
    obtain⟨e',t',h3,h4⟩:=Yt2 (P:=P) t (by simpa [Qe,hn]using h)
    refine⟨e',t',?_,h4⟩
    rw[List.find?_cons]
    have:(PySem.strKind P w).is k e.key=false:=by
     rw[h1]
     show(a==k)=false
     simpa using q
    rw[this]
    exact h3
theorem Yt3{P:Program}{w:World}:∀{l:List DictEntry} {kvs:List (Str × Str)},SE w l kvs->∀e∈l,∃k,(PySem.strKind P w).is k e.key=true/\e.hash=(PySem.strKind P w).hash k
 | _,_,.nil,e,h=>by cases h
 | _,_,.cons (b:=p) r t,e,h=>by
   rcases qt h with rfl | h
   ·obtain⟨h0,⟨t1,h1⟩,_⟩:=r
    exact⟨p.1,by rw[h1];simp[PySem.strKind,Value.isStrOf],h0⟩
   ·exact Yt3 t e h
theorem y5a{w:World}{k v:Str}:∀{l:List DictEntry} {kvs:List (Str × Str)},SE w l kvs->kvs.lookup k=some v->PyData.strOk v=true
 | _,_,.nil,h=>by simp at h
 | _,_,.cons (b:=p) r t,h=>by
   obtain⟨_,_,_,h1⟩:=r
   obtain⟨a,b⟩:=p
   by_cases q:k=a
   ·subst q
    simp at h
    subst h
    exact h1
   ·have hn:(k==a)=false:=by simpa using q
    exact y5a t (by simpa [Qe,hn]using h)
section
variable {X:Cx} {ke:Expr} {fk:Ro->Option D} {pos px:Pos} {x:Str}
def Yme(kvs:List (Str × Str)):D->Option D
 | .str k=>(kvs.lookup k).map D.str
 | _=>none
theorem Yxr{kvs:List (Str × Str)}(g:GD X.K X.w X.mg x kvs)(hg:Gl X x)(hk:MC X ke fk)(hs:NoSl ke:=by intro _ _;rfl)(hd:(x==("__debug__":Str))=false:=by decide):ME X (.Subscript (.Name x px) ke pos) (b1 fk (Yme kvs)):=by
 obtain⟨p,o,es,ep,hm,hl,hx,hdt,hse⟩:=g
 intro pins s σ H Q I ⟨ρ,d,H0,G0,G,e,sr,h⟩
 obtain⟨dk,h1,h2⟩:=Ybn e
 refine Yo0 PySem.F.slot_dict_getitem.lookup hs (Yd4 I hg hm ?_ hd)
 refine thn (hk pins s σ H (fun(v':V) (H':Hp)=>∃k r,v'=.str k/\kvs.lookup k=some r/\Q (.str r) H') I (tCof.at h1 sr fun v H1 G1 g1 r1 s1=>?_)) fun iv s2 q0=>?_
 ·unfold Yme at h2
  split at h2
  ·rename_i k
   obtain⟨r,h3,rfl⟩:=qc h2
   rw[Ct]at r1
   exact⟨k,r,r1.1,h3,h _ H1 G1 g1 (by rw[Rp];exact⟨rfl,y5a hse h3⟩)⟩
  ·cases h2
 ·obtain⟨y,H2,I2,ry,k,r,rfl,h3,q⟩:=q0
  obtain⟨t,rfl⟩:=ry
  have ho:s2.heap.get? p=some o:=I2.kIn p o hl
  obtain⟨e',t',f1,f2⟩:=Yt2 (P:=X.prog) hse h3
  refine⟨⟨o,ho,hx.1⟩,wpAny_getItem_of (knd:=PySem.strKind X.prog X.w) (k:=k) (f:=fun k=>findBy (PySem.strKind X.prog X.w).is es k) (v:=.str r t') (by simp[PySem.strKind,Value.isStrOf]) ⟨o,es,ep,ho,hx,hdt,?_,fun _=>rfl⟩ ?_ ⟨.str r,H2,I2.tok _,⟨t',rfl⟩,q⟩⟩
  ·intro e'' he
   exact Yt3 hse e'' (by simpa using he)
  ·show(es.find? fun e=>(PySem.strKind X.prog X.w).is k e.key).map (·.val)=_
   rw[<-Array.find?_toList,f1,Option.map_some,f2]
theorem y1r{i:Int}(g:GI X.mg x i)(hg:Gl X x)(hd:(x==("__debug__":Str))=false:=by decide):ME X (.Name x px) (kD (.int i)):=by
 obtain⟨t,hm⟩:=g
 exact Yge (v:=.int i) (Yjt (v:=.int i) hg hm ⟨t,rfl⟩ hd) (fun _ _ _ q=>q) fun _=>by rw[Rp]
end
def tK(x:Str):TE:=fun _ H Q=>Q (.str x) H
structure MP(X:Cx)(pos:Pos)(keys:List (Option Expr))(values:List Expr)(ks:List Str)(fs:List (Ro->Option D)):Prop where
 len:ks.length=fs.length
 pps:PPs X pos keys values ((ks.zip fs).map fun p=>(tK p.1,tOf X.K p.2))
 all:keys.all (·.isSome)=true
 kv:keys.length=values.length
 kk:keys.length=ks.length
end
section
variable {K:W.Frag}
def numD:D->Option Int
 | .int i=>some i
 | .bl b=>some (if b then 1 else 0)
 | _=>none
def numsD:List D->Option (List Int)
 | []=>some []
 | d::l=>(numD d).bind fun i=>(numsD l).map (i::·)
structure DtH(H:Hp)(a:Addr)(nks:List (List Int × Addr))(vxs:List V):Prop where
 at':∃ep,H a=some (dTo a nks vxs ep)
 len:nks.length=vxs.length
 nd:(nks.map (·.1)).Nodup
 keys:∀p∈nks,∃ys,H p.2=some (.tup ys)/\y08 ys=some p.1
end
section
end
section
section
variable {X:Cx} {a b c e:Expr} {fa fb fc:Ro->Option D} {pos:Pos} {st:Stmt}
def ch3(fa fb fc:Ro->Option D)(g g':D->D->Option Bool):Ro->Option Bool:=fun ρ=>
 (fa ρ).bind fun x=>(fb ρ).bind fun y=>(g x y).bind fun k=>if k=true then (fc ρ).bind fun z=>g' y z else some false
theorem Yqr{g g':D->D->Option Bool}{ρ:Ro}{k:Bool}(h:ch3 fa fb fc g g' ρ=some k) :
 ∃x y,fa ρ=some x/\fb ρ=some y/\((g x y=some false/\k=false)\/(g x y=some true/\∃z,fc ρ=some z/\g' y z=some k)):=by
 unfold ch3 at h
 obtain⟨x,h1,h⟩:=qa h
 obtain⟨y,h2,h⟩:=qa h
 obtain⟨q,h3,h⟩:=qa h
 refine⟨x,y,h1,h2,?_⟩
 cases q with
 | false=>
   rw[if_neg (by simp)]at h
   cases h
   exact .inl ⟨h3,rfl⟩
 | true=>
   rw[if_pos rfl]at h
   obtain⟨z,h4,h⟩:=qa h
   exact .inr ⟨h3,z,h4,h⟩
theorem Yxs{op op':CmpOp}{r r':R2}{g g':D->D->Option Bool}(ho:OpR X (compareOp op) r)(hr:Ygl X.K r g)(ho':OpR X (compareOp op') r')(hr':Ygl X.K r' g')(ha:MC X a fa)(hb:MC X b fb)(hc:MC X c fc)
 (hm:lastMarks [op,op'] [b,c]=false:=by with_unfolding_all rfl):ME X (.Compare a [op,op'] [b,c] pos) (mB (ch3 fa fb fc g g')):=
 PE.imp (Yxa ho ho' ha hb hc hm) fun σ H Q h=>by
  obtain⟨ρ,d,H0,G0,G,e,s,h⟩:=h
  obtain⟨k,ek,rfl⟩:=Yo4 e
  obtain⟨x,y,h1,h2,h3⟩:=Yqr ek
  refine tCof.at h1 s fun v H1 G1 g1 r1 s1=>tCof.at h2 s1 fun u H2 G2 g2 r2 s2=>?_
  rcases h3 with⟨h3,rfl⟩ | ⟨h3,z,h4,h5⟩
  ·exact hr v u x y false H2 G2 _ h3 s2.seen (r1.grow g2) r2 ⟨false,rfl,by rw[if_neg (by simp)];exact h _ H2 G2 (g1.trans g2) (by rw[Rp])⟩
  ·refine hr v u x y true H2 G2 _ h3 s2.seen (r1.grow g2) r2 ⟨true,rfl,?_⟩
   rw[if_pos rfl]
   exact tCof.at h4 s2 fun w H3 G3 g3 r3 s3=>hr' u w y z k H3 G3 _ h5 s3.seen (r2.grow g3) r3 (h _ H3 G3 ((g1.trans g2).trans g3) (by rw[Rp]))
theorem Yxt{op op':CmpOp}{r r':R2}{g g':D->D->Option Bool}(ho:OpR X (compareOp op) r)(hr:Ygl X.K r g)(ho':OpR X (compareOp op') r')(hr':Ygl X.K r' g')(ha:MC X a fa)(hb:MC X b fb)(hc:MC X c fc)
 (hm:lastMarks [op,op'] [b,c]=false:=by with_unfolding_all rfl):MT X (.Compare a [op,op'] [b,c] pos) (ch3 fa fb fc g g'):=
 PT.imp (Yxb ho ho' ha hb hc hm) fun σ H Q h=>by
  obtain⟨ρ,k,H0,G0,G,ek,s,h⟩:=h
  obtain⟨x,y,h1,h2,h3⟩:=Yqr ek
  refine tCof.at h1 s fun v H1 G1 g1 r1 s1=>tCof.at h2 s1 fun u H2 G2 g2 r2 s2=>?_
  rcases h3 with⟨h3,rfl⟩ | ⟨h3,z,h4,h5⟩
  ·exact hr v u x y false H2 G2 _ h3 s2.seen (r1.grow g2) r2 ⟨false,rfl,by rw[if_neg (by simp)];exact⟨false,rfl,h H2 G2 (g1.trans g2)⟩⟩
  ·refine hr v u x y true H2 G2 _ h3 s2.seen (r1.grow g2) r2 ⟨true,rfl,?_⟩
   rw[if_pos rfl]
   exact tCof.at h4 s2 fun w H3 G3 g3 r3 s3=>hr' u w y z k H3 G3 _ h5 s3.seen (r2.grow g3) r3 ⟨k,rfl,h H3 G3 ((g1.trans g2).trans g3)⟩
def nS:Ro->Option Out:=fun _=>none
theorem Yxu:MS X st nS:=fun _ _ _ _ _ _ ⟨_,_,_,_,_,h,_⟩=>nomatch h
end
end
section
section
variable {X:Cx} {e:Expr} {f:Ro->Option D} {fc:Ro->Option Bool} {gl:Ro->Option (List D)} {K:W.Frag}
def Yxv:D->Bool
 | .non | .bl _ | .int _ | .str _=>true
 | _=>false
def scal(d:D):Option D:=if Yxv d=true then some d else none
theorem Rp.scal{G G':Hp}{d:D}{v:V}(h:Yxv d=true)(r:Rp K G d v):Rp K G' d v:=by
 cases d<;>first | (rw[Rp]at r ⊢;exact r) | cases h
theorem Gr.back{H G H' G' G1:Hp}(s:Same G H)(g:Gr H G1 H' G'):Gr H G H' G:=⟨g.h,Same.refl _,s.trans g.h,fun _ h h'=>absurd h h'⟩
end
end
section
variable {K:W.Frag}
set_option maxRecDepth 100000
section
variable {X:Cx} {e:Expr} {f:Ro->Option D} {p pos:Pos}
theorem nr1{α:Sort _}{a b:α}(h:a=b):a=b:=h
end
end
section
end
section
set_option maxRecDepth 100000
variable {K:W.Frag}
end
section
def y5b:List Value->List Str->Prop:=Paired fun v k=>(∃t,v=.str k t)/\PyData.strOk k=true
def inG(neg:Bool)(ks:List Str):D->Option Bool
 | .str k=>some (decide (k∈ks) != neg)
 | _=>none
def rInG(p:Addr)(ks:List Str)(neg:Bool):R2:=fun x y H Q=>∃k,x=.str k/\PyData.strOk k=true/\y=.ref p/\Q (.bl (decide (k∈ks) != neg)) H
section
variable {X:Cx} {a:Expr} {fa:Ro->Option D} {pos px:Pos} {x:Str} {ks:List Str}
@[simp] theorem inG_str(neg:Bool)(ks:List Str)(k:Str):inG neg ks (.str k)=some (decide (k∈ks) != neg):=nr1 rfl
end
end
section
end
section
set_option maxRecDepth 100000
end
section
def y7h:List Nat:=[8,16,32,64,128]
end
section
end
section
set_option maxRecDepth 100000
end
section
set_option maxRecDepth 100000
section
variable {prog:Program} {w:World} {A:Around} {E:Value->Shared->Prop} {s:Shared}
structure SetQ(w:World)(h:Heap)(a:Addr)(us:List (Int × Addr)):Prop where
 ex:∃o es ep t,h.get? a=some o/\o.ExactSet/\o.data=.set es ep t/\es.toList=us.map (fun u=>(u.1,Value.ref u.2))/\t.fits es.size=true/\t.mask=7/\t.dummies=#[]/\t.place.toList=us.map (fun u=>SetTable.bits u.1 % 8)/\Tab (byT w) t
end
end
section
set_option maxRecDepth 100000
end
section
end
section
set_option maxRecDepth 100000
def advM(mask:Nat)(p:SetTable.Probe):SetTable.Probe:=SetTable.advance { mask:=mask,place:=#[],dummies:=#[],finger:=0,led:=false,moves:=0,plain:=false } p
def itP(mask:Nat):Nat->SetTable.Probe->SetTable.Probe
 | 0,p=>p
 | k+1,p=>itP mask k (advM mask p)
def stP(mask i perturb:Nat):SetTable.Probe:={ j:=i,more:=SetTable.runEnd mask i - i,i,perturb,dummy:=none }
def Way(mask:Nat)(occ:Nat->Prop)(p:SetTable.Probe)(j:Nat):Prop:=∃k,(itP mask k p).j=j/\∀m,m < k->occ (itP mask m p).j
abbrev hSt(mask:Nat)(h:Int):SetTable.Probe:=stP mask (SetTable.bits h % (mask+1)) (SetTable.bits h)
section
variable {t:SetTable} {hA:Nat->Int} {h:Int}
structure Clean(t:SetTable)(n:Nat):Prop where
 hs:t.mask+1∈y7h
 dm:t.dummies=#[]
 rise:Rise t.place
 le:∀j∈t.place.toList,j<=t.mask
 sz:t.place.size=n
 room:n<=t.mask
end
end
section
set_option maxRecDepth 100000
def bI(b:Bool):Int:=if b then 1 else 0
def bH(bs:List Bool):Int:=y34 (bs.map bI)
def TupB(h:Heap)(u:Addr)(bs:List Bool):Prop:=bs.length<=4/\∃o n,h.get? u=some o/\o.cls=.type "tuple"/\o.data=.seq (bs.map Value.bool).toArray n
structure SetB(w:World)(h:Heap)(S:Addr)(us:List (Addr × List Bool)):Prop where
 ex:∃o es ep t,h.get? S=some o/\o.ExactSet/\o.data=.set es ep t/\es.toList.Perm (us.map fun u=>(bH u.2,Value.ref u.1))/\t.fits es.size=true/\Clean t es.size/\Tab (byT w) t/\es.size * 5 < t.mask * 3/\∀q∈es.toList.zip t.place.toList,Way t.mask (·∈t.place.toList) (hSt t.mask q.1.1) q.2
 keys:(us.map (·.2)).Nodup
 tups:∀u∈us,TupB h u.1 u.2
 few:us.length<=24
end
section
set_option maxRecDepth 100000
section
variable {n:Nat} {key:Nat->Nat} {cmp:Nat->Nat->(Bool->Shared->Prop)->Shared->Prop} {s:Shared}
variable (hinj:∀i j,i < n->j < n->key i=key j->i=j) (hc:∀i j (C:Bool->Shared->Prop),i < n->j < n->C (decide (key i < key j)) s->cmp i j C s)
include hinj hc
omit hinj hc in
omit hinj hc in
omit hinj hc in
end
end
section
section
variable {X:Cx} {e:Expr} {f:Ro->Option D} {p p2 pos pos2:Pos}
def Yt4:D->D->Option D
 | .tup a,.tup b=>if a.length+b.length<=cap6 then some (.tup (a++b))else none
 | _,_=>none
def y7i(K:W.Frag):R2:=fun x y H Q=>∃a b xs ys,x=.ref a/\y=.ref b/\SqT K H a xs/\SqT K H b ys/\xs.length+ys.length<=sizeLine/\
 (xs=[]->Q (.ref b) H)/\(xs≠[]->ys=[]->Q (.ref a) H)/\(xs≠[]->ys≠[]->∀p,H p=none->Q (.ref p) (upd H p (.tup (xs++ys))))
theorem y1s:OpR X (binaryOp .Add) (y7i X.K):=by
 intro pins s σ H x y v u Q I rx ry h
 obtain⟨a,b,xs,ys,rfl,rfl,ha,hb,hz,q0,q1,q2⟩:=h
 by_cases hx:xs=[]
 ·cases rx
  cases ry
  obtain⟨its,r1,p1,_⟩:=I.tuple ha
  obtain⟨its2,r2,p2,_⟩:=I.tuple hb
  have he:its=[]:=r1.nil_iff.mpr hx
  obtain⟨⟨cls,dd,data,sl⟩,ho,hc,n,hd⟩:=p1
  obtain⟨⟨cls2,dd2,data2,sl2⟩,ho2,hc2,n2,hd2⟩:=p2
  simp only at hc hd hc2 hd2
  subst hc hd hc2 hd2
  exact concat_meets ⟨_,ho,rfl⟩ ⟨_,ho2,rfl⟩ noFill_tuple_add seq_tuple_add PySem.F.slot_tuple_add PySem.F.entry_tuple_add (PySem.F.args_tuple_add_2 _ _)
   (tuple_addW0 a b its.toArray its2.toArray n n2 dd dd2 sl sl2 (by simp[he])) ⟨ho,ho2,⟨.ref b,H,I,rfl,q0 hx⟩⟩
 ·exact y03 pins s σ H _ _ _ _ Q I rx ry ⟨a,b,xs,ys,rfl,rfl,ha,hb,hx,hz,q1 hx,q2 hx⟩
theorem y1t{a b:Expr}{fa fb:Ro->Option D}(ha:MC X a fa)(hb:MC X b fb):ME X (.BinOp a .Add b pos) (b2 fa fb Yt4):=PE.imp (Yw9 y1s ha hb) fun σ H Q hx_=>by
 obtain⟨ρ,l,H0,G0,G,e,s,h⟩:=hx_
 obtain⟨dx,dy,h1,h2,h3⟩:=Yj4 e
 refine tCof.at h1 s fun v H1 G1 g1 r1 s1=>tCof.at h2 s1 fun u H2 G2 g2 r2 s2=>?_
 unfold Yt4 at h3
 split at h3
 ·rename_i l1 l2
  split at h3
  ·rename_i hz
   cases h3
   have r1':=r1.grow g2
   rw[Ct]at r1'
   rw[Ct]at r2
   obtain⟨p,xs,rfl,gp,rl⟩:=r1'
   obtain⟨q,zs,rfl,gq,rm⟩:=r2
   refine⟨p,q,xs,zs,rfl,rfl,.of gp.1,.of gq.1,by rw[rl.length,rm.length];exact Yes hz,fun hx=>?_,fun _ hy=>?_,fun _ _ m hm=>h _ _ _ ((g1.trans g2).trans (.new s2.seen hm (.tup (xs++zs)))) ?_⟩
   ·subst hx
    have:l1=[]:=List.eq_nil_of_length_eq_zero (by rw[<-rl.length];rfl)
    subst this
    refine h _ _ G2 (g1.trans g2) ?_
    rw[Qh,Rp]
    exact⟨q,zs,rfl,gq.2,rm⟩
   ·subst hy
    have:l2=[]:=List.eq_nil_of_length_eq_zero (by rw[<-rm.length];rfl)
    subst this
    refine h _ _ G2 (g1.trans g2) ?_
    rw[Qf,Rp]
    exact⟨p,xs,rfl,gp.2,rl⟩
   ·rw[Rp]
    exact⟨m,_,rfl,Yq,(rl.append rm).mono (Gr.new s2.seen hm _).g⟩
  ·cases h3
 ·cases h3
end
end
section
set_option maxRecDepth 100000
end
section
structure ZE(X:Cx)(e:Expr)(f:Ro->Option D):Prop where
 un:ME X e f
structure ZC(X:Cx)(e:Expr)(f:Ro->Option D):Prop where
 un:MC X e f
structure ZCA(X:Cx)(es:List Expr)(f:Ro->Option (List D)):Prop where
 un:MCA X es f
structure ZF(X:Cx)(e:Expr)(f:Ro->Option (List D)):Prop where
 un:MF X e f
structure ZT(X:Cx)(e:Expr)(f:Ro->Option Bool):Prop where
 un:MT X e f
structure ZW(X:Cx)(e:Expr)(f:Ro->Option Bool):Prop where
 un:MW X e f
structure ZA(X:Cx)(es:List Expr)(f:Ro->Option (List D)):Prop where
 un:MA X es f
structure ZI(X:Cx)(tg iter:Expr)(f:Ro->Option (List D)):Prop where
 un:MI X tg iter f
structure ZS(X:Cx)(st:Stmt)(f:Ro->Option Out):Prop where
 un:MS X st f
structure ZB(X:Cx)(sts:List Stmt)(f:Ro->Option Out):Prop where
 un:MB X sts f
structure ZG(X:Cx)(tg:Expr)(gt:D->Ro->Option Ro):Prop where
 un:MG X tg gt
structure ZIfs(X:Cx)(K:W.Frag)(ifs:List Expr)(f:Ro->Option Bool):Prop where
 un:PIfs X ifs (tTof K f)
structure ZO(X:Cx)(e:Option Expr)(f:Option (Ro->Option D)):Prop where
 un:PO X e (tO X.K f)
structure ZP(X:Cx)(pos:Pos)(keys:List (Option Expr))(values:List Expr)(ks:List Str)(fs:List (Ro->Option D)):Prop where
 un:MP X pos keys values ks fs
section
variable {K:W.Frag} {X:Cx} {H0 G0 H G:Hp} {σ:L2.St} {ρ:Ro} {a b c e:Expr} {es:List Expr} {fa fb fc f:Ro->Option D} {ga:Ro->Option (List D)} {pos:Pos}
theorem Yb{e:Expr}{f:Ro->Option D}(h:ZE X e f):ZC X e f:=⟨ME.mc h.un⟩
theorem Yp(i:Nat){x:Str}(hN:X.N[i]?=some x:=by rfl)(hv:Vis X.env.scope x:=by first | exact Or.inl rfl | exact Or.inr (Or.inl rfl) | exact Or.inr (Or.inr rfl))(hd:(x==("__debug__":Str))=false:=by decide)(hcd:(x==("__classdict__":Str))=false:=by decide):ZE X (.Name x pos) (getV i):=⟨y35 i hN hv hd hcd⟩
theorem Yd(i:Nat){x:Str}(hN:X.N[i]?=some x:=by rfl)(hv:Vis X.env.scope x:=by first | exact Or.inl rfl | exact Or.inr (Or.inl rfl) | exact Or.inr (Or.inr rfl))(hd:(x==("__debug__":Str))=false:=by decide)(hcd:(x==("__classdict__":Str))=false:=by decide):ZC X (.Name x pos) (getC i):=⟨y36 i hN hv hd hcd⟩
theorem Yh{i:Int}{j}:ZE X (.Constant (.int i) j pos) (kD (.int i)):=⟨y37 ⟩
theorem Ylt{k:Bool}{j}:ZE X (.Constant (.bool k) j pos) (kD (.bl k)):=⟨y63 ⟩
theorem Yc8{j}:ZE X (.Constant .none j pos) (kD .non):=⟨y38 ⟩
theorem Yi{x:Str}{j}(hx:PyData.strOk x=true:=by decide +kernel):ZE X (.Constant (.str x) j pos) (kD (.str x)):=⟨y39 hx⟩
theorem Yt5(ha:ZC X a fa)(hb:ZC X b fb):ZE X (.BinOp a .Sub b pos) (b2 fa fb subI):=⟨y4b ha.un hb.un⟩
theorem Yfw(ha:ZC X a fa)(hb:ZC X b fb):ZE X (.BinOp a .Mult b pos) (b2 fa fb mulI):=⟨y4c ha.un hb.un⟩
theorem Ych(ha:ZC X a fa)(hb:ZC X b fb):ZE X (.BinOp a .FloorDiv b pos) (b2 fa fb divI):=⟨y4d ha.un hb.un⟩
theorem Yav(ha:ZC X a fa)(hb:ZC X b fb):ZE X (.BinOp a .Mod b pos) (b2 fa fb modI):=⟨y4e ha.un hb.un⟩
theorem Yzy(ha:ZC X a fa)(hb:ZC X b fb):ZT X (.Compare a [.Lt] [b] pos) (b2 fa fb ltI):=⟨y64 ha.un hb.un⟩
theorem Yt6(ha:ZC X a fa)(hb:ZC X b fb):ZT X (.Compare a [.Gt] [b] pos) (b2 fa fb gtI):=⟨y65 ha.un hb.un⟩
theorem Ynw(hu:X.A.units+64 < cLine)(ha:ZC X a fa)(hb:ZC X b fb):ZE X (.Compare a [.Eq] [b] pos) (mB (b2 fa fb (eqM false))):=⟨y66 hu ha.un hb.un⟩
theorem Yay(hu:X.A.units+64 < cLine)(ha:ZC X a fa)(hb:ZC X b fb):ZT X (.Compare a [.Eq] [b] pos) (b2 fa fb (eqM false)):=⟨y67 hu ha.un hb.un⟩
theorem y5c(hu:X.A.units+64 < cLine)(ha:ZC X a fa)(hb:ZC X b fb):ZT X (.Compare a [.NotEq] [b] pos) (b2 fa fb (eqM true)):=⟨y68 hu ha.un hb.un⟩
end
section
variable {K:W.Frag} {X:Cx} {a b c e tg elt iter ke:Expr} {es rest ifs:List Expr} {fa fb f fe fk:Ro->Option D} {fc fd:Ro->Option Bool} {ga gl:Ro->Option (List D)} {pos p pos' p2 pos2 px:Pos} {x:Str} {id T:String} {r:List V->Hp->VK->Prop} {g:List D->Option D} {gf:List D->Option (List D)} {st:Stmt} {sts:List Stmt} {fs gs:Ro->Option Out} {scope:Scope} {N:List Str} {src:List (Option Nat)} {gt:D->Ro->Option Ro} {P:Program} {w:World} {mg:Str->Option Value} {base:Heap} {ta:TA}
theorem Ypa(ha:ZC X a fa)(he:∀whole,isTrue a X.env whole=(do let v <-whole;standAt a.pos;holding [v] (truthy v)):=by intro _;rfl):ZT X a (b1 fa truD):=⟨y4g ha.un he⟩
theorem Ygf(ha:ZT X a fc):ZW X (.BoolOp .And [a] pos) fc:=⟨y1b ha.un⟩
theorem Yfx(ha:ZT X a fc):ZW X (.BoolOp .Or [a] pos) fc:=⟨y4h ha.un⟩
theorem Yiw(ha:ZT X a fc)(hb:ZW X (.BoolOp .And (b::rest) pos) fd):ZW X (.BoolOp .And (a::b::rest) pos) (andT fc fd):=⟨y4j ha.un hb.un⟩
theorem Yjd(ha:ZT X a fc)(hb:ZW X (.BoolOp .Or (b::rest) pos) fd):ZW X (.BoolOp .Or (a::b::rest) pos) (orT fc fd):=⟨y69 ha.un hb.un⟩
theorem Ypb(ha:ZT X a fc):ZT X (.UnaryOp .Not a pos) (notT fc):=⟨y4k ha.un⟩
theorem Yxw(ha:ZE X a fa):ZE X (.BoolOp .And [a] pos) fa:=⟨y1d ha.un⟩
theorem y1u(ha:ZE X a fa):ZE X (.BoolOp .Or [a] pos) fa:=⟨y4l ha.un⟩
theorem Yt7(ha:ZE X a fa)(hb:ZE X (.BoolOp .And (b::rest) pos) fb):ZE X (.BoolOp .And (a::b::rest) pos) (andV fa fb):=⟨y4m ha.un hb.un⟩
theorem y5d(ha:ZE X a fa)(hb:ZE X (.BoolOp .Or (b::rest) pos) fb):ZE X (.BoolOp .Or (a::b::rest) pos) (orV fa fb):=⟨y7a ha.un hb.un⟩
theorem y1v(ha:ZE X a fa):ZE X (.UnaryOp .Not a pos) (notV fa):=⟨y4n ha.un⟩
theorem Yzz(hc:ZT X c fc)(ha:ZE X a fa)(hb:ZE X b fb):ZE X (.IfExp c a b pos) (ifV fc fa fb):=⟨y7b hc.un ha.un hb.un⟩
theorem Ykc(ha:ZC X a fa)(hb:ZC X b fb):ZT X (.Compare a [.Is] [b] pos) (b2 fa fb (isN false)):=⟨y4o ha.un hb.un⟩
theorem y9(ha:ZC X a fa)(hb:ZC X b fb)(hs:Yis b:=by intro _ _;rfl):ZE X (.Subscript a b pos) (b2 fa fb ixD):=⟨y1f ha.un hb.un hs⟩
theorem Yhx{lo hi:Option Expr}{fl fh:Option (Ro->Option D)}{p2:Pos}(ha:ZC X a fa)(hl:ZO X lo fl)(hh:ZO X hi fh):ZF X (.Subscript a (.Slice lo hi none p2) pos) (slF fa fl fh):=⟨Yxj ha.un hl.un hh.un⟩
theorem Yqs :ZO X none none:=⟨y7c ⟩
theorem Yqt(h:ZC X e f):ZO X (some e) (some f):=⟨y7d h.un⟩
theorem Yaz{g:Ro->Option (List D)}(h:ZF X e g):ZE X e (lF g):=⟨MF.me h.un⟩
theorem Yj :ZA X [] aNil:=⟨y4r ⟩
theorem Yc(ha:ZE X e f)(hr:ZA X es ga)(hs:starEach (e::es) X.env=(false,eval e X.env)::starEach es X.env:=by rfl):ZA X (e::es) (Yg f ga):=⟨y1g ha.un hr.un hs⟩
theorem y6 :ZCA X [] aNil:=⟨Yto ⟩
theorem Yx(ha:ZC X e f)(hr:ZCA X es ga)(hs:starEach (e::es) X.env=(false,eval e X.env)::starEach es X.env:=by rfl):ZCA X (e::es) (Yg f ga):=⟨Yqn ha.un hr.un hs⟩
theorem Ykd{x1}(h:ZA X es ga):ZE X (.Tuple es x1 pos) (dTup ga):=⟨y4s h.un⟩
theorem Yan(h:ZA X es ga):ZF X (.List es pos) (dLst ga):=⟨y4t h.un⟩
theorem Ybz(hc:Ye6 X (.builtin id) r)(hr:SemC X.K r g)(hg:Gl X x)(hm:X.mg x=none)(hv:bootBuiltins x=some (.builtin id))(ha:ZCA X (e::es) ga)(hn:x≠"__name__":=by decide)(hdb:(x==("__debug__":Str))=false:=by decide)(he:starEach (e::es) X.env=(false,eval e X.env)::starEach es X.env:=by rfl)(hpl:(backTo pos (starEach es X.env)).any (·.1)=false:=by rfl):ZE X (.Call (.Name x p) (e::es) [] pos) (cC ga g):=⟨Yxk hc hr hg hm hv ha.un hn hdb he hpl⟩
theorem Yaw(hc:Ye6 X (.type T) r)(hr:SemC X.K r g)(hg:Gl X x)(hm:X.mg x=none)(hv:bootBuiltins x=some (.type T))(ha:ZCA X (e::es) ga)(hn:x≠"__name__":=by decide)(hdb:(x==("__debug__":Str))=false:=by decide)(he:starEach (e::es) X.env=(false,eval e X.env)::starEach es X.env:=by rfl)(hpl:(backTo pos (starEach es X.env)).any (·.1)=false:=by rfl):ZE X (.Call (.Name x p) (e::es) [] pos) (cC ga g):=⟨Ytp hc hr hg hm hv ha.un hn hdb he hpl⟩
theorem Ya1 :ZB X [] sNil:=⟨y4v ⟩
theorem Yo(h1:ZS X st fs)(h2:ZB X sts gs):ZB X (st::sts) (sSeq fs gs):=⟨y1i h1.un h2.un⟩
theorem Yy(h1:ZS X st fs):ZB X [st] fs:=⟨y4w h1.un⟩
theorem Ypc(is:List Nat)(h:ZS X st fs):ZS X st (wF is fs):=⟨y4x is h.un⟩
theorem Yco(i:Nat){x:Str}(hN:X.N.Nodup)(he:ZE X e f)(hi:X.N[i]?=some x:=by rfl)(hx:Loc X.env.scope x:=by first | exact Or.inl rfl | exact Or.inr rfl)(hs:swapsWith e (some (.Name x pos')) pos.line X.env=pure false:=by rfl)(hf:X.fn x=true\/X.env.scope.names.lookup x=some .local:=by first | exact .inl rfl | exact .inr rfl):ZS X (.Assign [.Name x pos'] e pos) (sSet i f):=⟨y40 i hN he.un hi hx hs hf⟩
theorem Ya5(i:Nat){x:Str}(hN:X.N.Nodup)(he:ZF X e gl)(hi:X.N[i]?=some x:=by rfl)(hx:Loc X.env.scope x:=by first | exact Or.inl rfl | exact Or.inr rfl)(hs:swapsWith e (some (.Name x pos')) pos.line X.env=pure false:=by rfl)(hf:X.fn x=true\/X.env.scope.names.lookup x=some .local:=by first | exact .inl rfl | exact .inr rfl):ZS X (.Assign [.Name x pos'] e pos) (sOwn i gl):=⟨y41 i hN he.un hi hx hs hf⟩
theorem y8(he:ZE X e f):ZS X (.Return (some e) pos) (sRet f):=⟨y42 he.un⟩
theorem Ybo{c:Expr}{a b:List Stmt}{fc:Ro->Option Bool}(hc:ZT X c fc)(ha:ZB X a fs)(hb:ZB X b gs):ZS X (.If c a b pos) (sIf fc fs gs):=⟨y7e hc.un ha.un hb.un⟩
theorem Ye2(i:Nat){x:Str}{p2 apos cpos:Pos}(he:ZE X e f)(hN:X.N[i]?=some x:=by rfl)(hv:Vis X.env.scope x:=by first | exact Or.inl rfl | exact Or.inr (Or.inl rfl) | exact Or.inr (Or.inr rfl))(hd:(x==("__debug__":Str))=false:=by decide)(hcd:(x==("__classdict__":Str))=false:=by decide)(hse:swapsWith (.Call (.Attribute (.Name x p2) "append" apos) [e] [] cpos) none pos.line X.env=pure false:=by rfl)(hs:starEach [e] X.env=[(false,eval e X.env)]:=by rfl)(hfew:((backTo cpos (starEach [e] X.env)).all (fun x=>!x.1)&&(backToKw cpos (keywordEach [] X.env)).all (fun x=>x.1.isSome)&&decide ([e].length+([]:List Keyword).length+(if ([]:List Keyword).isEmpty then 0 else 1) < 30))=true:=by rfl)(hline:(apos.endLine==cpos.line)=true:=by rfl)(hbase:attributeBase (.Name x p2) "append" X.env (eval (.Name x p2) X.env)=eval (.Name x p2) X.env:=by rfl):ZS X (.Expr (.Call (.Attribute (.Name x p2) "append" apos) [e] [] cpos) pos) (sMut i f appD):=⟨Ytq i he.un hN hv hd hcd hse hs hfew hline hbase⟩
theorem Ypd{l:Expr}(hl:ZE X l f):ZI X tg l (b1 f Ycg):=⟨y44 hl.un⟩
theorem Ycw(i:Nat){x:Str}(hN:X.N.Nodup)(hi:X.N[i]?=some x:=by rfl)(hx:Loc X.env.scope x:=by first | exact Or.inl rfl | exact Or.inr rfl)(hf:X.fn x=true\/X.env.scope.names.lookup x=some .local:=by first | exact .inl rfl | exact .inr rfl):ZG X (.Name x pos) (gSet i):=⟨y1j i hN hi hx hf⟩
theorem y1w{iter:Expr}{body:List Stmt}{gt:D->Ro->Option Ro}(hp:PassesOwn (model X.prog X.w) X.A X.env X.xe)(hc:X.calm=true)(hi:ZI X tg iter gl)(hg:ZG X tg gt)(hb:ZB X body fs)(hs:∀x,foldedSetIterable iter X.env x=pure x:=by intro _;rfl):ZS X (.For tg iter body [] pos) (sFor gl gt fs):=⟨y45 hp hc hi.un hg.un hb.un hs⟩
theorem Ype :ZIfs X X.K [] tY:=⟨Yqp ⟩
theorem Ymf(S:CompSc X.N X.env.scope N src scope)(hc:X.calm=true)(hit:ZI X tg iter gl)(hg:∀cl C fp s H,ZG (Yak X scope N cl C fp s H) tg gt)(hi:∀cl C fp s H,ZIfs (Yak X scope N cl C fp s H) X.K ifs fc)(he:∀cl C fp s H,ZE (Yak X scope N cl C fp s H) elt fe)(hle:∀ρ d ρ1,gt d (capR src ρ)=some ρ1->Le (capR src ρ) ρ1)(hs:∀x,foldedSetIterable iter X.env x=pure x:=by intro _;rfl):ZF X (.ListComp elt [⟨tg,iter,ifs,0⟩] scope pos) (Yns gl src gt fc fe):=⟨y1m S hc hit.un (fun cl C fp s H=>(hg cl C fp s H).un) (fun cl C fp s H=>(hi cl C fp s H).un) (fun cl C fp s H=>(he cl C fp s H).un) hle hs⟩
theorem Ylu{x qual:Str}{st:Stmt}{f:Addr}{fd:FuncData}{N ps:List Str}{k n m:Nat}{fb:Ro->Option Out}(F:Fun K x qual st f fd)(S:FnScope N ps (defScope st))(hn:N.length=n)(hm:ps.length=m)(hb:∀(cdv:Value) (A:Around) (outer:List Env) (s:Shared) (H:Hp) (E:XK),Room k (A.deeper (envOfC qual (defScope st) s.heap.objs.size f cdv))->ZB (cxOf CX0 P w K mg base N qual (defScope st) f cdv A outer s H E).nox (defBody st) fb):FnOk P w K mg base CX0 (k+1) f fd ps (spOf K m (runB m n fb)):=Yts F S hn hm (fun cdv A outer s H E hr=>(hb cdv A outer s H E hr).un)
theorem Yt{j k n:Nat}{x:Str}{p:Pos}{ps:List Str}{fn:List D->Option D}(c:Okf X.prog X.w X.K X.mg X.base j n x ps fn)(hr:Room k X.A)(hg:Gl X x)(ha:ZA X (e::es) ga)(hl:∀ρ l,ga ρ=some l->l.length=n)(hj:j<=k:=by first | exact qu _ | lia)(hdb:(x==("__debug__":Str))=false:=by decide)(he:starEach (e::es) X.env=(false,eval e X.env)::starEach es X.env:=by rfl)(hpl:(backTo pos (starEach es X.env)).any (·.1)=false:=by rfl):ZE X (.Call (.Name x p) (e::es) [] pos) (cC ga fn):=⟨Yxm c hr hg ha.un hl hj hdb he hpl⟩
theorem Ymg(ha:ZC X a fa)(hb:ZC X b fb):ZE X (.BinOp a .Add b pos) (b2 fa fb addI):=⟨y47 ha.un hb.un⟩
theorem Ybi(ha:ZC X a fa)(hb:ZC X b fb):ZF X (.BinOp a .Add b pos) (b2 fa fb catD):=⟨y48 ha.un hb.un⟩
theorem Yt8{T:String}{tn:Str}{p p2:Pos}(ha:ZC X a fa)(hg:Gl X "isinstance")(hg2:Gl X tn)(hm:X.mg "isinstance"=none)(hm2:X.mg tn=none)(hv2:bootBuiltins tn=some (.type T))(hk:Kit T)(hv:bootBuiltins "isinstance"=some (.builtin "isinstance"):=by decide +kernel)(hn2:tn≠"__name__":=by decide)(hd2:(tn==("__debug__":Str))=false:=by decide)(hs:starEach [a,.Name tn p2] X.env=(false,eval a X.env)::starEach [.Name tn p2] X.env:=by rfl)(hs2:starEach [.Name tn p2] X.env=(false,eval (.Name tn p2) X.env)::starEach [] X.env:=by rfl)(hpl:(backTo pos (starEach [.Name tn p2] X.env)).any (·.1)=false:=by rfl):ZE X (.Call (.Name "isinstance" p) [a,.Name tn p2] [] pos) (mB (b1 fa (isiD T))):=⟨y49 ha.un hg hg2 hm hm2 hv2 hk hv hn2 hd2 hs hs2 hpl⟩
theorem Ypf(hc:X.calm=true)(hg:Gl X "list")(hm:X.mg "list"=none)(hg2:Gl X "reversed")(hm2:X.mg "reversed"=none)(ha:ZC X e f)(hs:starEach [e] X.env=[(false,eval e X.env)]:=by rfl)(he:starEach [.Call (.Name "reversed" p2) [e] [] pos2] X.env=[(false,eval (.Call (.Name "reversed" p2) [e] [] pos2) X.env)]:=by rfl):ZF X (.Call (.Name "list" p) [.Call (.Name "reversed" p2) [e] [] pos2] [] pos) (revF f):=⟨Ysk hc hg hm hg2 hm2 ha.un hs he⟩
theorem Yhy{kvs:List (Str × Str)}(g:GD X.K X.w X.mg x kvs)(hg:Gl X x)(hk:ZC X ke fk)(hs:NoSl ke:=by intro _ _;rfl)(hd:(x==("__debug__":Str))=false:=by decide):ZE X (.Subscript (.Name x px) ke pos) (b1 fk (Yme kvs)):=⟨Yxr g hg hk.un hs hd⟩
theorem Ymh{i:Int}(g:GI X.mg x i)(hg:Gl X x)(hd:(x==("__debug__":Str))=false:=by decide):ZE X (.Name x px) (kD (.int i)):=⟨y1r g hg hd⟩
end
section
variable {X:Cx} {a b c e:Expr} {fa fb fc:Ro->Option D} {pos:Pos} {st:Stmt}
theorem Yt9{op op':CmpOp}{r r':R2}{g g':D->D->Option Bool}(ho:OpR X (compareOp op) r)(hr:Ygl X.K r g)(ho':OpR X (compareOp op') r')(hr':Ygl X.K r' g')(ha:ZC X a fa)(hb:ZC X b fb)(hc:ZC X c fc)(hm:lastMarks [op,op'] [b,c]=false:=by with_unfolding_all rfl):ZE X (.Compare a [op,op'] [b,c] pos) (mB (ch3 fa fb fc g g')):=⟨Yxs ho hr ho' hr' ha.un hb.un hc.un hm⟩
theorem Yua{op op':CmpOp}{r r':R2}{g g':D->D->Option Bool}(ho:OpR X (compareOp op) r)(hr:Ygl X.K r g)(ho':OpR X (compareOp op') r')(hr':Ygl X.K r' g')(ha:ZC X a fa)(hb:ZC X b fb)(hc:ZC X c fc)(hm:lastMarks [op,op'] [b,c]=false:=by with_unfolding_all rfl):ZT X (.Compare a [op,op'] [b,c] pos) (ch3 fa fb fc g g'):=⟨Yxt ho hr ho' hr' ha.un hb.un hc.un hm⟩
theorem Yfy :ZS X st nS:=⟨Yxu ⟩
end
theorem Yeh{X:Cx}{e:Expr}{f:Ro->Option Bool}(h:ZW X e f):ZT X e f:=⟨PW.pt h.un⟩
end
section
section
variable {X:Cx} {e:Expr} {f:Ro->Option D} {p p2 pos pos2:Pos}
theorem Yxx{a b:Expr}{fa fb:Ro->Option D}(ha:ZC X a fa)(hb:ZC X b fb):ZE X (.BinOp a .Add b pos) (b2 fa fb Yt4):=⟨y1t ha.un hb.un⟩
end
end
section
variable {K:W.Frag}
def wo(H:Hp)(p:Addr):Hp:=fun a=>if a=p then none else H a
def y7j(K:W.Frag)(j:Nat)(x:Option (Option V))(H0 G0:Hp)(F:Ends):Out->Prop
 | .nx ρ'=>∀σ' H' G',SR K H0 G0 σ' H' G' ρ'->σ'[j]?=x->F.nx σ' H'
 | .rt _=>False
 | .bk ρ'=>∀σ' H' G',SR K H0 G0 σ' H' G' ρ'->σ'[j]?=x->F.bk σ' H'
 | .ct ρ'=>∀σ' H' G',SR K H0 G0 σ' H' G' ρ'->σ'[j]?=x->F.ct σ' H'
def sOfK(K:W.Frag)(j:Nat)(f:Ro->Option Out):TS:=fun F σ H=>∃ρ out H0 G0 G,f ρ=some out/\SR K H0 G0 σ H G ρ/\y7j K j σ[j]? H0 G0 F out
structure KS(j:Nat)(X:Cx)(st:Stmt)(f:Ro->Option Out):Prop where
 un:PS X st (sOfK X.K j f)
structure KB(j:Nat)(X:Cx)(sts:List Stmt)(f:Ro->Option Out):Prop where
 un:PSs X sts (sOfK X.K j f)
def sOfR(K:W.Frag)(j r:Nat)(fb:Ro->Option Out):TS:=fun F σ H=>∃ρ ρ' l d H0 G0 G,fb ρ=some (.nx ρ')/\getO j ρ'=some l/\getV r (frz [r] ρ')=some d/\SR K H0 G0 σ H G ρ/\
 ∀v σ' H' G',SR K H0 G0 σ' H' G' (frz [r] ρ')->σ'[j]?=σ[j]?->Rp K G' d v->F.rt v H'
structure KR(j r:Nat)(X:Cx)(sts:List Stmt)(f:Ro->Option Out):Prop where
 un:PSs X sts (sOfR X.K j r f)
def sOfL(K:W.Frag)(gl:Ro->Option (List D))(fb:Ro->Option Out):TS:=fun F σ H=>∃ρ ρ' l H0 G0 G,fb ρ=some (.nx ρ')/\gl ρ'=some l/\SR K H0 G0 σ H G ρ/\
 ∀p xs H' G',Gr H0 G0 H' G'->H0 p=none->G' p=none->H' p=some (.lst xs)->RpL K G' l xs->F.rt (.ref p) H'
structure KL(gl:Ro->Option (List D))(X:Cx)(sts:List Stmt)(f:Ro->Option Out):Prop where
 un:PSs X sts (sOfL X.K gl f)
theorem len1{us:List Value}(h:us.length=1):∃a0,us=[a0]:=List.length_eq_one_iff.mp h
theorem len2{us:List Value}(h:us.length=2):∃a0 a1,us=[a0,a1]:=by
 cases us with
 | nil=>cases h
 | cons a us=>
   obtain⟨b0,rfl⟩:=len1 (Nat.succ.inj h)
   exact⟨a,b0,rfl⟩
theorem len3{us:List Value}(h:us.length=3):∃a0 a1 a2,us=[a0,a1,a2]:=by
 cases us with
 | nil=>cases h
 | cons a us=>
   obtain⟨b0,b1,rfl⟩:=len2 (Nat.succ.inj h)
   exact⟨a,b0,b1,rfl⟩
theorem len4{us:List Value}(h:us.length=4):∃a0 a1 a2 a3,us=[a0,a1,a2,a3]:=by
 cases us with
 | nil=>cases h
 | cons a us=>
   obtain⟨b0,b1,b2,rfl⟩:=len3 (Nat.succ.inj h)
   exact⟨a,b0,b1,b2,rfl⟩
theorem len5{us:List Value}(h:us.length=5):∃a0 a1 a2 a3 a4,us=[a0,a1,a2,a3,a4]:=by
 cases us with
 | nil=>cases h
 | cons a us=>
   obtain⟨b0,b1,b2,b3,rfl⟩:=len4 (Nat.succ.inj h)
   exact⟨a,b0,b1,b2,b3,rfl⟩
theorem len6{us:List Value}(h:us.length=6):∃a0 a1 a2 a3 a4 a5,us=[a0,a1,a2,a3,a4,a5]:=by
 cases us with
 | nil=>cases h
 | cons a us=>
   obtain⟨b0,b1,b2,b3,b4,rfl⟩:=len5 (Nat.succ.inj h)
   exact⟨a,b0,b1,b2,b3,b4,rfl⟩
theorem len7{us:List Value}(h:us.length=7):∃a0 a1 a2 a3 a4 a5 a6,us=[a0,a1,a2,a3,a4,a5,a6]:=by
 cases us with
 | nil=>cases h
 | cons a us=>
   obtain⟨b0,b1,b2,b3,b4,b5,rfl⟩:=len6 (Nat.succ.inj h)
   exact⟨a,b0,b1,b2,b3,b4,b5,rfl⟩
end
end M
namespace M
open PySem L2
theorem nr{α:Sort _}{a b:α}(h:a=b):a=b:=h
section
variable {ρ:Ro}
@[simp] theorem ap_b2{α:Type}(fa fb:Ro->Option D)(g:D->D->Option α):b2 fa fb g ρ=(fa ρ).bind fun x=>(fb ρ).bind fun y=>g x y:=nr rfl
@[simp] theorem ap_b1{α:Type}(fa:Ro->Option D)(g:D->Option α):b1 fa g ρ=(fa ρ).bind g:=nr rfl
@[simp] theorem ap_kD(d:D):kD d ρ=some d:=nr rfl
@[simp] theorem ap_mB(f:Ro->Option Bool):mB f ρ=(f ρ).map D.bl:=nr rfl
@[simp] theorem ap_andT(f g:Ro->Option Bool):andT f g ρ=(f ρ).bind fun k=>if k=true then g ρ else some false:=nr rfl
@[simp] theorem ap_orT(f g:Ro->Option Bool):orT f g ρ=(f ρ).bind fun k=>if k=true then some true else g ρ:=nr rfl
@[simp] theorem ap_notT(f:Ro->Option Bool):notT f ρ=(f ρ).map (!·):=nr rfl
@[simp] theorem ap_andV(f g:Ro->Option D):andV f g ρ=((f ρ).bind blD).bind fun k=>if k=true then g ρ else some (.bl false):=nr rfl
@[simp] theorem ap_orV(f g:Ro->Option D):orV f g ρ=((f ρ).bind blD).bind fun k=>if k=true then some (.bl true)else g ρ:=nr rfl
@[simp] theorem ap_notV(f:Ro->Option D):notV f ρ=((f ρ).bind blD).map fun k=>.bl (!k):=nr rfl
@[simp] theorem ap_ifV(c:Ro->Option Bool)(f g:Ro->Option D):ifV c f g ρ=(c ρ).bind fun k=>if k=true then f ρ else g ρ:=nr rfl
@[simp] theorem ap_lF(f:Ro->Option (List D)):lF f ρ=(f ρ).map D.lst:=nr rfl
@[simp] theorem ap_aNil:aNil ρ=some []:=nr rfl
@[simp] theorem ap_aCons(f:Ro->Option D)(g:Ro->Option (List D)):Yg f g ρ=(f ρ).bind fun d=>(g ρ).map (d::·):=nr rfl
@[simp] theorem ap_dTup(f:Ro->Option (List D)):dTup f ρ=(f ρ).bind fun l=>if l.length<=cap6 then some (.tup l)else none:=nr rfl
@[simp] theorem ap_dLst(f:Ro->Option (List D)):dLst f ρ=(f ρ).bind fun l=>if l.length<=cap6 then some l else none:=nr rfl
@[simp] theorem ap_cC(f:Ro->Option (List D))(g:List D->Option D):cC f g ρ=(f ρ).bind g:=nr rfl
@[simp] theorem ap_slF(f:Ro->Option D)(lo hi:Option (Ro->Option D)):slF f lo hi ρ=((f ρ).bind lstD).bind fun l=>(optI lo ρ).bind fun i=>(optI hi ρ).bind fun j=>some (cutD l i j):=nr rfl
@[simp] theorem ap_optN:optI none ρ=some none:=nr rfl
@[simp] theorem ap_optS(f:Ro->Option D):optI (some f) ρ=((f ρ).bind intD).map some:=nr rfl
@[simp] theorem ap_sNil:sNil ρ=some (.nx ρ):=nr rfl
@[simp] theorem y1x(i:Nat)(f:Ro->Option D):sSet i f ρ=(f ρ).map fun d=>.nx (ρ.set i (some (.sh d))):=nr rfl
@[simp] theorem ap_sOwn(i:Nat)(f:Ro->Option (List D)):sOwn i f ρ=(f ρ).map fun l=>.nx (ρ.set i (some (.ow l))):=nr rfl
@[simp] theorem ap_sRet(f:Ro->Option D):sRet f ρ=(f ρ).map .rt:=nr rfl
@[simp] theorem ap_sIf(c:Ro->Option Bool)(f g:Ro->Option Out):sIf c f g ρ=(c ρ).bind fun k=>if k=true then f ρ else g ρ:=nr rfl
@[simp] theorem ap_sMut(i:Nat)(f:Ro->Option D)(g:List D->D->Option (List D)):sMut i f g ρ=(getO i ρ).bind fun l=>(f ρ).bind fun d=>(g l d).map fun l'=>.nx (ρ.set i (some (.ow l'))):=nr rfl
@[simp] theorem ap_sFor(gl:Ro->Option (List D))(gt:D->Ro->Option Ro)(fb:Ro->Option Out):sFor gl gt fb ρ=(gl ρ).bind fun ds=>forM gt fb ds ρ:=nr rfl
@[simp] theorem ap_fComp(gl:Ro->Option (List D))(src:List (Option Nat))(gt:D->Ro->Option Ro)(fc:Ro->Option Bool)(fe:Ro->Option D):Yns gl src gt fc fe ρ=(gl ρ).bind fun ds=>Yk5 gt fc fe (capR src ρ) ds:=nr rfl
@[simp] theorem ap_wF(is:List Nat)(f:Ro->Option Out):wF is f ρ=f (frz is ρ):=nr rfl
def y1y(g:Ro->Option Out):Out->Option Out
 | .nx ρ'=>g ρ'
 | o=>some o
@[simp] theorem thenS_nx(g:Ro->Option Out)(ρ':Ro):y1y g (.nx ρ')=g ρ':=nr rfl
@[simp] theorem thenS_rt(g:Ro->Option Out)(d:D):y1y g (.rt d)=some (.rt d):=nr rfl
@[simp] theorem Ybt(f g:Ro->Option Out):sSeq f g ρ=(f ρ).bind (y1y g):=nr rfl
def endB:Out->Option D
 | .rt d=>some d
 | .nx _=>some .non
 | _=>none
@[simp] theorem endB_rt(d:D):endB (.rt d)=some d:=nr rfl
theorem Ybg{k n:Nat}{fb:Ro->Option Out}{ds:List D}(h:ds.length=k):runB k n fb ds=(fb (Yl n ds)).bind endB:=by
 unfold runB
 rw[if_pos h]
 rfl
@[simp] theorem ap_ch3(fa fb fc:Ro->Option D)(g g':D->D->Option Bool):ch3 fa fb fc g g' ρ=(fa ρ).bind fun x=>(fb ρ).bind fun y=>(g x y).bind fun k=>if k=true then (fc ρ).bind fun z=>g' y z else some false:=nr rfl
end
@[simp] theorem add_int'(i j:Int):addI (.int i) (.int j)=some (.int (i+j)):=nr rfl
@[simp] theorem sub_int'(i j:Int):subI (.int i) (.int j)=some (.int (i - j)):=nr rfl
theorem Yjp{i j:Int}(h:-(2 ^ 64) < i/\i < 2 ^ 64):mulI (.int i) (.int j)=some (.int (i * j)):=by
 simp only[mulI,i2]
 rw[if_pos]
 simp only[Bool.or_eq_true,qx,decide_eq_true_eq]
 exact .inl h
@[simp] theorem div_int'{i j:Int}(h:0 < j)(h':j < 1073741824):divI (.int i) (.int j)=some (.int (i / j)):=by
 simp only[divI,i2]
 rw[if_pos]
 simp only[qx,decide_eq_true_eq]
 exact⟨h,h'⟩
@[simp] theorem Ynx{i j:Int}(h:0 < j):modI (.int i) (.int j)=some (.int (i % j)):=by
 simp only[modI,i2]
 rw[if_pos]
 simp only[decide_eq_true_eq]
 exact h
@[simp] theorem lt_int'(i j:Int):ltI (.int i) (.int j)=some (decide (i < j)):=nr rfl
@[simp] theorem le_int'(i j:Int):leI (.int i) (.int j)=some (decide (i<=j)):=nr rfl
@[simp] theorem gt_int'(i j:Int):gtI (.int i) (.int j)=some (decide (j < i)):=nr rfl
@[simp] theorem blD_bl(b:Bool):blD (.bl b)=some b:=nr rfl
@[simp] theorem truD_bl(b:Bool):truD (.bl b)=some b:=nr rfl
@[simp] theorem itemsOf_tup(l:List D):Ycg (.tup l)=some l:=nr rfl
@[simp] theorem itemsOf_lst(l:List D):Ycg (.lst l)=some l:=nr rfl
@[simp] theorem itemsOf_scr(ns:List Int):Ycg (.scr ns)=some (ns.map D.int):=nr rfl
@[simp] theorem lenC_one(c:D):lenC [c]=(Ycg c).map fun l=>.int l.length:=nr rfl
@[simp] theorem tupC_one(c:D):tupC [c]=(Ycg c).map D.tup:=nr rfl
@[simp] theorem intC_bl(b:Bool):intC [.bl b]=some (.int (if b then 1 else 0)):=nr rfl
@[simp] theorem ixD_int(c:D)(i:Int):ixD c (.int i)=(Ycg c).bind fun l=>atI l i:=nr rfl
@[simp] theorem lstD_lst(l:List D):lstD (.lst l)=some l:=nr rfl
@[simp] theorem intD_int(i:Int):intD (.int i)=some i:=nr rfl
@[simp] theorem y1z(i j:Int):eqD (.int i) (.int j)=(i==j):=by simp[eqD,toPy,PyData.eqv]
@[simp] theorem eqD_bl(i j:Bool):eqD (.bl i) (.bl j)=(i==j):=by simp[eqD,toPy,PyData.eqv]
@[simp] theorem y10(i j:Str):eqD (.str i) (.str j)=(i==j):=by simp[eqD,toPy,PyData.eqv]
@[simp] theorem y11(l m:List D):eqD (.tup l) (.tup m)=eqL l m:=by simp[eqD,eqL,toPy,PyData.eqv]
@[simp] theorem eqL_nil:eqL [] []=true:=by simp[eqL,Ygk,PyData.eqvAll]
@[simp] theorem Yxy(a b:D)(l m:List D):eqL (a::l) (b::m)=(eqD a b&&eqL l m):=by simp[eqL,eqD,Ygk,PyData.eqvAll]
@[simp] theorem dep_int(i:Int):dep (.int i)=0:=by simp[dep]
@[simp] theorem dep_bl(i:Bool):dep (.bl i)=0:=by simp[dep]
@[simp] theorem dep_str(i:Str):dep (.str i)=0:=by simp[dep]
@[simp] theorem dep_non:dep .non=0:=by simp[dep]
@[simp] theorem Yix(l:List D):dep (.tup l)=depL l+1:=by simp[dep]
@[simp] theorem depL_nil:depL []=0:=by simp[depL]
@[simp] theorem Yub(d:D)(l:List D):depL (d::l)=max (dep d) (depL l):=by simp[depL]
theorem Yuc{neg:Bool}{d e:D}(h:dep d<=60)(h':dep e<=60):eqM neg d e=some (if neg then !eqD d e else eqD d e):=by
 unfold eqM
 rw[if_pos ⟨h,h'⟩]
theorem Yny{gt:D->Ro->Option Ro}{fc:Ro->Option Bool}{fe:Ro->Option D}{ρ:Ro}{α:Type}(enc:α->D)(p:α->Bool)(f:α->D):∀(l:List α),(∀a∈l,∃ρ1,gt (enc a) ρ=some ρ1/\fc ρ1=some (p a)/\(p a=true->fe ρ1=some (f a)))->
 Yk5 gt fc fe ρ (l.map enc)=some ((l.filter p).map f)
 | [],_=>rfl
 | a::l,h=>by
   obtain⟨ρ1,h1,h2,h3⟩:=h a qh
   have ih:=Yny enc p f l fun b hb=>h b (qg _ hb)
   rw[qz,Yk5,h1,qd,h2,qd]
   cases hp:p a with
   | true=>
     rw[if_pos rfl,h3 hp,qd,ih,List.filter_cons_of_pos hp]
     rfl
   | false=>rw[if_neg qi,ih,List.filter_cons_of_neg (by rw[hp];exact qi)]
@[simp] theorem Ymi{α:Type}(a:α)(l:List α):atI (a::l) 0=some a:=by
 have:=Yl5 (xs:=a::l) (j:=0) (v:=a) rfl
 simpa using this
@[simp] theorem atI_one{α:Type}(a b:α)(l:List α):atI (a::b::l) 1=some b:=by
 have:=Yl5 (xs:=a::b::l) (j:=1) (v:=b) rfl
 simpa using this
theorem Yz0{α:Type}{l:List α}{i:Int}{j:Nat}{v:α}(hi:i=(j:Int))(h:l[j]?=some v):atI l i=some v:=by
 subst hi
 exact Yl5 h
theorem Yqu{gt:D->Ro->Option Ro}{fb:Ro->Option Out}{α:Type}(enc:α->D)(I:List α->Ro->Prop):∀(l pre:List α) (ρ:Ro),I pre ρ->
 (∀q a r ρ,pre++l=q++a::r->I q ρ->∃ρ1 ρ2,gt (enc a) ρ=some ρ1/\fb ρ1=some (.nx ρ2)/\I (q++[a]) ρ2)->∃ρ',M.forM gt fb (l.map enc) ρ=some (.nx ρ')/\I (pre++l) ρ'
 | [],pre,ρ,h0,_=>⟨ρ,rfl,by rw[Qf];exact h0⟩
 | a::l,pre,ρ,h0,hs=>by
   obtain⟨ρ1,ρ2,e1,e2,h2⟩:=hs pre a l ρ rfl h0
   obtain⟨ρ',e3,h3⟩:=Yqu enc I l (pre++[a]) ρ2 h2 fun q b r ρ e hI=>hs q b r ρ (by rw[<-e,Qc];rfl) hI
   refine⟨ρ',?_,by rw[Qc]at h3;exact h3⟩
   rw[qz,M.forM,e1,qd,e2,qd]
   exact e3
theorem Ypg(a n:Int):rngD a n=(List.range (n - a).toNat).map fun i=>D.int (a+(i:Nat)):=rfl
theorem Yph{n:Int}(h:-1000000<=n)(h':n<=1000000):rng1 [.int n]=some (rngD 0 n):=by
 have hcap:(cap6:Int)=1000000:=by decide
 simp only[rng1]
 rw[if_pos]
 simp only[qx,decide_eq_true_eq]
 lia
theorem y12{α:Type}{l:List α}{i:Int}(h0:0<=i)(h:i < (l.length:Int)):∃v,v∈l/\atI l i=some v:=by
 have hk:i.toNat < l.length:=by lia
 exact⟨l[i.toNat],List.getElem_mem hk,Yz0 (j:=i.toNat) (by lia) (qr hk)⟩
theorem Yxz{α:Type}{l:List α}{i:Nat}(h:i < l.length):atI l (i:Int)=some l[i]:=Yl5 (qr h)
theorem Yud{α β:Type}(f:α->β)(l:List α)(i:Int):atI (l.map f) i=(atI l i).map f:=by
 unfold atI
 rw[qf]
 cases ixN l.length i with
 | none=>rfl
 | some j=>
   show(l.map f)[j]?=(l[j]?).map f
   rw[Qa]
end M
namespace M
open PySem L2
@[simp] theorem nat_eq_iff(x b:Nat):((x:Int)=(b:Int))↔x=b:=by lia
@[simp] theorem eqM_int(neg:Bool)(i j:Int):eqM neg (.int i) (.int j)=some (if neg then !decide (i=j)else decide (i=j)):=by
 rw[Yuc (by simp) (by simp),y1z];rfl
@[simp] theorem isN_non(neg:Bool):isN neg .non .non=some (if neg then false else true):=by cases neg<;>rfl
@[simp] theorem isN_int(neg:Bool)(i:Int):isN neg (.int i) .non=some (if neg then true else false):=by cases neg<;>rfl
@[simp] theorem Yx0{α:Type}(f:α->Bool):∀l:List α,blsD (l.map fun a=>.bl (f a))=some (l.map f)
 | []=>rfl
 | a::l=>by rw[qz,blsD,Yx0 f l];rfl
@[simp] theorem Ynz{α:Type}(f:α->Int):∀l:List α,Ygm (l.map fun a=>.int (f a))=some (l.map f)
 | []=>rfl
 | a::l=>by rw[qz,Ygm,Ynz f l];rfl
@[simp] theorem Yue(l:List Int):Ygm (l.map D.int)=some l:=by simpa using Ynz id l
@[simp] theorem anyC_lst(l:List D):anyC [.lst l]=(blsD l).map fun bs=>.bl (bs.any id):=nr rfl
@[simp] theorem allC_lst(l:List D):allC [.lst l]=(blsD l).map fun bs=>.bl (bs.all id):=nr rfl
@[simp] theorem cap6_eq:cap6=1000000:=nr rfl
@[simp] theorem gV0(d:D)(r:Ro):getV 0 (some (.sh d)::r)=some d:=nr rfl
@[simp] theorem gC0(d:D)(r:Ro):getC 0 (some (.sh d)::r)=some d:=nr rfl
@[simp] theorem gC0o(l:List D)(r:Ro):getC 0 (some (.ow l)::r)=some (.lst l):=nr rfl
@[simp] theorem gO0(l:List D)(r:Ro):getO 0 (some (.ow l)::r)=some l:=nr rfl
@[simp] theorem gVs(n:Nat)(b:Option B)(r:Ro):getV (n+1) (b::r)=getV n r:=by simp[getV]
@[simp] theorem gCs(n:Nat)(b:Option B)(r:Ro):getC (n+1) (b::r)=getC n r:=by simp[getC]
@[simp] theorem gOs(n:Nat)(b:Option B)(r:Ro):getO (n+1) (b::r)=getO n r:=by simp[getO]
theorem Yx1{fe:Ro->Option D}{r:Ro}{α:Type}{enc:α->D}(f:α->D){l:List α}(h:∀a∈l,fe (some (.sh (enc a))::r)=some (f a)):Yk5 (gSet 0) tY fe (none::r) (l.map enc)=some (l.map f):=by
 have:=Yny (gt:=gSet 0) (fc:=tY) (fe:=fe) (ρ:=none::r) enc (fun _=>true) f l fun a ha=>⟨_,rfl,rfl,fun _=>h a ha⟩
 rw[List.filter_eq_self.mpr (fun _ _=>rfl)]at this
 exact this
end M
namespace Bk
open PySem L2 M
abbrev Say:=Nat × Bool
inductive Kd where
 | e | s | i | n
 deriving DecidableEq
inductive Rl where
 | ei (l:List Say)
 | su (b:List Nat) (o:Bool)
 | im (b:List Nat) (h:Option Nat)
 deriving DecidableEq
abbrev nD(n:Nat):D:=.int n
def sayD(s:Say):D:=.tup [.int s.1,.bl s.2]
def optD:Option Nat->D
 | none=>.non
 | some n=>.int n
@[simp] theorem dep_say(s:Say):dep (sayD s)=1:=by simp[sayD]
@[simp] theorem dep_opt(h:Option Nat):dep (optD h)=0:=by cases h<;>simp[optD]
theorem Yke{n:Nat}:∀{l:List D},(∀d∈l,dep d<=n)->depL l<=n
 | [],_=>by simp
 | d::l,h=>by
   rw[Yub]
   exact Nat.max_le.mpr ⟨h d qh,Yke fun e he=>h e (qg _ he)⟩
theorem Ypi{α:Type}{enc:α->D}{n:Nat}(h:∀a,dep (enc a)<=n)(l:List α):depL (l.map enc)<=n:=Yke fun d hd=>by
 obtain⟨x,_,rfl⟩:=List.mem_map.mp hd
 exact h x
def at'(ev:List Bool)(n:Nat):Bool:=ev.getD n false
def In(k:Kd)(n:Nat):Rl->Prop
 | .ei l=>k=.e/\∀s∈l,s.1 < n
 | .su b _=>k=.s/\∀x∈b,x < n
 | .im b h=>(k=.i\/k=.n)/\(∀x∈b,x < n)/\∀x,h=some x->x < n
def hd(ev:List Bool)(w:Bool):Option Nat->Bool
 | none=>false
 | some x=>at' ev x==w
def nth(R:List Rl)(i:Nat):Rl:=R.getD i (.ei [])
def so(k:Kd)(ev:List Bool):Rl->Bool
 | .ei l=>l.any fun s=>at' ev s.1==s.2
 | .su b o=>decide ((b.filter (at' ev)).length % 2=1)==o
 | .im b h=>(b.any fun x=>at' ev x != decide (k=.i))||hd ev (decide (k=.i)) h
end Bk
namespace Bk
def brk(k:Kd)(ev:List Bool)(R:List Rl):List Nat:=(List.range R.length).filter fun i=>!so k ev (nth R i)
end Bk
namespace Bk
open PySem L2 M
def wo(b:Nat)(l:List Nat):List Nat:=l.filter fun x=>!decide (x=b)
mutual
def Pl:D->Prop
 | .tup l=>l.length<=1000000/\PlL l
 | .lst _=>False
 | .scr _=>False
 | .dct _ _ _=>False
 | .obj _ _ _=>False
 | .adr _=>False
 | _=>True
def PlL:List D->Prop
 | []=>True
 | d::l=>Pl d/\PlL l
end
theorem PlL_iff:∀{l:List D},PlL l↔∀d∈l,Pl d
 | []=>by simp[PlL]
 | d::l=>by simp[PlL,PlL_iff (l:=l)]
def sz:Rl->Nat
 | .ei l=>l.length
 | .su b _=>b.length
 | .im b _=>b.length
end Bk
namespace Bk
end Bk
namespace Bk
open PySem L2 M
mutual
theorem Yqv:∀d:D,Pl d->eqD d d=true
 | .non,_=>by simp[eqD,toPy,PyData.eqv]
 | .bl b,_=>by simp
 | .int i,_=>by simp
 | .str x,_=>by simp
 | .tup l,h=>by
   rw[Pl]at h
   rw[y11]
   exact Yqw l h.2
 | .lst l,h=>by rw[Pl]at h;exact h.elim
 | .scr l,h=>by rw[Pl]at h;exact h.elim
 | .dct _ _ _,h=>by rw[Pl]at h;exact h.elim
 | .obj _ _ _,h=>by rw[Pl]at h;exact h.elim
 | .adr _,h=>by rw[Pl]at h;exact h.elim
theorem Yqw:∀l:List D,PlL l->eqL l l=true
 | [],_=>by simp
 | d::l,h=>by
   rw[PlL]at h
   rw[Yxy,Yqv d h.1,Yqw l h.2]
   rfl
end
theorem Yx2{d:D}(h:Pl d)(hd:dep d<=60)(neg:Bool):eqM neg d d=some (!neg):=by
 rw[Yuc hd hd,Yqv d h]
 cases neg<;>rfl
end Bk
namespace M
open PySem PySem.Spec PyProof.Rows L2
section
variable {K:W.Frag}
def fldD(c f:Str):D->Option D
 | .obj c' ks vs=>if c'=c then (ks.zip vs).lookup f else none
 | _=>none
def CF(K:W.Frag)(c f:Str):Prop:=∀C,W.nsIn K mainGlobals c=some (some (.ref C))->Cls K C/\NoAttr K C f
theorem RpL.look{G:Hp}{f:Str}:∀{ks:List Str} {vs:List D} {xs:List V} {d:D},RpL K G vs xs->(ks.zip vs).lookup f=some d->∃v,(ks.zip xs).lookup f=some v/\Rp K G d v
 | [],_,_,_,_,e=>by simp at e
 | _::_,[],_,_,_,e=>by simp at e
 | k::ks,d'::vs,xs,d,r,e=>by
   rw[RpL]at r
   obtain⟨x,xs',rfl,g,q⟩:=r
   rw[List.zip_cons_cons,Qe]at e ⊢
   cases h:(f==k)with
   | true=>
     rw[h]at e
     cases e
     exact⟨x,rfl,g⟩
   | false=>
     rw[h]at e
     exact RpL.look q e
section
variable {X:Cx} {e o:Expr} {fa fo:Ro->Option D} {pos apos:Pos} {c f:Str}
theorem y5e(k:CF X.K c f)(he:ME X e fa)(hb:attributeBase e f X.env (eval e X.env)=eval e X.env:=by rfl):ME X (.Attribute e f pos) (b1 fa (fldD c f)):=
 PE.imp (y3w he hb) fun σ H Q hx_=>by
  obtain⟨ρ,d,H0,G0,G,e,s,h⟩:=hx_
  obtain⟨x,h1,h2⟩:=Ybn e
  refine tOf.at h1 s fun v H1 G1 g1 r1 s1=>?_
  cases x with
  | obj c' ks vs=>
    change (if c'=c then (ks.zip vs).lookup f else none)=some d at h2
    by_cases hc:c'=c
    ·rw[if_pos hc]at h2
     subst hc
     rw[Rp]at r1
     obtain⟨a,C,dx,xs,rfl,n,g,l,q⟩:=r1
     obtain⟨v,hv,rv⟩:=q.look h2
     exact⟨a,C,dx,_,v,rfl,s1.seen _ _ g,(k C n).1,(k C n).2,hv,h v H1 G1 g1 rv⟩
    ·rw[if_neg hc]at h2
     cases h2
  | _=>cases h2
def Okm(P:Program)(w:World)(K:W.Frag)(mg:Str->Option Value)(base:Heap)(k:Nat)(c m:Str)(ps:List Str)(sp:Sp):Prop:=
 ∃C f fd,FnOk P w K mg base CX0 k f fd ps sp/\Binds K fd ps []/\W.nsIn K mainGlobals c=some (some (.ref C))/\Cls K C/\Meth K C m f
theorem Ypj{f:Str}:∀{ks:List Str} {xs:List V},f∉ks->(ks.zip xs).lookup f=none
 | [],_,_=>by simp
 | _::_,[],_=>by simp
 | k::ks,x::xs,h=>by
   rw[List.zip_cons_cons,Qe]
   have h1:(f==k)=false:=by
    rw[beq_eq_false_iff_ne]
    exact fun z=>h (by rw[z];exact qh)
   rw[h1]
   exact Ypj fun z=>h (qg _ z)
end
end
section
variable {K:W.Frag}
inductive OutW (τ:Type) where
 | nx (ρ:Ro) (t:τ) | rt (d:D) (t:τ) | bk (ρ:Ro) (t:τ) | ct (ρ:Ro) (t:τ)
def Off(l:Addr)(H H':Hp):Prop:=∀a,a≠l->H' a=H a
theorem Off.trans{l:Addr}{H H' H'':Hp}(a:Off l H H')(b:Off l H' H''):Off l H H'':=fun x hx=>(b x hx).trans (a x hx)
structure WR(K:W.Frag)(l:Addr)(o:HO)(H0 G0:Hp)(σ:L2.St)(H G:Hp)(ρ:Ro):Prop where
 sr:SR K H0 G0 σ H G ρ
 g0:G0 l=none
 h0:H0 l=some o
def y7k{τ:Type}(rep:τ->HO)(K:W.Frag)(l:Addr)(H0 G0:Hp)(F:Ends):OutW τ->Prop
 | .nx ρ' t=>∀σ' H' G' H1,Off l H0 H1->WR K l (rep t) H1 G0 σ' H' G' ρ'->F.nx σ' H'
 | .rt d t=>∀v H' G' H1,Off l H0 H1->H1 l=some (rep t)->Gr H1 G0 H' G'->Rp K G' d v->F.rt v H'
 | .bk ρ' t=>∀σ' H' G' H1,Off l H0 H1->WR K l (rep t) H1 G0 σ' H' G' ρ'->F.bk σ' H'
 | .ct ρ' t=>∀σ' H' G' H1,Off l H0 H1->WR K l (rep t) H1 G0 σ' H' G' ρ'->F.ct σ' H'
section
variable {τ:Type} {rep:τ->HO} {l:Addr} {H0 G0 H G H1:Hp} {σ:L2.St} {ρ:Ro} {o:HO} {F:Ends}
theorem WR.no(w:WR K l o H0 G0 σ H G ρ):G l=none:=by
 cases h:G l with
 | none=>rfl
 | some u=>
   have:=w.sr.gr.n l w.g0 (by rw[h];exact fun z=>nomatch z)
   rw[w.h0]at this
   cases this
theorem WR.at(w:WR K l o H0 G0 σ H G ρ):H l=some o:=w.sr.gr.h _ _ w.h0
theorem WR.put(w:WR K l o H0 G0 σ H G ρ)(o':HO):WR K l o' (upd H0 l o') G0 σ (upd H l o') G ρ:=by
 have gl:=w.no
 have ne:∀{a:Addr},H0 a=none->a≠l:=fun h z=>by rw[z,w.h0]at h;cases h
 have s:=w.sr
 refine⟨⟨⟨fun b u e=>?_,s.gr.g,fun b u e=>?_,fun a h h'=>?_⟩,s.len,s.sh,fun i m e=>?_,s.ap,fun i t ks vs e=>?_,s.apd⟩,w.g0,Yq⟩
 ·by_cases z:b=l
  ·subst z;rw[Yq]at e ⊢;exact e
  ·rw[Yn z]at e ⊢;exact s.gr.h b u e
 ·rw[Yn (y7 e gl)];exact s.gr.s b u e
 ·have q:=s.gr.n a h h'
  rw[Yn (ne q)];exact q
 ·obtain⟨a,xs,q1,q2,q3,q4,q5⟩:=s.ow i m e
  exact⟨a,xs,q1,q2,by rw[Yn (ne q3)];exact q3,by rw[Yn (ne q3)];exact q4,q5⟩
 ·obtain⟨a,kxs,vxs,q1,q2,q3,q4,q5⟩:=s.od i t ks vs e
  exact⟨a,kxs,vxs,q1,q2,by rw[Yn (ne q3)];exact q3,q4.mono (Same.refl _) fun o z=>by rw[Yn (ne q3)];exact z,q5⟩
theorem Off.put(l:Addr)(H:Hp)(o:HO):Off l H (upd H l o):=fun _ h=>Yn h
theorem SR.rebaseW(s:SR K H0 G0 σ H G ρ)(hg:G l=none){o:HO}(h0:H0 l=some o):∃H1,SR K H1 G σ H G ρ/\H1 l=some o/\∀H2 σ' H' G' ρ',Off l H1 H2->SR K H2 G σ' H' G' ρ'->SR K (fun a=>if a=l then H2 l else H0 a) G0 σ' H' G' ρ':=by
 classical
 let own:Addr->Prop:=fun a=>∃(i:Nat),((∃l:List D,ρ[i]?=some (some (B.ow l)))\/(∃t ks vs,ρ[i]?=some (some (B.od t ks vs))))/\σ[i]?=some (some (V.ref a))
 have hh:∀a,own a->H0 a=none:=fun a ha=>by
  obtain⟨i,e1,e2⟩:=ha
  rcases e1 with⟨l,e1⟩ | ⟨t,ks,vs,e1⟩
  ·obtain⟨b,xs,q1,_,q3,_⟩:=s.ow i l e1
   rw[e2]at q1;cases q1;exact q3
  ·obtain⟨b,kxs,vxs,q1,_,q3,_⟩:=s.od i t ks vs e1
   rw[e2]at q1;cases q1;exact q3
 have hl:¬own l:=fun z=>by
  have:=hh l z
  rw[h0]at this;cases this
 have back:∀a,(if own a then (none:Option HO)else H a)=none->H0 a=none:=fun a h=>by
  by_cases o:own a
  ·exact hh a o
  ·rw[if_neg o]at h;exact s.gr.h.free h
 refine⟨fun a=>if own a then none else H a,⟨⟨fun b o e=>?_,Same.refl _,s.gr.s,fun _ h h'=>absurd h h'⟩,s.len,s.sh,fun i l e=>?_,s.ap,fun i t ks vs e=>?_,s.apd⟩,?_,fun H2 σ' H' G' ρ' f t=>?_⟩
 ·by_cases z:own b
  ·simp only[if_pos z]at e;cases e
  ·simp only[if_neg z]at e;exact e
 ·obtain⟨a,xs,q1,q2,q3,q4,q5⟩:=s.ow i l e
  exact⟨a,xs,q1,q2,if_pos ⟨i,.inl ⟨l,e⟩,q1⟩,q4,q5⟩
 ·obtain⟨a,kxs,vxs,q1,q2,q3,q4⟩:=s.od i t ks vs e
  exact⟨a,kxs,vxs,q1,q2,if_pos ⟨i,.inr ⟨t,ks,vs,e⟩,q1⟩,q4⟩
 ·show(if own l then none else H l)=some o
  rw[if_neg hl];exact s.gr.h _ _ h0
 ·have bk2:∀a,H2 a=none->(if a=l then H2 l else H0 a)=none:=fun a h=>by
   by_cases z:a=l
   ·rw[if_pos z];rw[z]at h;exact h
   ·rw[if_neg z]
    rw[f a z]at h
    exact back a h
  refine⟨⟨fun b u e=>?_,s.gr.g.trans t.gr.g,t.gr.s,fun b h h'=>?_⟩,t.len,t.sh,fun i l e=>?_,t.ap,fun i t1 ks vs e=>?_,t.apd⟩
  ·refine t.gr.h b u ?_
   by_cases z:b=l
   ·simp only[if_pos z]at e;rw[z];exact e
   ·simp only[if_neg z]at e
    rw[f b z]
    have z2:¬own b:=fun q=>by rw[hh b q]at e;cases e
    show(if own b then none else H b)=some u
    rw[if_neg z2];exact s.gr.h b u e
  ·by_cases z:G b=none
   ·exact bk2 b (t.gr.n b z h')
   ·have q:=s.gr.n b h z
    have nl:b≠l:=fun y=>z (by rw[y];exact hg)
    show(if b=l then H2 l else H0 b)=none
    rw[if_neg nl];exact q
  ·obtain⟨a,xs,q1,q2,q3,q4,q5⟩:=t.ow i l e
   exact⟨a,xs,q1,q2,bk2 a q3,q4,q5⟩
  ·obtain⟨a,kxs,vxs,q1,q2,q3,q4⟩:=t.od i t1 ks vs e
   exact⟨a,kxs,vxs,q1,q2,bk2 a q3,q4⟩
end
def sOfW{τ:Type}(rep:τ->HO)(K:W.Frag)(l:Addr)(f:Ro->τ->Option (OutW τ)):TS:=fun F σ H=>∃ρ t out H0 G0 G,f ρ t=some out/\WR K l (rep t) H0 G0 σ H G ρ/\y7k rep K l H0 G0 F out
abbrev WS{τ:Type}(rep:τ->HO)(X:Cx)(l:Addr)(st:Stmt)(f:Ro->τ->Option (OutW τ)):Prop:=PS X st (sOfW rep X.K l f)
abbrev WB{τ:Type}(rep:τ->HO)(X:Cx)(l:Addr)(sts:List Stmt)(f:Ro->τ->Option (OutW τ)):Prop:=PSs X sts (sOfW rep X.K l f)
def Ydl{τ:Type}(f:Ro->Option Out):Ro->τ->Option (OutW τ):=fun ρ t=>(f ρ).map fun
 | .nx ρ'=>.nx ρ' t
 | .rt d=>.rt d t
 | .bk ρ'=>.bk ρ' t
 | .ct ρ'=>.ct ρ' t
def nilW{τ:Type}:Ro->τ->Option (OutW τ):=fun ρ t=>some (.nx ρ t)
def seqW{τ:Type}(f g:Ro->τ->Option (OutW τ)):Ro->τ->Option (OutW τ):=fun ρ t=>(f ρ t).bind fun
 | .nx ρ' t'=>g ρ' t'
 | o=>some o
def ifW{τ:Type}(c:Ro->τ->Option Bool)(f g:Ro->τ->Option (OutW τ)):Ro->τ->Option (OutW τ):=fun ρ t=>(c ρ t).bind fun k=>if k=true then f ρ t else g ρ t
def forW{τ:Type}(gt:D->Ro->Option Ro)(fb:Ro->τ->Option (OutW τ)):List D->Ro->τ->Option (OutW τ)
 | [],ρ,t=>some (.nx ρ t)
 | d::ds,ρ,t=>(gt d ρ).bind fun ρ1=>(fb ρ1 t).bind fun
   | .nx ρ2 t2=>forW gt fb ds ρ2 t2
   | .ct ρ2 t2=>forW gt fb ds ρ2 t2
   | .bk ρ2 t2=>some (.nx ρ2 t2)
   | .rt d t2=>some (.rt d t2)
section
variable {τ:Type} {rep:τ->HO} {X:Cx} {l:Addr} {st:Stmt} {sts:List Stmt} {fs gs:Ro->τ->Option (OutW τ)} {pos:Pos} {tg:Expr} {gl:Ro->Option (List D)}
def WT(rep:τ->HO)(X:Cx)(l:Addr)(c:Expr)(f:Ro->τ->Option Bool):Prop:=PT X c fun σ H Q=>∃ρ t k H0 G0 G,f ρ t=some k/\WR X.K l (rep t) H0 G0 σ H G ρ/\∀H' G',Gr H G H' G'->Q k H'
theorem Yg7{gt:D->Ro->Option Ro}{fb:Ro->τ->Option (OutW τ)}:∀(ds:List D) (ρ:Ro) (t:τ) (out:OutW τ),forW gt fb ds ρ t=some out->(∃ρ' t',out=.nx ρ' t')\/∃d t',out=.rt d t'
 | [],ρ,t,out,h=>by cases h;exact .inl ⟨_,_,rfl⟩
 | d::ds,ρ,t,out,h=>by
   rw[forW]at h
   obtain⟨ρ1,h1,h⟩:=qa h
   obtain⟨o,h2,h⟩:=qa h
   cases o with
   | nx ρ2 t2=>exact Yg7 ds ρ2 t2 out h
   | ct ρ2 t2=>exact Yg7 ds ρ2 t2 out h
   | bk ρ2 t2=>cases h;exact .inl ⟨_,_,rfl⟩
   | rt d t2=>cases h;exact .inr ⟨_,_,rfl⟩
end
end
section
variable {K:W.Frag}
abbrev wl(t:List Bool):HO:=.lst (t.map V.bl)
end
section
variable {K:W.Frag}
end
section
variable {K:W.Frag}
end
section
abbrev Wm:=Ro->List Bool->Option (OutW (List Bool))
structure ZWS(X:Cx)(l:Addr)(st:Stmt)(f:Wm):Prop where
 un:WS wl X l st f
structure ZWB(X:Cx)(l:Addr)(sts:List Stmt)(f:Wm):Prop where
 un:WB wl X l sts f
structure ZWT(X:Cx)(l:Addr)(c:Expr)(f:Ro->List Bool->Option Bool):Prop where
 un:WT wl X l c f
section
variable {X:Cx} {l:Addr} {st:Stmt} {sts:List Stmt} {fs gs:Wm} {pos apos:Pos} {tg e o:Expr} {gl:Ro->Option (List D)} {f fa fo:Ro->Option D} {c m:Str}
theorem zuE(h:ZE X e f):PE X e (tOf X.K f):=h.un
theorem Ymj{f:Str}(k:CF X.K c f)(he:ZE X e fa)(hb:attributeBase e f X.env (eval e X.env)=eval e X.env:=by rfl):ZE X (.Attribute e f pos) (b1 fa (fldD c f)):=⟨y5e k he.un hb⟩
end
def Mq(K:W.Frag)(c m q:Str)(st:Stmt):Prop:=∃C f fd,W.nsIn K mainGlobals c=some (some (.ref C))/\Cls K C/\Meth K C m f/\Fun K m q st f fd
theorem mq_mk{K:W.Frag}{c m q:Str}{st:Stmt}{C f:Addr}{oc:Value}{od an:Option Addr}{osl:Array (Option Value)}{kV doc pm cdv ct:Value}(a:W.nsIn K mainGlobals c=some (some (.ref C)))(pg:W.plainGet K C Str.empty=true)(hd:W.hasDictIn K C=true)(po:W.plainOver K C=true)(sa:W.findIn K (.ref C) "__setattr__"=some (some (.builtin "object.__setattr__")))
 (i:W.findIn K (.ref C) m=some (some (.ref f))) (n:W.isFn K (.ref f)=true) (l:K.lookup f=some ⟨oc,od,.func (W.fnOf m q (defArgs st) (defBody st) (defScope st) .none kV doc pm an cdv ct),osl⟩) (cd:W.codeIn K cdv q=true) (k:W.keepIn K (.ref f)=true):Mq K c m q st:=
 ⟨C,f,_,a,⟨pg,hd,po,sa⟩,⟨i,n,k⟩,Yql l cd k⟩
def Nq(K:W.Frag)(c f:Str):Prop:=∃C,W.nsIn K mainGlobals c=some (some (.ref C))/\Cls K C/\NoAttr K C f
theorem nq_mk{K:W.Frag}{c f:Str}{C:Addr}(a:W.nsIn K mainGlobals c=some (some (.ref C)))(pg:W.plainGet K C Str.empty=true)(hd:W.hasDictIn K C=true)(po:W.plainOver K C=true)(sa:W.findIn K (.ref C) "__setattr__"=some (some (.builtin "object.__setattr__")))(n:W.findIn K (.ref C) f=some none):Nq K c f:=
 ⟨C,a,⟨pg,hd,po,sa⟩,n⟩
theorem Nq.cf{K:W.Frag}{c f:Str}(h:Nq K c f):CF K c f:=fun C e=>by
 obtain⟨C',a,cl,n⟩:=h
 rw[a]at e
 cases e
 exact⟨cl,n⟩
def Bnm(x q:Str)(st:Stmt)(ps:List Str):Prop:=∀(kV doc pm:Value) (an:Option Addr) (cdv ct:Value) (us:List Value),us.length=ps.length->bindArgs (W.fnOf x q (defArgs st) (defBody st) (defScope st) .none kV doc pm an cdv ct) ⟨us,[]⟩=pure (ps.zip us)
end
section
theorem Ykf(s:String):PyData.strOk (Str.ofString s)=true:=by
 rw[Str.ofString_eq_toList]
 unfold PyData.strOk
 simp only[List.all_toArray,List.all_map,List.all_eq_true,Function.comp_apply,decide_eq_true_eq]
 intro c _
 have h:=c.valid
 have e:c.toNat=c.val.toNat:=rfl
 rcases h with h | h
 ·have h:c.val.toNat < 0xd800:=h
  lia
 ·have h2:c.val.toNat < 0x110000:=h.2
  lia
theorem Yn0(a b:Str):PyData.strOk (a++b)=(PyData.strOk a&&PyData.strOk b):=by
 show(a.cps++b.cps).all _=_
 unfold PyData.strOk
 rw[Array.all_append]
theorem Yuf{sep:Str}(hs:PyData.strOk sep=true):∀(l:List Str) (acc:Array Nat),PyData.strOk ⟨acc⟩=true->(∀x∈l,PyData.strOk x=true)->PyData.strOk ⟨l.foldl (fun acc p=>acc++sep.cps++p.cps) acc⟩=true
 | [],_,h,_=>h
 | x::l,acc,h,hl=>by
   rw[List.foldl_cons]
   refine Yuf hs l _ ?_ fun y hy=>hl y (.tail _ hy)
   have e:PyData.strOk ⟨acc++sep.cps++x.cps⟩=PyData.strOk (((⟨acc⟩:Str)++sep)++x):=rfl
   rw[e,Yn0,Yn0,h,hs,hl x (.head _)]
   rfl
theorem y13{sep:Str}(hs:PyData.strOk sep=true){l:List Str}(hl:∀x∈l,PyData.strOk x=true):PyData.strOk (Txt.join sep l)=true:=by
 cases l with
 | nil=>show PyData.strOk ⟨Str.empty.cps⟩=true;decide +kernel
 | cons x l=>exact Yuf hs l x.cps (hl x (.head _)) fun y hy=>hl y (.tail _ hy)
theorem len_app(a b:Str):(a++b).length=a.length+b.length:=by
 show(a.cps++b.cps).size=_
 rw[Array.size_append]
 rfl
theorem Yqx{sep:Str}:∀(l:List Str) (acc:Array Nat),(l.foldl (fun acc p=>acc++sep.cps++p.cps) acc).size=acc.size+(l.map fun x:Str=>sep.length+x.length).sum
 | [],_=>by simp
 | x::l,acc=>by
   rw[List.foldl_cons,Yqx l]
   simp[Str.length]
   lia
theorem Yqy(sep:Str)(l:List Str):(Txt.join sep l).length<=(l.map fun x:Str=>sep.length+x.length).sum:=by
 cases l with
 | nil=>exact Nat.zero_le _
 | cons x l=>
   show(l.foldl (fun acc p=>acc++sep.cps++p.cps) x.cps).size<=_
   rw[Yqx]
   simp[Str.length]
theorem Yn1(sep:Str):∀(l:List Str) (n:Nat),l.foldl (fun(a:Nat) (s:Str)=>a+s.length+sep.length) n=n+(l.map fun x:Str=>sep.length+x.length).sum
 | [],n=>by simp
 | x::l,n=>by
   rw[List.foldl_cons,Yn1 sep l]
   simp
   lia
theorem Yug{sep:Str}{l:List Str}(h:(l.map fun x:Str=>sep.length+x.length).sum<=16000000):JoinOk sep l=true:=by
 unfold JoinOk
 rw[Bool.not_eq_true']
 unfold Builtin.Str.tooLong
 rw[List.foldl_toArray,Yn1]
 have:=sizeLine_eq
 simp
 lia
def strC:List D->Option D
 | [.int i]=>if i.natAbs < 2 ^ 64 then some (.str (Str.ofString (toString i)))else none
 | _=>none
def Yk6:List D->Option (List Str)
 | []=>some []
 | .str x::l=>(Yk6 l).map (x::·)
 | _=>none
def Yg8(sep:Str):List D->Option D
 | [.lst l]=>(Yk6 l).bind fun xs=>if JoinOk sep xs=true then some (.str (Txt.join sep xs))else none
 | _=>none
def addS:D->D->Option D
 | .str a,.str b=>if a.length+b.length<=1000000 then some (.str (a++b))else none
 | _,_=>none
def ixS:D->D->Option D
 | .str z,.int i=>if z.length<=1000000 then (atI z.cps.toList i).map fun c=>.str ⟨#[c]⟩else none
 | _,_=>none
theorem Yuh{i:Int}(h:i.natAbs < 2 ^ 64):i.natAbs.log2 < 1920:=by
 by_cases h0:i.natAbs=0
 ·rw[h0];decide
 ·exact Nat.lt_trans ((Nat.log2_lt h0).mpr h) (by decide)
section
variable {K:W.Frag} {X:Cx} {e a b:Expr} {fa fb:Ro->Option D} {ga:Ro->Option (List D)} {pos cpos apos p p2:Pos}
theorem Yei:SemC K (fun xs H Q=>∃i,xs=[.int i]/\i.natAbs.log2 < 1920/\Q (.str (Str.ofString (toString i))) H) strC:=by
 intro vs ds d H G Q h s r q
 match ds,h,r with
 | [.int i],h,r=>
   change (if i.natAbs < 2 ^ 64 then some (D.str (Str.ofString (toString i)))else none)=some d at h
   by_cases hi:i.natAbs < 2 ^ 64
   ·rw[if_pos hi]at h
    cases h
    obtain⟨v,rfl,rv⟩:=Yet r
    rw[Ct]at rv
    subst rv
    exact⟨i,rfl,Yuh hi,q _ H G (.refl s) (by rw[Rp];exact⟨rfl,Ykf _⟩)⟩
   ·rw[if_neg hi]at h
    cases h
theorem Yx3:Sem2 K (fun x y H Q=>∃i j,x=.str i/\y=.str j/\i.length+j.length<=sizeLine/\Q (.str (i++j)) H) addS:=by
 intro x y dx dy d H G Q h s rx ry q
 match dx,dy,h,rx,ry with
 | .str a,.str b,h,rx,ry=>
   change (if a.length+b.length<=1000000 then some (D.str (a++b))else none)=some d at h
   by_cases hi:a.length+b.length<=1000000
   ·rw[if_pos hi]at h
    cases h
    rw[Ct]at rx ry
    have:=sizeLine_eq
    exact⟨a,b,rx.1,ry.1,by lia,q _ H G (.refl s) (by rw[Rp];exact⟨rfl,by rw[Yn0,rx.2,ry.2];rfl⟩)⟩
   ·rw[if_neg hi]at h
    cases h
theorem y14:Sem2 K rIxS ixS:=by
 intro x y dx dy d H G Q h s rx ry q
 match dx,dy,h,rx,ry with
 | .str z,.int i,h,rx,ry=>
   change (if z.length<=1000000 then (atI z.cps.toList i).map fun c=>D.str ⟨#[c]⟩else none)=some d at h
   by_cases hi:z.length<=1000000
   ·rw[if_pos hi]at h
    obtain⟨c,hc,rfl⟩:=qc h
    rw[Ct]at rx
    rw[Ct]at ry
    have:=sizeLine_eq
    have hok:PyData.strOk ⟨#[c]⟩=true:=by
     have hm:c∈z.cps.toList:=by
      unfold atI at hc
      obtain⟨j,_,hj⟩:=qa hc
      exact List.mem_of_getElem? hj
     have h2:=rx.2
     unfold PyData.strOk at h2 ⊢
     rw[Array.all_eq_true']at h2
     have:=h2 c (Array.mem_toList_iff.mp hm)
     simpa using this
    exact⟨z,i,c,rx.1,ry,by lia,hc,q _ H G (.refl s) (by rw[Rp];exact⟨rfl,hok⟩)⟩
   ·rw[if_neg hi]at h
    cases h
theorem Ygg:∀{l:List D} {ts:List Str},Yk6 l=some ts->l=ts.map D.str
 | [],ts,h=>by cases h;rfl
 | d::l,ts,h=>by
   cases d with
   | str x=>
     obtain⟨ts',h1,rfl⟩:=qc h
     rw[qz,<-Ygg h1]
   | _=>cases h
@[simp] theorem Yhz:∀ts:List Str,Yk6 (ts.map D.str)=some ts
 | []=>rfl
 | x::ts=>by
   rw[qz,Yk6,Yhz ts]
   rfl
theorem Yqz{G:Hp}:∀{ts:List Str} {xs:List V},RpL K G (ts.map D.str) xs->xs=ts.map V.str/\∀x∈ts,PyData.strOk x=true
 | [],xs,r=>by
   rw[List.map_nil,RpL]at r
   exact⟨r,fun _ h=>nomatch h⟩
 | t::ts,xs,r=>by
   rw[qz,RpL]at r
   obtain⟨x,xr,rfl,rx,rr⟩:=r
   rw[Rp]at rx
   obtain⟨h1,h2⟩:=Yqz rr
   exact⟨by rw[rx.1,h1];rfl,fun y hy=>by
    rcases qt hy with rfl | hy
    ·exact rx.2
    ·exact h2 y hy⟩
def y7l(K:W.Frag):V->List V->Hp->VK->Prop:=fun x xs H Q=>∃sep a ts,x=.str sep/\xs=[.ref a]/\SqL K H a (ts.map V.str)/\JoinOk sep ts=true/\Q (.str (Txt.join sep ts)) H
theorem Yn2:∀{ts:List Str} {its:List Value},Vals (ts.map V.str) its->∃l:List (Str × Tok),its=strValues l/\l.map (·.1)=ts
 | [],its,r=>by cases r;exact⟨[],rfl,rfl⟩
 | t::ts,its,r=>by
   cases r with
   | cons r1 r2=>
     obtain⟨tk,rfl⟩:=r1
     obtain⟨l,h1,h2⟩:=Yn2 r2
     exact⟨(t,tk)::l,by rw[h1];rfl,by rw[qz,h2]⟩
theorem y15:MtR X "str.join" (y7l X.K):=by
 intro pins s σ H x xs v us Q I rx r h
 obtain⟨sep,a,ts,rfl,rfl,hq,hok,q⟩:=h
 obtain⟨tk,rfl⟩:=rx
 obtain⟨u,rfl,ru⟩:=Yjk r
 cases ru
 obtain⟨its,rv,pl,hz⟩:=I.list hq
 obtain⟨l,rfl,hl⟩:=Yn2 rv
 exact SC.join pl.isList hl hok fun t' k=>⟨.str _,H,I.tok k,⟨_,rfl⟩,q⟩
theorem y16{sep:Str}{j}(ha:MCA X [e] ga)(hx:PyData.strOk sep=true:=by decide +kernel)
 (hbase:attributeBase (.Constant (.str sep) j p) "join" X.env (eval (.Constant (.str sep) j p) X.env)=eval (.Constant (.str sep) j p) X.env:=by rfl)
 (hfew:((backTo cpos (starEach [e] X.env)).all (fun x=>!x.1)&&(backToKw cpos (keywordEach [] X.env)).all (fun x=>x.1.isSome)
  &&decide ([e].length+([]:List Keyword).length+(if ([]:List Keyword).isEmpty then 0 else 1) < 30))=true:=by rfl)
 (hline:(apos.endLine==cpos.line)=true:=by rfl) (hs:starEach [e] X.env=(false,eval e X.env)::starEach [] X.env:=by rfl) (hplain:(backTo cpos (starEach [] X.env)).any (·.1)=false:=by rfl) :
 ME X (.Call (.Attribute (.Constant (.str sep) j p) "join" apos) [e] [] cpos) (cC ga (Yg8 sep)):=
 PE.imp (Ytj F.plainAttrs_str F.slot_str_join F.type_str_join y15 Ys3 ha hbase hfew hline hs hplain) fun σ H Q ⟨ρ,d,H0,G0,G,e,s,h⟩=>by
  unfold cC at e
  obtain⟨ds,h1,e⟩:=qa e
  refine⟨rfl,tCAof.at h1 s fun vs H1 G1 g1 r1 s1=>?_⟩
  unfold Yg8 at e
  split at e
  case h_2=>cases e
  rename_i l
  obtain⟨ts,h2,e⟩:=qa e
  by_cases hok:JoinOk sep ts=true
  ·rw[if_pos hok]at e
   cases e
   obtain⟨v,rfl,rv⟩:=Yet r1
   rw[Ct]at rv
   obtain⟨a,xs,rfl,hq,rl⟩:=rv
   rw[Ygg h2]at rl
   obtain⟨rfl,hoks⟩:=Yqz rl
   exact⟨sep,a,ts,rfl,rfl,.inl hq,hok,h _ H1 G1 g1 (by rw[Rp];exact⟨rfl,y13 hx hoks⟩)⟩
  ·rw[if_neg hok]at e
   cases e
theorem y17(ha:MC X a fa)(hb:MC X b fb):ME X (.BinOp a .Add b pos) (b2 fa fb addS):=Yj7 Ysb Yx3 ha hb
theorem y5f(ha:MC X a fa)(hb:MC X b fb)(hs:Yis b):ME X (.Subscript a b pos) (b2 fa fb ixS):=y4a Yzs y14 ha hb hs
theorem Ygh{sep:Str}{j}(ha:ZCA X [e] ga)(hx:PyData.strOk sep=true:=by decide +kernel)
 (hbase:attributeBase (.Constant (.str sep) j p) "join" X.env (eval (.Constant (.str sep) j p) X.env)=eval (.Constant (.str sep) j p) X.env:=by rfl)
 (hfew:((backTo cpos (starEach [e] X.env)).all (fun x=>!x.1)&&(backToKw cpos (keywordEach [] X.env)).all (fun x=>x.1.isSome)
  &&decide ([e].length+([]:List Keyword).length+(if ([]:List Keyword).isEmpty then 0 else 1) < 30))=true:=by rfl)
 (hline:(apos.endLine==cpos.line)=true:=by rfl) (hs:starEach [e] X.env=(false,eval e X.env)::starEach [] X.env:=by rfl) (hplain:(backTo cpos (starEach [] X.env)).any (·.1)=false:=by rfl) :
 ZE X (.Call (.Attribute (.Constant (.str sep) j p) "join" apos) [e] [] cpos) (cC ga (Yg8 sep)):=⟨y16 ha.un hx hbase hfew hline hs hplain⟩
theorem Yaa(ha:ZC X a fa)(hb:ZC X b fb):ZE X (.BinOp a .Add b pos) (b2 fa fb addS):=⟨y17 ha.un hb.un⟩
theorem Ypk(ha:ZC X a fa)(hb:ZC X b fb)(hs:Yis b):ZE X (.Subscript a b pos) (b2 fa fb ixS):=⟨y5f ha.un hb.un hs⟩
end
theorem nrT{α:Sort _}{a b:α}(h:a=b):a=b:=h
theorem Yx4(i:Int):strC [.int i]=if i.natAbs < 2 ^ 64 then some (.str (Str.ofString (toString i)))else none:=nrT rfl
theorem Yui(sep:Str)(l:List D):Yg8 sep [.lst l]=(Yk6 l).bind fun xs=>if JoinOk sep xs=true then some (.str (Txt.join sep xs))else none:=nrT rfl
theorem Yx5(a b:Str):addS (.str a) (.str b)=if a.length+b.length<=1000000 then some (.str (a++b))else none:=nrT rfl
end
section
structure Hid(τ:Type) where
 rep:τ->HO
 side:Hp->Prop
 mono:∀{G G':Hp},Same G G'->side G->side G'
structure WZ{τ:Type}(Z:Hid τ)(K:W.Frag)(l:Addr)(t:τ)(H0 G0:Hp)(σ:L2.St)(H G:Hp)(ρ:Ro):Prop where
 sr:SR K H0 G0 σ H G ρ
 g0:G0 l=none
 h0:H0 l=some (Z.rep t)
 sd:Z.side G0
section
variable {τ:Type} {Z:Hid τ} {K:W.Frag} {l:Addr} {t:τ} {H0 G0 H G H' G':Hp} {σ:L2.St} {ρ:Ro}
theorem WZ.wr(w:WZ Z K l t H0 G0 σ H G ρ):WR K l (Z.rep t) H0 G0 σ H G ρ:=⟨w.sr,w.g0,w.h0⟩
theorem WZ.no(w:WZ Z K l t H0 G0 σ H G ρ):G l=none:=w.wr.no
theorem WZ.at(w:WZ Z K l t H0 G0 σ H G ρ):H l=some (Z.rep t):=w.wr.at
theorem WZ.put(w:WZ Z K l t H0 G0 σ H G ρ)(t':τ):WZ Z K l t' (upd H0 l (Z.rep t')) G0 σ (upd H l (Z.rep t')) G ρ:=⟨(w.wr.put _).sr,w.g0,Yq,w.sd⟩
theorem WZ.grow(w:WZ Z K l t H0 G0 σ H G ρ)(g:Gr H G H' G'):WZ Z K l t H0 G0 σ H' G' ρ:=⟨w.sr.grow g,w.g0,w.h0,w.sd⟩
theorem WZ.seen(w:WZ Z K l t H0 G0 σ H G ρ):Z.side G:=Z.mono w.sr.gr.g w.sd
theorem Off.rfl'{l:Addr}{H:Hp}:Off l H H:=fun _ _=>rfl
end
def ContZ{τ:Type}(Z:Hid τ)(K:W.Frag)(l:Addr)(H0 G0:Hp)(F:Ends):OutW τ->Prop
 | .nx ρ' t=>∀σ' H' G' H1,Off l H0 H1->WZ Z K l t H1 G0 σ' H' G' ρ'->F.nx σ' H'
 | .rt d t=>∀v H' G' H1,Off l H0 H1->H1 l=some (Z.rep t)->Gr H1 G0 H' G'->Rp K G' d v->F.rt v H'
 | .bk ρ' t=>∀σ' H' G' H1,Off l H0 H1->WZ Z K l t H1 G0 σ' H' G' ρ'->F.bk σ' H'
 | .ct ρ' t=>∀σ' H' G' H1,Off l H0 H1->WZ Z K l t H1 G0 σ' H' G' ρ'->F.ct σ' H'
section
variable {τ:Type} {Z:Hid τ} {K:W.Frag} {l:Addr} {H0 G0 H G H1:Hp} {F:Ends}
theorem ContZ.off{out:OutW τ}(f:Off l H0 H1)(c:ContZ Z K l H0 G0 F out):ContZ Z K l H1 G0 F out:=by
 cases out with
 | nx ρ t=>exact fun σ' H' G' H2 g w=>c σ' H' G' H2 (f.trans g) w
 | rt d t=>exact fun v H' G' H2 g w=>c v H' G' H2 (f.trans g) w
 | bk ρ t=>exact fun σ' H' G' H2 g w=>c σ' H' G' H2 (f.trans g) w
 | ct ρ t=>exact fun σ' H' G' H2 g w=>c σ' H' G' H2 (f.trans g) w
end
def sOfZ{τ:Type}(Z:Hid τ)(K:W.Frag)(l:Addr)(f:Ro->τ->Option (OutW τ)):TS:=fun F σ H=>∃ρ t out H0 G0 G,f ρ t=some out/\WZ Z K l t H0 G0 σ H G ρ/\ContZ Z K l H0 G0 F out
abbrev TmV(τ:Type):=Ro->τ->Option (OutW τ)
abbrev TeV(τ:Type):=Ro->τ->Option (D × τ)
abbrev TaV(τ:Type):=Ro->τ->Option (List D × τ)
structure ZTS(X:Cx){τ:Type}(Z:Hid τ)(l:Addr)(st:Stmt)(f:TmV τ):Prop where
 un:PS X st (sOfZ Z X.K l f)
structure ZTB(X:Cx){τ:Type}(Z:Hid τ)(l:Addr)(sts:List Stmt)(f:TmV τ):Prop where
 un:PSs X sts (sOfZ Z X.K l f)
abbrev WSz{τ:Type}(Z:Hid τ)(X:Cx)(l:Addr)(st:Stmt)(f:TmV τ):Prop:=PS X st (sOfZ Z X.K l f)
abbrev WBz{τ:Type}(Z:Hid τ)(X:Cx)(l:Addr)(sts:List Stmt)(f:TmV τ):Prop:=PSs X sts (sOfZ Z X.K l f)
section
variable {τ:Type} {Z:Hid τ} {X:Cx} {l:Addr} {st:Stmt} {sts:List Stmt} {fs gs:TmV τ} {pos:Pos} {tg:Expr} {gl:Ro->Option (List D)}
theorem y18{f:Ro->Option Out}(h:MS X st f):WSz Z X l st (Ydl f):=PS.imp h fun F σ H hx_=>by
 obtain⟨ρ,t,out,H0,G0,G,e,w,c⟩:=hx_
 obtain⟨o,h1,rfl⟩:=qc e
 refine⟨ρ,o,H0,G0,G,h1,w.sr,?_⟩
 cases o with
 | nx ρ'=>exact fun σ' H' G' s'=>c σ' H' G' H0 (fun _ _=>rfl) ⟨s',w.g0,w.h0,w.sd⟩
 | rt d=>exact fun v H' G' g r=>c v H' G' H0 (fun _ _=>rfl) w.h0 g r
 | bk ρ'=>exact fun σ' H' G' s'=>c σ' H' G' H0 (fun _ _=>rfl) ⟨s',w.g0,w.h0,w.sd⟩
 | ct ρ'=>exact fun σ' H' G' s'=>c σ' H' G' H0 (fun _ _=>rfl) ⟨s',w.g0,w.h0,w.sd⟩
theorem y19:WBz Z X l [] (nilW (τ:=τ)):=PSs.imp Yox fun F σ H hx_=>by
 obtain⟨ρ,t,out,H0,G0,G,e,w,c⟩:=hx_
 cases e
 exact c σ H G H0 (fun _ _=>rfl) w
theorem y2a(h:WSz Z X l st fs):WBz Z X l [st] fs:=Yl3 h
theorem Yx6(h1:WSz Z X l st fs)(h2:WBz Z X l sts gs):WBz Z X l (st::sts) (seqW fs gs):=PSs.imp (Ydg h1 h2) fun F σ H hx_=>by
 obtain⟨ρ,t,out,H0,G0,G,e,w,c⟩:=hx_
 unfold seqW at e
 obtain⟨o,h3,e⟩:=qa e
 cases o with
 | nx ρ' t'=>exact⟨ρ,t,.nx ρ' t',H0,G0,G,h3,w,fun σ' H' G' H1 f w'=>⟨ρ',t',out,H1,G0,G',e,w',c.off f⟩⟩
 | rt d t'=>cases e;exact⟨ρ,t,.rt d t',H0,G0,G,h3,w,c⟩
 | bk ρ' t'=>cases e;exact⟨ρ,t,.bk ρ' t',H0,G0,G,h3,w,c⟩
 | ct ρ' t'=>cases e;exact⟨ρ,t,.ct ρ' t',H0,G0,G,h3,w,c⟩
def WTz(Z:Hid τ)(X:Cx)(l:Addr)(c:Expr)(f:Ro->τ->Option Bool):Prop:=PT X c fun σ H Q=>∃ρ t k H0 G0 G,f ρ t=some k/\WZ Z X.K l t H0 G0 σ H G ρ/\∀H' G',Gr H G H' G'->Q k H'
theorem Yx7{c:Expr}{f:Ro->Option Bool}(h:MT X c f):WTz Z X l c fun ρ _=>f ρ:=PT.imp h fun σ H Q hx_=>by
 obtain⟨ρ,t,k,H0,G0,G,e,w,c⟩:=hx_
 exact⟨ρ,k,H0,G0,G,e,w.sr,c⟩
theorem y5g{c:Expr}{a b:List Stmt}{fc:Ro->τ->Option Bool}(hc:WTz Z X l c fc)(ha:WBz Z X l a fs)(hb:WBz Z X l b gs):WSz Z X l (.If c a b pos) (ifW fc fs gs):=PS.imp (Ys5 hc ha hb) fun F σ H hx_=>by
 obtain⟨ρ,t,out,H0,G0,G,e,w,c⟩:=hx_
 unfold ifW at e
 obtain⟨k,h1,e⟩:=qa e
 refine⟨ρ,t,k,H0,G0,G,h1,w,fun H1 G1 g1=>?_⟩
 have w1:WZ Z X.K l t H0 G0 σ H1 G1 ρ:=w.grow g1
 cases k with
 | true=>
   rw[if_pos rfl]at e
   exact iteT ⟨ρ,t,out,H0,G0,G1,e,w1,c⟩
 | false=>
   rw[if_neg qi]at e
   exact iteF ⟨ρ,t,out,H0,G0,G1,e,w1,c⟩
end
end
section
def tWE{τ:Type}(Z:Hid τ)(K:W.Frag)(l:Addr)(f:TeV τ):TE:=fun σ H Q=>∃ρ t d t' H0 G0 G,f ρ t=some (d,t')/\WZ Z K l t H0 G0 σ H G ρ/\∀v H' G' H1,Off l H0 H1->WZ Z K l t' H1 G0 σ H' G' ρ->Same G G'->Rp K G' d v->Q v H'
def tWA{τ:Type}(Z:Hid τ)(K:W.Frag)(l:Addr)(f:TaV τ):TA:=fun σ H Q=>∃ρ t ds t' H0 G0 G,f ρ t=some (ds,t')/\WZ Z K l t H0 G0 σ H G ρ/\∀vs H' G' H1,Off l H0 H1->WZ Z K l t' H1 G0 σ H' G' ρ->Same G G'->RpL K G' ds vs->Q vs H'
def tWF{τ:Type}(Z:Hid τ)(K:W.Frag)(l:Addr)(f:TaV τ):TE:=fun σ H Q=>∃ρ t ds t' H0 G0 G,f ρ t=some (ds,t')/\WZ Z K l t H0 G0 σ H G ρ/\∀p xs H' G' H1,Off l H0 H1->WZ Z K l t' H1 G0 σ H' G' ρ->Same G G'->H' p=some (.lst xs)->G' p=none->RpL K G' ds xs->Q (.ref p) H'
structure ZWE(X:Cx){τ:Type}(Z:Hid τ)(l:Addr)(e:Expr)(f:TeV τ):Prop where
 un:PE X e (tWE Z X.K l f)
structure ZWA(X:Cx){τ:Type}(Z:Hid τ)(l:Addr)(es:List Expr)(f:TaV τ):Prop where
 un:PA X es (tWA Z X.K l f)
structure ZWF(X:Cx){τ:Type}(Z:Hid τ)(l:Addr)(e:Expr)(f:TaV τ):Prop where
 un:PE X e (tWF Z X.K l f)
def Ycp{τ:Type}(f:Ro->Option D):TeV τ:=fun ρ t=>(f ρ).map fun d=>(d,t)
def binE{τ:Type}(fa fb:TeV τ)(g:D->D->Option D):TeV τ:=fun ρ t=>(fa ρ t).bind fun p=>(fb ρ p.2).bind fun q=>(g p.1 q.1).map fun d=>(d,q.2)
def nilE{τ:Type}:TaV τ:=fun _ t=>some ([],t)
def Yax{τ:Type}(fa:TeV τ)(fb:TaV τ):TaV τ:=fun ρ t=>(fa ρ t).bind fun p=>(fb ρ p.2).map fun q=>(p.1::q.1,q.2)
def tupE{τ:Type}(f:TaV τ):TeV τ:=fun ρ t=>(f ρ t).bind fun p=>if p.1.length<=cap6 then some (.tup p.1,p.2)else none
section
variable {τ:Type} {Z:Hid τ} {X:Cx} {l:Addr} {e a b:Expr} {es:List Expr} {f:Ro->Option D} {fa fb fe:TeV τ} {ga:TaV τ} {pos:Pos}
theorem Yal(h:ZE X e f):ZWE X Z l e (Ycp f):=⟨PE.imp h.un fun σ H Q ⟨ρ,t,d,t',H0,G0,G,er,w,k⟩=>by
 obtain⟨d',h1,h2⟩:=qc er
 cases h2
 exact⟨ρ,d,H0,G0,G,h1,w.sr,fun v H' G' g r=>k v H' G' H0 Off.rfl' (w.grow g) g.g r⟩⟩
theorem Yuj{op:Operator}{r:R2}{g:D->D->Option D}(ho:OpR X (binaryOp op) r)(hr:Sem2 X.K r g)(ha:ZWE X Z l a fa)(hb:ZWE X Z l b fb):ZWE X Z l (.BinOp a op b pos) (binE fa fb g):=⟨PE.imp (Yw9 ho ha.un hb.un) fun σ H Q ⟨ρ,t,d,t',H0,G0,G,er,w,k⟩=>by
 obtain⟨⟨d1,t1⟩,h1,er⟩:=qa er
 obtain⟨⟨d2,t2⟩,h2,er⟩:=qa er
 obtain⟨d3,h3,h4⟩:=qc er
 cases h4
 exact⟨ρ,t,d1,t1,H0,G0,G,h1,w,fun v1 H1 G1 Ha f1 w1 s1 r1=>⟨ρ,t1,d2,t2,Ha,G0,G1,h2,w1,fun v2 H2 G2 Hb f2 w2 s2 r2=>hr v1 v2 d1 d2 d H2 G2 Q h3 w2.sr.seen (.of w2.sr.seen (r1.mono s2)) (.of w2.sr.seen r2) fun v H' G' g' rd=>k v H' G' Hb (f1.trans f2) (w2.grow g') (s1.trans (s2.trans g'.g)) rd⟩⟩⟩
theorem Ypl(ha:ZWE X Z l a fa)(hb:ZWE X Z l b fb):ZWE X Z l (.BinOp a .Add b pos) (binE fa fb addI):=Yuj Yzk Yo5 ha hb
theorem y2b(ha:ZWE X Z l a fa)(hb:ZWE X Z l b fb):ZWE X Z l (.BinOp a .Mod b pos) (binE fa fb modI):=Yuj Yzl (Yqm fun i j h=>by simpa using h) ha hb
theorem Ya6:ZWA X Z l [] nilE:=⟨PA.imp Yd5 fun σ H Q ⟨ρ,t,ds,t',H0,G0,G,er,w,k⟩=>by
 cases er
 exact k [] H G H0 Off.rfl' w (Same.refl _) .nil⟩
theorem Ys(ha:ZWE X Z l e fa)(hb:ZWA X Z l es ga)(hs:starEach (e::es) X.env=(false,eval e X.env)::starEach es X.env:=by rfl):ZWA X Z l (e::es) (Yax fa ga):=⟨PA.imp (Ybb ha.un hb.un hs) fun σ H Q ⟨ρ,t,ds,t',H0,G0,G,er,w,k⟩=>by
 obtain⟨⟨d1,t1⟩,h1,er⟩:=qa er
 obtain⟨⟨d2,t2⟩,h2,h3⟩:=qc er
 cases h3
 exact⟨ρ,t,d1,t1,H0,G0,G,h1,w,fun v1 H1 G1 Ha f1 w1 s1 r1=>⟨ρ,t1,d2,t2,Ha,G0,G1,h2,w1,fun vs H2 G2 Hb f2 w2 s2 r2=>k (v1::vs) H2 G2 Hb (f1.trans f2) w2 (s1.trans s2) (.cons (r1.mono s2) r2)⟩⟩⟩
theorem Yfz{x1}(h:ZWA X Z l es ga):ZWE X Z l (.Tuple es x1 pos) (tupE ga):=⟨PE.imp (Yzp h.un) fun σ H Q ⟨ρ,t,d,t',H0,G0,G,er,w,k⟩=>by
 obtain⟨⟨ds,t1⟩,h1,er⟩:=qa er
 split at er
 ·rename_i hc
  cases er
  refine⟨ρ,t,ds,t1,H0,G0,G,h1,w,fun vs H1 G1 Ha f1 w1 s1 r1=>⟨by rw[r1.length];exact Yes hc,fun p hp=>?_⟩⟩
  have gn:=Gr.new w1.sr.seen hp (.tup vs)
  refine k _ _ _ Ha f1 (w1.grow gn) (s1.trans gn.g) ?_
  rw[Rp]
  exact⟨p,vs,rfl,Yq,r1.mono gn.g⟩
 ·cases er⟩
end
def retE{τ:Type}(f:TeV τ):TmV τ:=fun ρ t=>(f ρ t).map fun p=>.rt p.1 p.2
def setE{τ:Type}(i:Nat)(f:TeV τ):TmV τ:=fun ρ t=>(f ρ t).map fun p=>.nx (ρ.set i (some (.sh p.1))) p.2
def appE{τ:Type}(i:Nat)(f:TeV τ):TmV τ:=fun ρ t=>(getO i ρ).bind fun xs=>if xs.length < 1000000 then (f ρ t).map fun p=>.nx (ρ.set i (some (.ow (xs++[p.1])))) p.2 else none
def Yfr{τ:Type}(ga:TaV τ)(m:List D->Option D):TeV τ:=fun ρ t=>(ga ρ t).bind fun p=>(m p.1).map fun d=>(d,p.2)
def forE{τ:Type}(f:TeV τ)(gt:D->Ro->Option Ro)(fb:TmV τ):TmV τ:=fun ρ t=>(f ρ t).bind fun p=>(rng1 [p.1]).bind fun ds=>forW gt fb ds ρ p.2
section
variable {τ:Type} {Z:Hid τ} {X:Cx} {l:Addr} {e c:Expr} {es:List Expr} {f:Ro->Option D} {fe:TeV τ} {ga:TaV τ} {pos p:Pos} {st:Stmt} {sts:List Stmt} {fs gs:TmV τ}
theorem Ya7{f:Ro->Option Out}(h:ZS X st f):ZTS X Z l st (Ydl f):=⟨y18 h.un⟩
theorem Yd6:ZTB X Z l [] nilW:=⟨y19⟩
theorem Yaj(h:ZTS X Z l st fs):ZTB X Z l [st] fs:=⟨y2a h.un⟩
theorem Yad(h1:ZTS X Z l st fs)(h2:ZTB X Z l sts gs):ZTB X Z l (st::sts) (seqW fs gs):=⟨Yx6 h1.un h2.un⟩
theorem Yff{a b:List Stmt}{fc:Ro->Option Bool}(hc:ZT X c fc)(ha:ZTB X Z l a fs)(hb:ZTB X Z l b gs):ZTS X Z l (.If c a b pos) (ifW (fun ρ _=>fc ρ) fs gs):=⟨y5g (Yx7 hc.un) ha.un hb.un⟩
theorem Yd7(h:ZWE X Z l e fe):ZTS X Z l (.Return (some e) pos) (retE fe):=⟨PS.imp (Yni h.un) fun F σ H hx_=>by
 obtain⟨ρ,t,out,H0,G0,G,er,w,q⟩:=hx_
 obtain⟨⟨d,t'⟩,h1,rfl⟩:=qc er
 exact⟨ρ,t,d,t',H0,G0,G,h1,w,fun v H' G' H1 f1 w1 s1 r1=>q v H' G' H1 f1 w1.h0 w1.sr.gr r1⟩⟩
theorem Yd8(i:Nat){x:Str}{pos':Pos}(hN:X.N.Nodup)(h:ZWE X Z l e fe)(hi:X.N[i]?=some x:=by rfl)(hx:Loc X.env.scope x:=by first | exact Or.inl rfl | exact Or.inr rfl)(hs:swapsWith e (some (.Name x pos')) pos.line X.env=pure false:=by rfl)
 (hf:X.fn x=true\/X.env.scope.names.lookup x=some .local:=by first | exact .inl rfl | exact .inr rfl):ZTS X Z l (.Assign [.Name x pos'] e pos) (setE i fe):=⟨PS.imp (Ylk hN hi hx h.un hs hf) fun F σ H hx_=>by
 obtain⟨ρ,t,out,H0,G0,G,er,w,q⟩:=hx_
 obtain⟨⟨d,t'⟩,h1,rfl⟩:=qc er
 exact⟨ρ,t,d,t',H0,G0,G,h1,w,fun v H' G' H1 f1 w1 s1 r1=>q _ H' G' H1 f1 ⟨w1.sr.set_sh i r1,w1.g0,w1.h0,w1.sd⟩⟩⟩
theorem Yiy(i:Nat){x:Str}{p2 apos cpos:Pos}(he:ZWE X Z l e fe)(hN:X.N[i]?=some x:=by rfl)(hv:Vis X.env.scope x:=by first | exact Or.inl rfl | exact Or.inr (Or.inl rfl) | exact Or.inr (Or.inr rfl))
 (hd:(x==("__debug__":Str))=false:=by decide) (hcd:(x==("__classdict__":Str))=false:=by decide) (hse:swapsWith (.Call (.Attribute (.Name x p2) "append" apos) [e] [] cpos) none pos.line X.env=pure false:=by rfl)
 (hs:starEach [e] X.env=[(false,eval e X.env)]:=by rfl)
 (hfew:((backTo cpos (starEach [e] X.env)).all (fun x=>!x.1)&&(backToKw cpos (keywordEach [] X.env)).all (fun x=>x.1.isSome)&&decide ([e].length+([]:List Keyword).length+(if ([]:List Keyword).isEmpty then 0 else 1) < 30))=true:=by rfl)
 (hline:(apos.endLine==cpos.line)=true:=by rfl) (hbase:attributeBase (.Name x p2) "append" X.env (eval (.Name x p2) X.env)=eval (.Name x p2) X.env:=by rfl) :
 ZTS X Z l (.Expr (.Call (.Attribute (.Name x p2) "append" apos) [e] [] cpos) pos) (appE i fe):=
 ⟨PS.imp (Yoy (Ytj PySem.F.plainAttrs_list PySem.F.slot_list_append PySem.F.type_list_append Yft (Yd3 hN hv hd hcd) (Ybb he.un Yd5 hs) hbase hfew hline hs rfl) hse) fun F σ H hx_=>by
  obtain⟨ρ,t,out,H0,G0,G,er,w,q⟩:=hx_
  obtain⟨xs,h1,er⟩:=qa er
  split at er
  ·rename_i hl
   obtain⟨⟨d,t'⟩,h2,rfl⟩:=qc er
   obtain⟨a,ys,ha,hH,hr,hG⟩:=Yqo w.sr h1
   refine⟨_,ha,.inl ⟨rfl,ys,SqL.of hH⟩,ρ,t,d,t',H0,G0,G,h2,w,fun v H' G' H1 f1 w1 s1 r1=>?_⟩
   obtain⟨a2,ys2,ha2,hH2,hr2,hG2⟩:=Yqo w1.sr h1
   rw[ha]at ha2
   cases ha2
   refine⟨a,ys2,v,rfl,rfl,hH2,?_,q σ _ G' H1 f1 ⟨w1.sr.mut (Yj6 h1) ha (hr2.append (.one r1)),w1.g0,w1.h0,w1.sd⟩⟩
   rw[hr2.length]
   exact Qd hl (Yes (qu _))
  ·cases er⟩
theorem Yci{j k n:Nat}{x:Str}{ps:List Str}{m:List D->Option D}{cpos:Pos}(c:Okf X.prog X.w X.K X.mg X.base j n x ps m)(hr:Room k X.A)(hg:Gl X x)(ha:ZWA X Z l (e::es) ga)(hl:∀ρ t ds t',ga ρ t=some (ds,t')->ds.length=n)(hj:j<=k:=by first | exact qu _ | lia)(hdb:(x==("__debug__":Str))=false:=by decide)
 (he:starEach (e::es) X.env=(false,eval e X.env)::starEach es X.env:=by rfl) (hpl:(backTo cpos (starEach es X.env)).any (·.1)=false:=by rfl):ZWE X Z l (.Call (.Name x p) (e::es) [] cpos) (Yfr ga m):=by
 obtain⟨a,fd,F,hb,hk,hm⟩:=c
 refine⟨PE.imp (Ye7 (E:=E0) (F.mono hj) hr hg hm hk hb .nil Yl7 ha.un hdb he hpl) fun σ H Q ⟨ρ,t,d,t',H0,G0,G,er,w,q⟩=>?_⟩
 obtain⟨⟨ds,t1⟩,h1,er⟩:=qa er
 obtain⟨d',h2,h3⟩:=qc er
 cases h3
 refine⟨ρ,t,ds,t1,H0,G0,G,h1,w,fun vs H1 G1 Ha f1 w1 s1 r1=>?_⟩
 show spOf X.K n m (vs++[]) H1 Q E0
 rw[Qf]
 exact⟨by rw[r1.length];exact hl ρ t ds t1 h1,ds,d,G1,w1.sr.seen,r1,h2,fun v H' G' g' rd=>q v H' G' Ha f1 (w1.grow g') (s1.trans g'.g) rd⟩
theorem Ypm{tg:Expr}{body:List Stmt}{gt:D->Ro->Option Ro}{a:Expr}{pr ip:Pos}(hp:PassesOwn (model X.prog X.w) X.A X.env X.xe)(hc:X.calm=true)(hgr:Gl X "range")(hm:X.mg "range"=none)(ha:ZWE X Z l a fe)(hg:ZG X tg gt)(hb:ZTB X Z l body fs)
 (hsa:starEach [a] X.env=[(false,eval a X.env)]:=by rfl) (hs:∀x,foldedSetIterable (.Call (.Name "range" pr) [a] [] ip) X.env x=pure x:=by intro _;rfl):ZTS X Z l (.For tg (.Call (.Name "range" pr) [a] [] ip) body [] pos) (forE fe gt fs):=
 ⟨PS.imp (Ys8 hp hc (Yju hgr hm (Ys ha Ya6 hsa).un hsa) hg.un hb.un hs) fun F σ H hx_=>by
  obtain⟨ρ,t0,out,H0,G0,G,er,w,h⟩:=hx_
  obtain⟨⟨d,t⟩,h0,er⟩:=qa er
  obtain⟨ds,h1,h2⟩:=qa er
  refine⟨ρ,t0,[d],t,H0,G0,G,by unfold Yax nilE;rw[h0];rfl,w,fun vs H1 G1 Ha fa w1 sm1 r1=>?_⟩
  obtain⟨n,he,c1,c2,rfl⟩:=Yka h1
  cases he
  obtain⟨v,rfl,rv⟩:=Yo7 r1
  rw[Rp]at rv
  subst rv
  refine⟨n,rfl,by lia,by lia,?_⟩
  have wk:Wk X.K (Itr 0 (n - 0).toNat) G1 (rngD 0 n):=Ytr (Yes (by unfold cap6;lia))
  have h:=h.off fa
  generalize rngD 0 n=ds at *
  rw[Int.sub_zero]at wk
  generalize Itr 0 n.toNat=J at *
  have hg1:=w1.no
  obtain⟨Hb,sb,hbl,back⟩:=w1.sr.rebaseW hg1 w1.h0
  have hout:=Yg7 ds ρ t out h2
  have bk:∀{Hc:Hp} {σ':L2.St} {H' G':Hp} {ρ':Ro} {t':τ},Off l Hb Hc->WZ Z X.K l t' Hc G1 σ' H' G' ρ'->∃Hd,Off l Ha Hd/\WZ Z X.K l t' Hd G0 σ' H' G' ρ':=fun {Hc σ' H' G' ρ' t'} f w'=>
   ⟨_,fun a ha=>if_neg ha,back Hc σ' H' G' ρ' f w'.sr,w1.g0,by show(if l=l then Hc l else Ha l)=_;rw[if_pos rfl];exact w'.h0,w1.sd⟩
  refine⟨fun i m σ' H'=>m=ds.length - i/\i<=ds.length/\∃ρ' t' G' Hc,Off l Hb Hc/\WZ Z X.K l t' Hc G1 σ' H' G' ρ'/\forW gt fs (ds.drop i) ρ' t'=some out,⟨_,rfl,Nat.zero_le _,ρ,t,G1,Hb,fun _ _=>rfl,⟨sb,hg1,hbl,w1.seen⟩,h2⟩,?_⟩
  rintro i m σ' H' ⟨rfl,hi,ρ',t',G',Hc,fc,w',e'⟩
  have W:=wk.2 i H' G' w'.sr.gr.g w'.sr.seen
  by_cases hlt:i < ds.length
  ·have hd:ds[i]?=some ds[i]:=qr hlt
   obtain⟨go,yl⟩:=W.1 _ hd
   rw[Ql hlt,forW]at e'
   obtain⟨ρ1,e1,e'⟩:=qa e'
   obtain⟨o,e2,e'⟩:=qa e'
   refine .inr ⟨go,fun σ' H'=>i+1<=ds.length/\∃ρ' t' G' Hc,Off l Hb Hc/\WZ Z X.K l t' Hc G1 σ' H' G' ρ'/\forW gt fs (ds.drop (i+1)) ρ' t'=some out,fun σ2 H2 q=>⟨ds.length - (i+1),by lia,rfl,q.1,q.2⟩,fun x H2 y=>?_⟩
   obtain⟨G2,g2,r2⟩:=yl x H2 y
   refine⟨_,ρ',ρ1,Hc,G1,G2,e1,w'.sr.grow g2,r2,fun σ3 s3=>?_⟩
   refine⟨ρ1,t',o,Hc,G1,G2,e2,⟨s3,hg1,w'.h0,w'.sd⟩,?_⟩
   cases o with
   | nx ρ2 t2=>exact fun σ4 H4 G4 Hd f4 w4=>⟨hlt,ρ2,t2,G4,Hd,fc.trans f4,w4,e'⟩
   | ct ρ2 t2=>exact fun σ4 H4 G4 Hd f4 w4=>⟨hlt,ρ2,t2,G4,Hd,fc.trans f4,w4,e'⟩
   | bk ρ2 t2=>
     cases e'
     exact fun σ4 H4 G4 Hd f4 w4=>by
      obtain⟨He,f5,w5⟩:=bk (fc.trans f4) w4
      exact h σ4 H4 G4 He f5 w5
   | rt d t2=>
     cases e'
     refine fun v H4 G4 Hd f4 h4 g4 r4=>?_
     obtain⟨He,f5,w5⟩:=bk (fc.trans f4) (σ':=[]) (ρ':=[]) (t':=t2) ⟨SR.mkSh g4 rfl (fun i d e=>(by simp at e)) (fun i l e=>(by simp at e)) (fun i t ks vs e=>(by simp at e)),hg1,h4,w1.seen⟩
     exact h v H4 G4 He f5 w5.h0 w5.sr.gr r4
  ·have ei:i=ds.length:=by lia
   subst ei
   rw[List.drop_length,forW]at e'
   cases e'
   obtain⟨He,f5,w5⟩:=bk fc w'
   exact .inl ⟨W.2 (qu _),h σ' H' G' He f5 w5⟩⟩
end
def Yg9{τ:Type}(gt:D->Ro->Option Ro)(fe:TeV τ)(ρ:Ro):List D->τ->Option (List D × τ)
 | [],t=>some ([],t)
 | d::ds,t=>(gt d ρ).bind fun ρ1=>(fe ρ1 t).bind fun p=>(Yg9 gt fe ρ ds p.2).map fun q=>(p.1::q.1,q.2)
def Yn3{τ:Type}(f:TeV τ)(src:List (Option Nat))(gt:D->Ro->Option Ro)(fe:TeV τ):TaV τ:=fun ρ t=>(f ρ t).bind fun p=>(rng1 [p.1]).bind fun ds=>Yg9 gt fe (capR src ρ) ds p.2
section
variable {τ:Type} {Z:Hid τ} {X:Cx} {l:Addr} {e a elt tg:Expr} {scope:Scope} {N:List Str} {src:List (Option Nat)} {gt:D->Ro->Option Ro} {fa fe:TeV τ} {ga:TaV τ} {pos p pr ip:Pos}
theorem Yx8{K:W.Frag}(hle:∀ρ d ρ1,gt d (capR src ρ)=some ρ1->Le (capR src ρ) ρ1){σ:L2.St}{H:Hp}{Q:VK}
 (h:tWF Z K l (Yn3 fa src gt fe) σ H Q):tLC (y3q (tWA Z K l (Yax fa nilE))) src (gOf K gt) (tTof K tY) (tWE Z K l fe) σ H Q:=by
 obtain⟨ρ,t0,dsR,t',H0,G0,G,er,w,k⟩:=h
 obtain⟨⟨d,t⟩,h0,er⟩:=qa er
 obtain⟨ds,h1,h2⟩:=qa er
 refine⟨ρ,t0,[d],t,H0,G0,G,by unfold Yax nilE;rw[h0];rfl,w,fun vs H1 G1 Ha fa1 w1 sm1 r1=>?_⟩
 obtain⟨n,he,c1,c2,rfl⟩:=Yka h1
 cases he
 obtain⟨v,rfl,rv⟩:=Yo7 r1
 rw[Rp]at rv
 subst rv
 refine⟨n,rfl,by lia,by lia,?_⟩
 have wk:Wk K (Itr 0 (n - 0).toNat) G1 (rngD 0 n):=Ytr (Yes (by unfold cap6;lia))
 generalize rngD 0 n=ds at *
 rw[Int.sub_zero]at wk
 generalize Itr 0 n.toNat=J at *
 intro p hp
 have hpl:p≠l:=fun z=>by rw[z,w1.at]at hp;cases hp
 have gp:G1 p=none:=w1.sr.seen.free hp
 have noow:∀(i:Nat) l,(capR src ρ)[i]?≠some (some (B.ow l)):=fun i l h=>by
  unfold capR at h
  rw[Qa]at h
  obtain⟨o,h1,h2⟩:=qc h
  obtain⟨j,rfl,h3⟩:=qa h2
  split at h3<;>cases h3
 have nood:∀(i:Nat) t ks vs,(capR src ρ)[i]?≠some (some (B.od t ks vs)):=fun i t ks vs h=>by
  unfold capR at h
  rw[Qa]at h
  obtain⟨o,h1,h2⟩:=qc h
  obtain⟨j,rfl,h3⟩:=qa h2
  split at h3<;>cases h3
 have sc:=w1.sr.cap src
 refine⟨fun i m σ' H'=>m=ds.length - i/\i<=ds.length/\∃G' done xs rest tt Hc,Off l H1 Hc/\WZ Z K l tt Hc G1 σ' H' G' (capR src ρ)/\H' p=some (.lst xs)/\G' p=none/\RpL K G' done xs/\xs.length<=i/\Yg9 gt fe (capR src ρ) (ds.drop i) tt=some (rest,t')/\done++rest=dsR,
  ⟨_,rfl,Nat.zero_le _,G1,[],[],dsR,t,H1,Off.rfl',⟨sc.grow (Gr.hid w1.sr.seen hp _),w1.no,w1.at,w1.seen⟩,Yq,gp,.nil,Nat.zero_le _,h2,rfl⟩,?_⟩
 rintro i m σ' H' ⟨rfl,hi,G',done,xs,rest,tt,Hc,fc,w',hx,gx,rx,hl,e',hd⟩
 have W:=wk.2 i H' G' w'.sr.gr.g w'.sr.seen
 have hcp:Hc p=none:=by rw[fc p hpl];exact hp
 by_cases hlt:i < ds.length
 ·have hdi:ds[i]?=some ds[i]:=qr hlt
  obtain⟨go,yl⟩:=W.1 _ hdi
  rw[Ql hlt,Yg9]at e'
  obtain⟨ρ1,e1,e'⟩:=qa e'
  obtain⟨⟨v,t2⟩,e2,e'⟩:=qa e'
  obtain⟨⟨rest',t3⟩,e3,e4⟩:=qc e'
  cases e4
  refine .inr ⟨go,fun x H2 y=>?_⟩
  obtain⟨G2,g2,r2⟩:=yl x H2 y
  have w2:=w'.grow g2
  have hx2:H2 p=some (.lst xs):=g2.h _ _ hx
  have gx2:G2 p=none:=Ycv g2 hx gx
  have s2b:SR K H2 G2 σ' H2 G2 (capR src ρ):=SR.mkSh (Gr.refl w2.sr.seen) w2.sr.len w2.sr.sh noow nood
  refine⟨_,capR src ρ,ρ1,H2,G2,G2,e1,s2b,r2,fun σ3 s3=>?_⟩
  refine tTof.at (b:=true) rfl s3 fun H4 G4 g4 s4=>?_
  have le:=hle ρ _ ρ1 e1
  rw[if_pos rfl]
  refine⟨ρ1,tt,v,t2,H2,G2,G4,e2,⟨s4,w2.no,w2.at,w2.seen⟩,fun vv H5 G5 Hd fd w5 sm5 r5=>?_⟩
  have hdp:Hd p=some (.lst xs):=by rw[fd p hpl];exact hx2
  have hx5:H5 p=some (.lst xs):=w5.sr.gr.h _ _ hdp
  have gx5:G5 p=none:=Ycv w5.sr.gr hdp gx2
  have hz:=wk.1
  have smg:Same G' G5:=g2.g.trans w5.sr.gr.g
  have s6:=w5.sr.le le
  refine⟨xs,hx5,by lia,ds.length - (i+1),by lia,rfl,hlt,G5,done++[v],xs++[vv],rest',t2,fun x=>if x=l then Hd l else Hc x,fun x hx=>?_,⟨SR.mkSh ⟨fun b o q=>?_,w'.sr.gr.g.trans smg,fun b o q=>?_,fun b q q'=>?_⟩ s6.len s6.sh noow nood,w1.no,?_,w1.seen⟩,Yq,gx5,(rx.mono smg).append (.one r5),by simp;lia,e3,by simpa using hd⟩
  ·show(if x=l then Hd l else Hc x)=_
   rw[if_neg hx];exact fc x hx
  ·change (if b=l then Hd l else Hc b)=some o at q
   by_cases z:b=l
   ·rw[if_pos z]at q
    have z2:b≠p:=fun y=>hpl (by rw[<-y,z])
    rw[Yn z2,z];exact w5.sr.gr.h _ _ q
   ·rw[if_neg z]at q
    have z2:b≠p:=fun y=>by rw[y,hcp]at q;cases q
    rw[Yn z2]
    exact w5.sr.gr.h _ _ (by rw[fd b z];exact g2.h _ _ (w'.sr.gr.h _ _ q))
  ·rw[Yn (y7 q gx5)];exact w5.sr.seen b o q
  ·show(if b=l then Hd l else Hc b)=none
   by_cases z3:G' b=none
   ·by_cases z4:G2 b=none
    ·have h6:=w5.sr.gr.n b z4 q'
     have z:b≠l:=fun z=>by rw[z,w5.h0]at h6;cases h6
     rw[if_neg z]
     rw[fd b z]at h6
     exact w'.sr.gr.h.free (g2.h.free h6)
    ·have h6:=g2.n b z3 z4
     have z:b≠l:=fun z=>by rw[z,w'.at]at h6;cases h6
     rw[if_neg z]
     exact w'.sr.gr.h.free h6
   ·have h6:=w'.sr.gr.n b q z3
    have z:b≠l:=fun z=>by rw[z,w'.h0]at h6;cases h6
    rw[if_neg z];exact h6
  ·show(if l=l then Hd l else Hc l)=_
   rw[if_pos rfl];exact w5.h0
 ·have ei:i=ds.length:=by lia
  subst ei
  rw[List.drop_length,Yg9]at e'
  cases e'
  rw[Qf]at hd
  subst hd
  have g9:Gr (upd H1 l (Z.rep t')) G1 H' G':=⟨fun x o ho=>by
   by_cases z:x=l
   ·subst z;rw[Yq]at ho;rw[<-ho];exact w'.at
   ·rw[Yn z]at ho;exact w'.sr.gr.h x o (by rw[fc x z];exact ho),w'.sr.gr.g,w'.sr.seen,fun x h h'=>by
   have h6:=w'.sr.gr.n x h h'
   have z:x≠l:=fun z=>by rw[z,w'.h0]at h6;cases h6
   rw[Yn z,<-fc x z];exact h6⟩
  exact .inl ⟨W.2 (qu _),k p xs H' G' _ (fa1.trans (Off.put l Ha _)) ((w1.put t').grow g9) (sm1.trans w'.sr.gr.g) hx gx rx⟩
theorem Yx9(S:CompSc X.N X.env.scope N src scope)(hc:X.calm=true)(hgr:Gl X "range")(hm:X.mg "range"=none)(ha:ZWE X Z l a fa)(hg:∀cl C fp s H,ZG (Yak X scope N cl C fp s H) tg gt)(he:∀cl C fp s H,ZWE (Yak X scope N cl C fp s H) Z l elt fe)
 (hle:∀ρ d ρ1,gt d (capR src ρ)=some ρ1->Le (capR src ρ) ρ1) (hsa:starEach [a] X.env=[(false,eval a X.env)]:=by rfl) (hs:∀x,foldedSetIterable (.Call (.Name "range" pr) [a] [] ip) X.env x=pure x:=by intro _;rfl) :
 ZWF X Z l (.ListComp elt [⟨tg,.Call (.Name "range" pr) [a] [] ip,[],0⟩] scope pos) (Yn3 fa src gt fe):=
 ⟨PE.imp (Yo3 S hc (Yju hgr hm (Ys ha Ya6 hsa).un hsa) (fun cl C fp s H=>(hg cl C fp s H).un) (fun _ _ _ _ _=>Yqp) (fun cl C fp s H=>(he cl C fp s H).un) hs) fun _ _ _ h=>Yx8 hle h⟩
theorem Yq0(h:ZWF X Z l e ga)(hg:Gl X "tuple")(hm:X.mg "tuple"=none)(he:starEach [e] X.env=(false,eval e X.env)::starEach [] X.env:=by rfl)(hpl:(backTo pos (starEach [] X.env)).any (·.1)=false:=by rfl):ZWE X Z l (.Call (.Name "tuple" p) [e] [] pos) (tupE ga):=
 ⟨PE.imp (Yj0 Yct hg hm boot_tuple (Ybb h.un Yd5 he) (by decide) (by decide) he hpl) fun σ H Q ⟨ρ,t,d,t',H0,G0,G,er,w,k⟩=>by
  obtain⟨⟨ds,t1⟩,h1,er⟩:=qa er
  split at er
  ·cases er
   refine⟨ρ,t,ds,t1,H0,G0,G,h1,w,fun q xs H1 G1 Ha f1 w1 s1 hq gq r1=>⟨q,xs,rfl,.inl ⟨SqL.of hq,fun z hz=>?_⟩⟩⟩
   have gn:=Gr.new w1.sr.seen hz (.tup xs)
   refine k _ _ _ Ha f1 (w1.grow gn) (s1.trans gn.g) ?_
   rw[Rp]
   exact⟨z,xs,rfl,Yq,r1.mono gn.g⟩
  ·cases er⟩
end
theorem aL0:∀ρ l,aNil ρ=some l->l.length=0:=fun _ _ h=>by cases h;rfl
theorem wL0{τ:Type}:∀ρ t ds t',nilE ρ (t:τ)=some (ds,t')->ds.length=0:=fun _ _ _ _ h=>by cases h;rfl
theorem wLc{τ:Type}{f:TeV τ}{g:TaV τ}{n:Nat}(hg:∀ρ t ds t',g ρ t=some (ds,t')->ds.length=n):∀ρ t ds t',Yax f g ρ t=some (ds,t')->ds.length=n+1:=fun ρ t ds t' h=>by
 obtain⟨p,h1,h⟩:=qa h
 obtain⟨q,h2,h3⟩:=qc h
 cases h3
 rw[qs,hg ρ p.2 q.1 q.2 h2]
end
section
def runG{τ:Type}(h:Addr->τ->Option (OutW τ))(t:τ):Option (D × τ):=@dite _ (∃p:D × τ,∀l:Addr,h l t=some (.rt p.1 p.2)) (Classical.propDecidable _) (fun h=>some h.choose) fun _=>none
theorem Yn4{τ:Type}{h:Addr->τ->Option (OutW τ)}{t t':τ}{d:D}(e:runG h t=some (d,t'))(l:Addr):h l t=some (.rt d t'):=by
 unfold runG at e
 by_cases hp:∃p:D × τ,∀l:Addr,h l t=some (.rt p.1 p.2)
 ·rw[@dif_pos _ (Classical.propDecidable _) hp]at e
  have h1:=hp.choose_spec l
  rw[Option.some.inj e]at h1
  exact h1
 ·rw[@dif_neg _ (Classical.propDecidable _) hp]at e
  cases e
theorem Ypn{τ:Type}{h:Addr->τ->Option (OutW τ)}{t t':τ}{d:D}(e:∀l:Addr,h l t=some (.rt d t')):runG h t=some (d,t'):=by
 have hp:∃p:D × τ,∀l:Addr,h l t=some (.rt p.1 p.2):=⟨(d,t'),e⟩
 unfold runG
 rw[@dif_pos _ (Classical.propDecidable _) hp]
 have h1:=hp.choose_spec 0
 rw[e 0]at h1
 injection h1 with h1
 injection h1 with h2 h3
 rw[h2,h3]
def argV{α:Type}(b:Bool)(x:α)(ds:List α):List α:=match b with
 | true=>x::ds
 | false=>ds++[x]
def runV{τ:Type}(b:Bool)(n:Nat)(g:Addr->TmV τ)(ds:List D)(t:τ):Option (D × τ):=runG (fun l=>g l (Yl n (argV b (.adr l) ds))) t
abbrev runT{τ:Type}(n:Nat)(g:Addr->TmV τ)(ds:List D)(t:τ):Option (D × τ):=runV true n g ds t
theorem Ye9{τ:Type}{n:Nat}{g:Addr->TmV τ}{ds:List D}{t t':τ}{d:D}(h:∀l:Addr,g l (Yl n (.adr l::ds)) t=some (.rt d t')):runT n g ds t=some (d,t'):=Ypn h
theorem Yuk{τ:Type}{n:Nat}{g:Addr->TmV τ}{ds:List D}{t t':τ}{d:D}(h:∀l:Addr,g l (Yl n (ds++[.adr l])) t=some (.rt d t')):runV false n g ds t=some (d,t'):=Ypn h
def spV{τ ι:Type}(Zf:ι->Hid τ)(K:W.Frag)(n:Nat)(b:Bool)(g:ι->List D->τ->Option (D × τ)):Sp:=fun vs H Q _=>vs.length=n/\∃i l vs' ds t d t' G,vs=argV b (.ref l) vs'/\Same G H/\G l=none/\H l=some ((Zf i).rep t)/\(Zf i).side G/\RpL K G ds vs'/\g i ds t=some (d,t')/\
 ∀v H' G',(∀x o,x≠l->H x=some o->H' x=some o)->H' l=some ((Zf i).rep t')->Same G G'->Same G' H'->(∀a,G a=none->G' a≠none->H a=none)->Rp K G' d v->Q v H'
def OkV{τ ι:Type}(Zf:ι->Hid τ)(P:Program)(w:World)(K:W.Frag)(mg:Str->Option Value)(base:Heap)(k n:Nat)(b:Bool)(x:Str)(ps:List Str)(g:ι->List D->τ->Option (D × τ)):Prop:=
 ∃a fd,FnOk P w K mg base CX0 k a fd ps (spV Zf K n b g)/\Binds K fd ps []/\W.keepIn K (.ref a)=true/\mg x=some (.ref a)
def Yau{τ:Type}(ga:Ro->Option (List D))(g:List D->τ->Option (D × τ)):TeV τ:=fun ρ t=>(ga ρ).bind fun ds=>g ds t
def y3{τ:Type}(l i:Nat)(f:TeV τ):TeV τ:=fun ρ t=>match ρ[i]? with
 | some (some (.sh (.adr l')))=>if l'=l then f ρ t else none
 | _=>none
theorem Yha{τ:Type}{l i:Nat}{f:TeV τ}{ρ:Ro}{t:τ}{p:D × τ}(h:y3 l i f ρ t=some p):ρ[i]?=some (some (.sh (.adr l)))/\f ρ t=some p:=by
 unfold y3 at h
 split at h
 ·rename_i l' hi
  split at h
  ·rename_i hll
   subst hll
   exact⟨hi,h⟩
  ·cases h
 ·cases h
section
variable {τ ι:Type} {Zf:ι->Hid τ} {z:ι} {X:Cx} {l:Addr} {e:Expr} {es:List Expr} {ga:Ro->Option (List D)} {g:ι->List D->τ->Option (D × τ)} {p q cpos:Pos} {P:Program} {w:World} {K:W.Frag} {mg:Str->Option Value} {base:Heap}
theorem WZ.after{K:W.Frag}{Z:Hid τ}{t t':τ}{H0 G0 H1 G1 H' G':Hp}{σ:L2.St}{ρ:Ro}(w1:WZ Z K l t H0 G0 σ H1 G1 ρ)(keep:∀x o,x≠l->H1 x=some o->H' x=some o)(hl':H' l=some (Z.rep t'))(sm:Same G1 G')(sm':Same G' H')(nn:∀a,G1 a=none->G' a≠none->H1 a=none):WZ Z K l t' (upd H0 l (Z.rep t')) G0 σ H' G' ρ:=by
 have w2:=w1.put t'
 have gl':G' l=none:=by
  cases z:G' l with
  | none=>rfl
  | some o=>
    have:=nn l w1.no (by rw[z];exact fun y=>nomatch y)
    rw[w1.at]at this
    cases this
 have g3:Gr (upd H1 l (Z.rep t')) G1 H' G':=⟨fun x o ho=>by
  by_cases z:x=l
  ·subst z;rw[Yq]at ho;rw[<-ho];exact hl'
  ·rw[Yn z]at ho;exact keep x o z ho,sm,sm',fun x h h'=>by
  have z:x≠l:=fun z=>h' (by rw[z];exact gl')
  rw[Yn z];exact nn x h h'⟩
 exact w2.grow g3
theorem Yya(i:Nat){j k n:Nat}{x y:Str}{ps:List Str}(c:OkV Zf X.prog X.w X.K X.mg X.base j (n+1) true x ps g)(hr:Room k X.A)(hg:Gl X x)(ha:ZA X es ga)(hl:∀ρ ds,ga ρ=some ds->ds.length=n)(hj:j<=k:=by first | exact qu _ | lia)
 (hi:X.N[i]?=some y:=by rfl) (hv:Vis X.env.scope y:=by first | exact Or.inl rfl | exact Or.inr (Or.inl rfl) | exact Or.inr (Or.inr rfl)) (hd:(y==("__debug__":Str))=false:=by decide) (hcd:(y==("__classdict__":Str))=false:=by decide)
 (hdb:(x==("__debug__":Str))=false:=by decide) (he:starEach (.Name y q::es) X.env=(false,eval (.Name y q) X.env)::starEach es X.env:=by rfl) (hpl:(backTo cpos (starEach es X.env)).any (·.1)=false:=by rfl) :
 ZWE X (Zf z) l (.Call (.Name x p) (.Name y q::es) [] cpos) (y3 l i (Yau ga (g z))):=by
 obtain⟨a,fd,F,hb,hk,hm⟩:=c
 refine⟨PE.imp (Ye7 (E:=E0) (F.mono hj) hr hg hm hk hb .nil Yl7 (Ybb (Yd3 hi hv hd hcd) ha.un he) hdb he hpl) fun σ H Q ⟨ρ,t,d,t',H0,G0,G,er,w,kk⟩=>?_⟩
 obtain⟨hi',er⟩:=Yha er
 obtain⟨ds,h1,h2⟩:=qa er
 obtain⟨v,q1,q2⟩:=w.sr.sh i _ hi'
 rw[Rp]at q2
 subst q2
 refine⟨_,q1,tAof.at h1 w.sr fun vs H1 G1 g1 r1 s1=>?_⟩
 have w1:WZ (Zf z) X.K l t H0 G0 σ H1 G1 ρ:=⟨s1,w.g0,w.h0,w.sd⟩
 show spV Zf X.K (n+1) true g ((.ref l::vs)++[]) H1 Q E0
 rw[Qf]
 exact⟨by rw[qs,r1.length,hl ρ ds h1],z,l,vs,ds,t,d,t',G1,rfl,s1.seen,w1.no,w1.at,w1.seen,r1,h2,fun v H' G' keep hl' sm sm' nn rd=>kk v H' G' _ (Off.put l H0 _) (w1.after keep hl' sm sm' nn) (g1.g.trans sm) rd⟩
theorem Yul(i:Nat){j k:Nat}{x y:Str}{ps:List Str}{fa:Ro->Option D}(c:OkV Zf X.prog X.w X.K X.mg X.base j 2 false x ps g)(hr:Room k X.A)(hg:Gl X x)(ha:ZE X e fa)(hj:j<=k:=by first | exact qu _ | lia)
 (hi:X.N[i]?=some y:=by rfl) (hv:Vis X.env.scope y:=by first | exact Or.inl rfl | exact Or.inr (Or.inl rfl) | exact Or.inr (Or.inr rfl)) (hd:(y==("__debug__":Str))=false:=by decide) (hcd:(y==("__classdict__":Str))=false:=by decide)
 (hdb:(x==("__debug__":Str))=false:=by decide) (he:starEach [e,.Name y q] X.env=(false,eval e X.env)::starEach [.Name y q] X.env:=by rfl) (he2:starEach [.Name y q] X.env=(false,eval (.Name y q) X.env)::starEach [] X.env:=by rfl) (hpl:(backTo cpos (starEach [.Name y q] X.env)).any (·.1)=false:=by rfl) :
 ZWE X (Zf z) l (.Call (.Name x p) [e,.Name y q] [] cpos) (y3 l i (Yau (Yg fa aNil) (g z))):=by
 obtain⟨a,fd,F,hb,hk,hm⟩:=c
 refine⟨PE.imp (Ye7 (E:=E0) (F.mono hj) hr hg hm hk hb .nil Yl7 (Ybb ha.un (Ybb (Yd3 hi hv hd hcd) Yd5 he2) he) hdb he hpl) fun σ H Q ⟨ρ,t,d,t',H0,G0,G,er,w,kk⟩=>?_⟩
 obtain⟨hi',er⟩:=Yha er
 obtain⟨ds,h1,h2⟩:=qa er
 obtain⟨da,h3,h4⟩:=qa (show(fa ρ).bind (fun x=>(aNil ρ).map (x::·))=some ds from h1)
 cases h4
 refine tOf.at h3 w.sr fun v H1 G1 g1 r1 s1=>?_
 obtain⟨v2,q1,q2⟩:=s1.sh i _ hi'
 rw[Rp]at q2
 subst q2
 refine⟨_,q1,?_⟩
 have w1:WZ (Zf z) X.K l t H0 G0 σ H1 G1 ρ:=⟨s1,w.g0,w.h0,w.sd⟩
 exact⟨rfl,z,l,[v],[da],t,d,t',G1,rfl,s1.seen,w1.no,w1.at,w1.seen,.one r1,h2,fun v H' G' keep hl' sm sm' nn rd=>kk v H' G' _ (Off.put l H0 _) (w1.after keep hl' sm sm' nn) (g1.g.trans sm) rd⟩
theorem Yum{G:Hp}{b:Bool}{l:Addr}{ds:List D}{vs:List V}(r:RpL K G ds vs):RpL K G (argV b (.adr l) ds) (argV b (.ref l) vs):=by
 cases b with
 | true=>exact .cons (by rw[Rp]) r
 | false=>exact r.append (.one (by rw[Rp]))
theorem Yun{b:Bool}{x:Str}{st:Stmt}{f:Addr}{fd:FuncData}{qual:Str}{N ps:List Str}{k n m:Nat}{g:ι->Addr->TmV τ}(F:Fun K x qual st f fd)(S:FnScope N ps (defScope st))(hn:N.length=n)(hm:ps.length=m)
 (hb:∀(z:ι) (l:Addr) (cdv:Value) (A:Around) (outer:List Env) (s:Shared) (H:Hp) (E:XK),Room k (A.deeper (envOfC qual (defScope st) s.heap.objs.size f cdv))->ZTB (cxOf CX0 P w K mg base N qual (defScope st) f cdv A outer s H E).nox (Zf z) l (defBody st) (g z l)) :
 FnOk P w K mg base CX0 (k+1) f fd ps (spV Zf K m b fun z=>runV b n (g z)):=by
 refine F.ok S (fun vs H Q E h=>by rw[h.1,hm]) fun cdv A outer s H vs Q E hr h=>?_
 obtain⟨hl,z,l,vs',ds,t,d,t',G,rfl,sm,gl,hll,sd,rr,e,q⟩:=h
 refine⟨_,(hb z l cdv A outer s H E hr).un,?_⟩
 have s0:SR K H G (start N (argV b (V.ref l) vs')) H G (Yl n (argV b (.adr l) ds)):=by
  rw[<-hn]
  exact SR.start (N:=N) sm (Yum rr)
 refine⟨_,t,.rt d t',H,G,G,Yn4 e l,⟨s0,gl,hll,sd⟩,fun v H' G' H1 f1 h1 g1 r1=>q v H' G' (fun x o hx ho=>g1.h _ _ (by rw[f1 x hx];exact ho)) (g1.h _ _ h1) g1.g g1.s (fun a h h'=>?_) r1⟩
 have:=g1.n a h h'
 have z:a≠l:=fun z=>by rw[z,h1]at this;cases this
 rw[f1 a z]at this
 exact this
end
end
section
variable {K:W.Frag}
def thZ{τ:Type}(dz:τ->D)(l i:Nat)(ρ:Ro)(t:τ):Option Ro:=match ρ[i]? with
 | some (some (.sh (.adr l')))=>if l'=l then some (ρ.set i (some (.sh (dz t))))else none
 | _=>none
section
variable {l:Addr} {H0 G0 H G:Hp} {σ:L2.St} {ρ ρ1:Ro} {τ:Type} {Z:Hid τ} {t:τ} {dz:τ->D} {X:Cx} {e c a:Expr} {f:Ro->Option D} {fe:TeV τ} {pos p:Pos} {fs gs:TmV τ}
theorem WZ.thaw{i:Nat}(hz:∀{G:Hp},G l=none->Z.side G->Rp K (upd G l (Z.rep t)) (dz t) (.ref l))(w:WZ Z K l t H0 G0 σ H G ρ)(e:thZ dz l i ρ t=some ρ1):∃H2 G1,SR K H2 G0 σ H G1 ρ1/\∀H' G',Gr H G1 H' G'->Gr H G H' G:=by
 unfold thZ at e
 split at e
 ·rename_i l' hi
  by_cases hl:l'=l
  ·rw[if_pos hl]at e
   cases e
   subst hl
   have s:=w.sr
   have gl:=w.no
   have ne:∀{a:Addr},H0 a=none->a≠l':=fun h z=>by rw[z,w.h0]at h;cases h
   have sm:Same G (upd G l' (Z.rep t)):=fun b o e=>by rw[Yn (y7 e gl)];exact e
   refine⟨fun a=>if a=l' then none else H0 a,upd G l' (Z.rep t),⟨⟨fun b o e=>?_,s.gr.g.trans sm,fun b o e=>?_,fun b h h'=>?_⟩,by simp[s.len],fun j d e=>?_,fun j m e=>?_,fun j k m m' a b' h1 h2 h3 h4 h5=>?_,fun j t1 ks vs e=>?_,fun j k ta ka va tb kb vb a b' h1 h2 h3 h4 h5=>?_⟩,fun H' G' g=>.back s.seen g⟩
   ·by_cases z:b=l'
    ·simp only[if_pos z]at e;cases e
    ·simp only[if_neg z]at e;exact s.gr.h b o e
   ·by_cases z:b=l'
    ·subst z;rw[Yq]at e;rw[<-e];exact w.at
    ·rw[Yn z]at e;exact s.gr.s b o e
   ·by_cases z:b=l'
    ·exact if_pos z
    ·rw[Yn z]at h'
     show(if b=l' then none else H0 b)=none
     rw[if_neg z];exact s.gr.n b h h'
   ·rcases Ym e with⟨rfl,e1,hlt⟩ | ⟨hj,e⟩
    ·cases e1
     obtain⟨v,q1,q2⟩:=s.sh j _ hi
     refine⟨v,q1,?_⟩
     rw[Rp]at q2
     rw[q2]
     exact hz gl w.seen
    ·obtain⟨v,q1,q2⟩:=s.sh j d e
     exact⟨v,q1,q2.mono sm⟩
   ·rcases Ym e with⟨rfl,e1,_⟩ | ⟨hj,e⟩
    ·cases e1
    ·obtain⟨a,xs,q1,q2,q3,q4,q5⟩:=s.ow j m e
     exact⟨a,xs,q1,by rw[Yn (ne q3)];exact q2,by show(if a=l' then none else H0 a)=none;rw[if_neg (ne q3)];exact q3,q4,q5.mono sm⟩
   ·rcases Ym h1 with⟨rfl,e1,_⟩ | ⟨hj,h1⟩
    ·cases e1
    ·rcases Ym h2 with⟨rfl,e1,_⟩ | ⟨hk,h2⟩
     ·cases e1
     ·exact s.ap j k m m' a b' h1 h2 h3 h4 h5
   ·rcases Ym e with⟨rfl,e1,_⟩ | ⟨hj,e⟩
    ·cases e1
    ·obtain⟨a,kxs,vxs,q1,q2,q3,q4,q5,q6⟩:=s.od j t1 ks vs e
     exact⟨a,kxs,vxs,q1,by rw[Yn (ne q3)];exact q2,by show(if a=l' then none else H0 a)=none;rw[if_neg (ne q3)];exact q3,q4.mono sm fun _ z=>z,q5.mono sm,q6.mono sm⟩
   ·rcases Ym h1 with⟨rfl,e1,_⟩ | ⟨hj,h1⟩
    ·cases e1
    ·rcases Ym h2 with⟨rfl,e1,_⟩ | ⟨hk,h2⟩
     ·cases e1
     ·exact s.apd j k ta ka va tb kb vb a b' h1 h2 h3 h4 h5
  ·rw[if_neg hl]at e
   cases e
 ·cases e
def retZ(dz:τ->D)(l i:Nat)(f:Ro->Option D):TmV τ:=fun ρ t=>(thZ dz l i ρ t).bind fun ρ1=>(f ρ1).bind fun d=>if Yxv d=true then some (.rt d t)else none
theorem Yyb(i:Nat)(hz:∀{t:τ} {G:Hp},G l=none->Z.side G->Rp X.K (upd G l (Z.rep t)) (dz t) (.ref l))(h:ZE X e f):ZTS X Z l (.Return (some e) pos) (retZ dz l i f):=⟨PS.imp (Yni h.un) fun F σ H hx_=>by
 obtain⟨ρ,t,out,H0,G0,G,e,w,c⟩:=hx_
 unfold retZ at e
 obtain⟨ρ1,h1,e⟩:=qa e
 obtain⟨d,h2,e⟩:=qa e
 split at e
 ·rename_i hs
  cases e
  obtain⟨H2,G1,s1,bk⟩:=w.thaw hz h1
  exact⟨ρ1,d,H2,G0,G1,h2,s1,fun v H' G' g r=>c v H' G H0 (fun _ _=>rfl) w.h0 (w.sr.gr.trans (bk H' G' g)) (r.scal hs)⟩
 ·cases e⟩
def y5h(dz:τ->D)(l i:Nat)(f:Ro->Option Bool):Ro->τ->Option Bool:=fun ρ t=>(thZ dz l i ρ t).bind f
theorem y2c(i:Nat)(hz:∀{t:τ} {G:Hp},G l=none->Z.side G->Rp X.K (upd G l (Z.rep t)) (dz t) (.ref l)){a b:List Stmt}{fc:Ro->Option Bool}(hc:ZT X c fc)(ha:ZTB X Z l a fs)(hb:ZTB X Z l b gs):ZTS X Z l (.If c a b pos) (ifW (y5h dz l i fc) fs gs):=by
 have h:WTz Z X l c (y5h dz l i fc):=PT.imp hc.un fun σ H Q hx_=>by
  obtain⟨ρ,t,k,H0,G0,G,er,w,q⟩:=hx_
  obtain⟨ρ1,h1,h2⟩:=qa er
  obtain⟨H2,G1,s1,bk⟩:=w.thaw hz h1
  exact⟨ρ1,k,H2,G0,G1,h2,s1,fun H' G' g=>q H' G (bk H' G' g)⟩
 exact⟨y5g h ha.un hb.un⟩
def tWT(Z:Hid τ)(K:W.Frag)(l:Addr)(f:Ro->τ->Option (Bool × τ)):TT:=fun σ H Q=>∃ρ t k t' H0 G0 G,f ρ t=some (k,t')/\WZ Z K l t H0 G0 σ H G ρ/\∀H' G' H1,Off l H0 H1->WZ Z K l t' H1 G0 σ H' G' ρ->Same G G'->Q k H'
structure ZVT(X:Cx)(Z:Hid τ)(l:Addr)(c:Expr)(f:Ro->τ->Option (Bool × τ)):Prop where
 un:PT X c (tWT Z X.K l f)
def blE(fe:TeV τ):Ro->τ->Option (Bool × τ):=fun ρ t=>(fe ρ t).bind fun
 | (.bl k,t')=>some (k,t')
 | _=>none
def notE(f:Ro->τ->Option (Bool × τ)):Ro->τ->Option (Bool × τ):=fun ρ t=>(f ρ t).map fun p=>(!p.1,p.2)
def ifE(f:Ro->τ->Option (Bool × τ))(fs gs:TmV τ):TmV τ:=fun ρ t=>(f ρ t).bind fun p=>if p.1=true then fs ρ p.2 else gs ρ p.2
theorem Ymk(h:ZWE X Z l e fe)(he:∀whole,isTrue e X.env whole=(do let v <-whole;standAt e.pos;holding [v] (truthy v)):=by intro _;rfl):ZVT X Z l e (blE fe):=⟨PT.imp (y3k h.un he) fun σ H Q hx_=>by
 obtain⟨ρ,t,k,t',H0,G0,G,er,w,q⟩:=hx_
 obtain⟨⟨d,t1⟩,h1,er⟩:=qa er
 cases d with
 | bl b=>
   cases er
   refine⟨ρ,t,_,_,H0,G0,G,h1,w,fun v H' G' H1 f1 w1 s1 r1=>?_⟩
   rw[Rp]at r1
   exact⟨_,r1,q H' G' H1 f1 w1 s1⟩
 | _=>cases er⟩
theorem Yuo{fc:Ro->τ->Option (Bool × τ)}(h:ZVT X Z l c fc):ZVT X Z l (.UnaryOp .Not c pos) (notE fc):=⟨PT.imp (Yzh h.un) fun σ H Q hx_=>by
 obtain⟨ρ,t,k,t',H0,G0,G,er,w,q⟩:=hx_
 obtain⟨⟨b,t1⟩,h1,h2⟩:=qc er
 cases h2
 exact⟨ρ,t,b,t1,H0,G0,G,h1,w,q⟩⟩
theorem Yup{a b:List Stmt}{fc:Ro->τ->Option (Bool × τ)}(hc:ZVT X Z l c fc)(ha:ZTB X Z l a fs)(hb:ZTB X Z l b gs):ZTS X Z l (.If c a b pos) (ifE fc fs gs):=⟨PS.imp (Ys5 hc.un ha.un hb.un) fun F σ H hx_=>by
 obtain⟨ρ,t,out,H0,G0,G,er,w,q⟩:=hx_
 obtain⟨⟨k,t1⟩,h1,er⟩:=qa er
 refine⟨ρ,t,k,t1,H0,G0,G,h1,w,fun H1 G1 Ha f1 w1 s1=>?_⟩
 have er:(if k=true then fs ρ t1 else gs ρ t1)=some out:=er
 cases k with
 | true=>
   rw[if_pos rfl]at er
   exact iteT ⟨ρ,t1,out,Ha,G0,G1,er,w1,q.off f1⟩
 | false=>
   rw[if_neg qi]at er
   exact iteF ⟨ρ,t1,out,Ha,G0,G1,er,w1,q.off f1⟩⟩
end
abbrev tp(t:List Int):HO:=.lst (t.map V.int)
def tpH:Hid (List Int):=⟨tp,fun _=>True,fun _ h=>h⟩
abbrev TmM:=TmV (List Int)
abbrev Te:=TeV (List Int)
theorem Yq1{G:Hp}:∀t:List Int,RpL K G (t.map D.int) (t.map V.int)
 | []=>.nil
 | b::t=>.cons (by rw[Rp]) (Yq1 t)
def thT(l i:Nat)(ρ:Ro)(t:List Int):Option Ro:=match ρ[i]? with
 | some (some (.sh (.adr l')))=>if l'=l then some (ρ.set i (some (.sh (.lst (t.map D.int)))))else none
 | _=>none
theorem y7m{l:Addr}{t:List Int}{G:Hp}(_:G l=none)(_:tpH.side G):Rp K (upd G l (tpH.rep t)) (.lst (t.map D.int)) (.ref l):=by
 rw[Rp]
 exact⟨l,t.map V.int,rfl,.inl Yq,Yq1 t⟩
def Yyc(l i:Nat)(f:Ro->Option Bool):Ro->List Int->Option Bool:=fun ρ t=>(thT l i ρ t).bind f
def popE(l i:Nat):Te:=fun ρ t=>match ρ[i]? with
 | some (some (.sh (.adr l')))=>if l'=l then (t.getLast?).map fun k=>(.int k,t.dropLast)else none
 | _=>none
section
variable {X:Cx} {l:Addr} {e c:Expr} {pos p:Pos} {fs gs:TmM}
theorem y2d(i:Nat){a b:List Stmt}{fc:Ro->Option Bool}(hc:ZT X c fc)(ha:ZTB X tpH l a fs)(hb:ZTB X tpH l b gs):ZTS X tpH l (.If c a b pos) (ifW (Yyc l i fc) fs gs):=y2c i y7m hc ha hb
theorem y2e(i:Nat){x:Str}{p1 apos cpos:Pos}(hN:X.N[i]?=some x:=by rfl)(hv:Vis X.env.scope x:=by first | exact Or.inl rfl | exact Or.inr (Or.inl rfl) | exact Or.inr (Or.inr rfl))
 (hd:(x==("__debug__":Str))=false:=by decide) (hcd:(x==("__classdict__":Str))=false:=by decide) (hline:(apos.endLine==cpos.line)=true:=by rfl) (hbase:attributeBase (.Name x p1) "pop" X.env (eval (.Name x p1) X.env)=eval (.Name x p1) X.env:=by rfl) :
 ZWE X tpH l (.Call (.Attribute (.Name x p1) "pop" apos) [] [] cpos) (popE l i):=
 ⟨PE.imp (y31 PySem.F.plainAttrs_list PySem.F.slot_list_pop PySem.F.type_list_pop y32 (Yd3 hN hv hd hcd) hbase hline) fun σ H Q hx_=>by
  obtain⟨ρ,t,d,t',H0,G0,G,er,w,q⟩:=hx_
  unfold popE at er
  split at er
  ·rename_i l' hi
   split at er
   ·rename_i hll
    subst hll
    obtain⟨k,h1,h2⟩:=qc er
    cases h2
    obtain⟨v,q1,q2⟩:=w.sr.sh i _ hi
    rw[Rp]at q2
    subst q2
    refine⟨_,q1,.inl ⟨rfl,_,SqL.of w.at⟩,l',t.map V.int,.int k,rfl,rfl,w.at,?_,?_⟩
    ·rw[qf,Qa]
     have:t[t.length - 1]?=some k:=by rw[<-List.getLast?_eq_getElem?];exact h1
     rw[this]
     rfl
    ·have w2:=w.put t.dropLast
     have e2:(t.map V.int).dropLast=t.dropLast.map V.int:=by rw[List.map_dropLast]
     rw[e2]
     exact q _ _ G _ (Off.put l' H0 _) w2 (Same.refl _) (by rw[Rp])
   ·cases er
  ·cases er⟩
end
end
end M
namespace M
open PySem PySem.Spec PyProof.Rows L2 Builtin Builtin.Str
variable {K:W.Frag}
theorem Yn5{sep:Str}:∀(l:List Str) (acc:Array Nat),PyData.strOk ⟨l.foldl (fun acc p=>acc++sep.cps++p.cps) acc⟩=true->PyData.strOk ⟨acc⟩=true/\∀x∈l,PyData.strOk x=true
 | [],_,h=>⟨h,fun _ z=>(nomatch z)⟩
 | x::l,acc,h=>by
   rw[List.foldl_cons]at h
   obtain⟨h1,h2⟩:=Yn5 l _ h
   have e:PyData.strOk ⟨acc++sep.cps++x.cps⟩=PyData.strOk (((⟨acc⟩:Str)++sep)++x):=rfl
   rw[e,Yn0,Yn0,qx,qx]at h1
   refine⟨h1.1.1,fun y hy=>?_⟩
   cases hy with
   | head=>exact h1.2
   | tail _ hy=>exact h2 y hy
theorem Yh0(x y:Str):Txt.join y (Txt.split x y)=x:=(beq_iff_eq.mp (join_plain_closes y (Txt.split x y))).trans (StrLaws.join_split x y)
theorem Yyd{x y:Str}(h:PyData.strOk x=true):∀z∈Txt.split x y,PyData.strOk z=true:=by
 have e:=Yh0 x y
 cases hs:Txt.split x y with
 | nil=>exact fun _ z=>(nomatch z)
 | cons a l=>
   rw[hs]at e
   rw[<-e]at h
   obtain⟨h1,h2⟩:=Yn5 (sep:=y) l a.cps h
   intro z hz
   cases hz with
   | head=>exact h1
   | tail _ hz=>exact h2 z hz
def Yq2(sep:Str):D->Option D
 | .str x=>if x.length<=1000000 then some (.lst ((Txt.split x sep).map D.str))else none
 | _=>none
def y5i:V->List V->Hp->VK->Prop:=fun x xs H Q=>∃t y,x=.str t/\xs=[.str y]/\(y.length==0)=false/\t.length<=1000000/\∀p,H p=none->Q (.ref p) (upd H p (.lst ((Txt.split t y).map V.str)))
theorem Yje:∀l:List (Str × Tok),Vals ((l.map (·.1)).map V.str) (strValues l)
 | []=>.nil
 | (x,t)::l=>.cons ⟨t,rfl⟩ (Yje l)
theorem Yq3{G:Hp}:∀{l:List Str},(∀x∈l,PyData.strOk x=true)->RpL K G (l.map D.str) (l.map V.str)
 | [],_=>.nil
 | x::l,h=>.cons (by rw[Rp];exact⟨rfl,h x (.head _)⟩) (Yq3 fun y hy=>h y (.tail _ hy))
section
variable {X:Cx} {e a b:Expr} {fa fb:Ro->Option D} {ga:Ro->Option (List D)} {pos cpos apos p p2:Pos}
theorem Yye:MtR X "str.split" y5i:=by
 intro pins s σ H x xs v us Q I rx r h
 obtain⟨t,y,rfl,rfl,hy,hz,q⟩:=h
 obtain⟨tk,rfl⟩:=rx
 obtain⟨u,rfl,ru⟩:=Yjk r
 obtain⟨tu,rfl⟩:=ru
 have hsl:=sizeLine_eq
 have hle:=split_le t y
 have fin:∀(l:List (Str × Tok)) (k:Nat),l.map (·.1)=Txt.split t y->EP X pins σ Q (.ref s.heap.objs.size) { s with heap:=s.heap.push { cls:=.type "list",data:=.seq (strValues l).toArray },toks:=k }:=fun l k hl=>by
  have hv:=Yje l
  rw[hl]at hv
  exact⟨.ref s.heap.objs.size,_,I.lnew hv (by rw[qf];lia),rfl,q _ I.fresh⟩
 cases h1:(decide (t.length < y.length)||decide (strKind t < strKind y))
 ·cases hf:(occurrences t y 0 t.length (t.length+1)).isEmpty
  ·have hsp:Txt.split t y=partsBetween t (occurrences t y 0 t.length (t.length+1)) y.length:=(if_neg (ne_true_of_eq_false h1)).trans (if_neg (ne_true_of_eq_false hf))
   refine call_meets F.slot_str_split (typeIs_str _ _ _) F.entry_str_split (F.args_str_split_2 _ _) (meets_str_split_sep t y tk tu h1 hy hf (by lia) (by rw[<-hsp];lia)) ?_
   show wants (EP X pins σ Q) X.xe _ { s with toks:=_,heap:=s.heap.push { cls:=.type "list",data:=.seq (strsFrom s.toks (partsBetween t (occurrences t y 0 t.length (t.length+1)) y.length)).toArray } }
   rw[strsFrom_eq]
   exact fin (numbered s.toks _) _ ((numbered_texts _ _).trans hsp.symm)
  ·exact call_meets F.slot_str_split (typeIs_str _ _ _) F.entry_str_split (F.args_str_split_2 _ _) (meets_str_split_not_found t y tk tu h1 hy hf)
    (fin [(t,tk)] s.toks ((if_neg (ne_true_of_eq_false h1)).trans (if_pos hf)).symm)
 ·exact call_meets F.slot_str_split (typeIs_str _ _ _) F.entry_str_split (F.args_str_split_2 _ _) (meets_str_split_cannot_occur t y tk tu h1)
   (fin [(t,tk)] s.toks (if_pos h1).symm)
theorem Yuq{sep:Str}{j}(ha:ZE X e fa)(hx:(sep.length==0)=false:=by decide +kernel)
 (hbase:attributeBase e "split" X.env (eval e X.env)=eval e X.env:=by rfl)
 (hfew:((backTo cpos (starEach [.Constant (.str sep) j p] X.env)).all (fun x=>!x.1)&&(backToKw cpos (keywordEach [] X.env)).all (fun x=>x.1.isSome)
  &&decide ([Expr.Constant (.str sep) j p].length+([]:List Keyword).length+(if ([]:List Keyword).isEmpty then 0 else 1) < 30))=true:=by rfl)
 (hline:(apos.endLine==cpos.line)=true:=by rfl) (hs:starEach [.Constant (.str sep) j p] X.env=(false,eval (.Constant (.str sep) j p) X.env)::starEach [] X.env:=by rfl) (hplain:(backTo cpos (starEach [] X.env)).any (·.1)=false:=by rfl) :
 ZE X (.Call (.Attribute e "split" apos) [.Constant (.str sep) j p] [] cpos) (b1 fa (Yq2 sep)):=
 ⟨PE.imp (Ytj F.plainAttrs_str F.slot_str_split F.type_str_split Yye ha.un (Ybb Ys3 Yd5 hs) hbase hfew hline hs hplain) fun σ H Q hx_=>by
  obtain⟨ρ,d,H0,G0,G,er,s,h⟩:=hx_
  obtain⟨y,h1,h2⟩:=Ybn er
  refine tOf.at h1 s fun v H1 G1 g1 r1 s1=>?_
  cases y with
  | str t=>
    change (if t.length<=1000000 then some (D.lst ((Txt.split t sep).map D.str))else none)=some d at h2
    split at h2
    ·rename_i hl
     cases h2
     rw[Rp]at r1
     obtain⟨rfl,hok⟩:=r1
     refine⟨rfl,t,sep,rfl,rfl,hx,hl,fun q hq=>?_⟩
     have gn:=Gr.new s1.seen hq (.lst ((Txt.split t sep).map V.str))
     refine h _ _ _ (g1.trans gn) ?_
     rw[Rp]
     exact⟨q,_,rfl,.inl Yq,Yq3 (Yyd hok)⟩
    ·cases h2
  | _=>cases h2⟩
def lenS:List D->Option D
 | [.str s]=>if s.length<=1000000 then some (.int s.length)else none
 | _=>none
theorem Yq4:SemC K (fun xs H Q=>∃z:Str,xs=[.str z]/\z.length<=sizeLine/\Q (.int z.length) H) lenS:=by
 intro vs ds d H G Q e sm r q
 unfold lenS at e
 split at e
 ·rename_i s
  split at e
  ·rename_i hl
   cases e
   obtain⟨v,rfl,rv⟩:=Yet r
   rw[Ct]at rv
   obtain⟨rfl,hok⟩:=rv
   exact⟨s,rfl,by rw[sizeLine_eq];lia,q _ H G (Gr.refl sm) (by rw[Rp])⟩
  ·cases e
 ·cases e
def intS:List D->Option D
 | [.str s]=>if s.length<=640 then (intText? s).map D.int else none
 | _=>none
theorem Yur:Ye6 X (.type "int") (fun xs H Q=>∃z n,xs=[.str z]/\z.length<=640/\intText? z=some n/\Q (.int n) H):=by
 intro pins s σ H xs us Q I r h
 obtain⟨z,n,rfl,hl,hn,q⟩:=h
 obtain⟨u,rfl,ru⟩:=Yjk r
 obtain⟨t,rfl⟩:=ru
 exact W.KIN.call_text hn hl ⟨.int n,H,I.tok _,⟨_,rfl⟩,q⟩
theorem Yyf:SemC K (fun xs H Q=>∃(z:Str) (n:Int),xs=[.str z]/\z.length<=640/\intText? z=some n/\Q (.int n) H) intS:=by
 intro vs ds d H G Q e sm r q
 unfold intS at e
 split at e
 ·rename_i s
  split at e
  ·rename_i hl
   obtain⟨n,h1,rfl⟩:=qc e
   obtain⟨v,rfl,rv⟩:=Yet r
   rw[Ct]at rv
   obtain⟨rfl,hok⟩:=rv
   exact⟨s,n,rfl,hl,h1,q _ H G (Gr.refl sm) (by rw[Rp])⟩
  ·cases e
 ·cases e
def inS:D->D->Option Bool
 | .str i,.str j=>some (!(occurrences j i 0 j.length 1).isEmpty)
 | _,_=>none
theorem y2f:Ygl K (fun x y H Q=>∃i j,x=.str i/\y=.str j/\Q (.bl (!(occurrences j i 0 j.length 1).isEmpty)) H) inS:=by
 intro x y dx dy b H G Q e sm rx ry q
 unfold inS at e
 split at e
 ·cases e
  rw[Ct]at rx ry
  exact⟨_,_,rx.1,ry.1,q⟩
 ·cases e
theorem y2g(ha:ZC X a fa)(hb:ZC X b fb)(hm:behindInMarks .In b=false:=by with_unfolding_all rfl):ZE X (.Compare a [.In] [b] pos) (mB (b2 fa fb inS)):=⟨Yzv Ys9 y2f ha.un hb.un hm⟩
def cutS(i:Int):D->Option D
 | .str s=>if s.length<=1000000 then some (.str (Txt.slice s (some i) none))else none
 | _=>none
end
end M
namespace M
open PySem PySem.Spec PyProof.Rows L2 Builtin Builtin.Str
variable {K:W.Frag}
def Its(x:Str):It:=⟨fun i _=>∃c,x.cps[i]?=some c,fun i H v H'=>H'=H/\∃c,x.cps[i]?=some c/\v=.str ⟨#[c]⟩,fun i _=>x.cps[i]?=none⟩
theorem Yyg{P:Program}{w:World}{K:W.Frag}{tg:Expr}(x:Str)(t:Tok)(it:Addr):Turn P w K tg (Its x) [it] it (fun i h=>h.IsStrIter it "str_ascii_iterator" x t i) where
 mem:=by simp
 obj:=fun i h st b hb=>by
  have e:b=it:=by simpa using hb
  subst e
  obtain⟨o,e,c,d⟩:=st
  exact⟨o,e,fun v z=>by rw[d]at z;cases z⟩
 keep:=fun i h h' st k=>by
  obtain⟨o,e,c,d⟩:=st
  exact⟨o,k it (by simp) o e,c,d⟩
 item:=by
  intro X hP hw hK hc i pins s σ H E I hf st hg
  subst hP hw hK
  obtain⟨c,hx⟩:=hg
  obtain⟨f0,f1,f2,f3,f4,f5⟩:=hf it (by simp)
  refine wpAny_pyNext_ascii_item st hx fun h' st' sb=>?_
  have I1:Inv X pins σ H { s with heap:=h',toks:=s.toks+1 }:=I.turned (t':=s.toks+1) (fun b o hb e=>(sb.2 b hb).trans e) f0 f1 f3 f4 f5
  obtain⟨o,e,c',d⟩:=id st'
  exact⟨_,rfl,Yw7 (s:={ s with heap:=h',toks:=s.toks+1 }) e c' d (by decide) ⟨.str ⟨#[c]⟩,H,I1,⟨_,rfl⟩,⟨rfl,c,hx,rfl⟩,st',fun b hb=>(hf b hb).1⟩⟩
 done:=by
  intro X hP hw hK hc i pins s σ H E I hf st hg
  subst hP hw hK
  obtain⟨f0,f1,f2,f3,f4,f5⟩:=hf it (by simp)
  exact wpAny_pyNext_ascii_end (I.ok.hd hc) st hg fun h' eb=>⟨rfl,I.turned (t':=s.toks) (fun b o hb e=>eb b o hb e) f0 f1 f3 f4 f5⟩
 self:=fun A i s Q E st h=>by
  refine wpAny_pyIter_slot st.typeIs F.slot_str_ascii_iterator_iter (wpAny_call_entry F.slot_str_ascii_iterator_iter st.typeIs F.entry_str_ascii_iterator_iter ?_ (F.args_str_ascii_iterator_iter_1 _))
  show wpAny _ _ (ret (.ref it)) _ _ s
  exact wpAny_pure ⟨_,rfl,"str_ascii_iterator",_,st.typeIs,F.slot_str_ascii_iterator_next.lookup,h⟩
def iStr(te:TE):TI:=fun σ H R=>te σ H fun v H1=>∃x:Str,v=.str x/\x.cps.all (· < 128)=true/\R (Its x) H1
theorem y5j{X:Cx}{tg e:Expr}{te:TE}(he:PE X e te):PI X tg e (iStr te):=by
 intro pins s σ H R I h
 refine thn (he pins s σ H _ I h) fun v s1 hx_=>?_
 obtain⟨x,H1,I1,r1,q1⟩:=hx_
 obtain⟨z,e,ha,q⟩:=q1
 subst e
 obtain⟨t,rfl⟩:=r1
 refine wpAny_pyIter_ascii ha ?_
 refine⟨s1.heap.objs.size,[s1.heap.objs.size],_,_,H1,rfl,I1.kept (t':=s1.toks) fun b o e=>qe _ e,Yyg z t _,⟨_,qp _ rfl,rfl,rfl⟩,fun b hb=>?_,q⟩
 have e:b=s1.heap.objs.size:=by simpa using hb
 subst e
 exact I1.fpOk (qu _) (I1.hok.fresh (qu _))
def Yq5:D->Option (List D)
 | .str s=>if s.cps.all (· < 128)=true/\s.length<=1000000 then some (s.cps.toList.map fun c=>.str ⟨#[c]⟩)else none
 | _=>none
theorem y2h{s:Str}{c:Nat}(ha:s.cps.all (· < 128)=true)(h:c∈s.cps.toList):PyData.strOk ⟨#[c]⟩=true:=by
 rw[<-Array.all_toList,List.all_eq_true]at ha
 have:=ha c h
 simp at this
 show(#[c]:Array Nat).all _=true
 simp
 lia
section
variable {X:Cx} {tg e a:Expr} {fa:Ro->Option D} {pos p px apos cpos:Pos} {x:Str}
theorem y2i(ha:ZE X e fa):ZI X tg e (b1 fa Yq5):=⟨PI.imp (y5j ha.un) fun σ H R hx_=>by
 obtain⟨ρ,ds,H0,G0,G,er,s,h⟩:=hx_
 obtain⟨y,h1,h2⟩:=Ybn er
 refine tOf.at h1 s fun v H1 G1 g1 r1 s1=>?_
 cases y with
 | str z=>
   change (if z.cps.all (· < 128)=true/\z.length<=1000000 then some (z.cps.toList.map fun c=>D.str ⟨#[c]⟩)else none)=some ds at h2
   split at h2
   ·rename_i hz
    cases h2
    rw[Rp]at r1
    obtain⟨rfl,hok⟩:=r1
    have hsl:=sizeLine_eq
    refine⟨z,rfl,hz.1,h _ H1 G1 g1 (Ysh (by rw[qf,qj];have:=hz.2;show z.length<=_;lia) fun i H2 G2 e1 e2=>⟨fun d hd=>?_,fun hi=>?_⟩)⟩
    ·rw[Qa]at hd
     obtain⟨c,hc,rfl⟩:=qc hd
     rw[Array.getElem?_toList]at hc
     refine⟨⟨c,hc⟩,fun v H3 q=>?_⟩
     obtain⟨rfl,c',hc',rfl⟩:=q
     rw[hc]at hc'
     cases hc'
     refine⟨rfl,?_⟩
     rw[Rp]
     exact⟨rfl,y2h hz.1 (List.mem_of_getElem? (by rw[Array.getElem?_toList];exact hc))⟩
    ·rw[qf,qj]at hi
     exact Array.getElem?_eq_none hi
   ·cases h2
 | _=>cases h2⟩
def rSlS:V->Option Int->Option Int->Hp->VK->Prop:=fun x lo hi H Q=>∃z i,x=.str z/\lo=some i/\hi=none/\z.length<=1000000/\Q (.str (Txt.slice z (some i) none)) H
theorem y5k:SlR X rSlS:=by
 intro pins s σ H x v vl vu lo hi sl Q I rx hs pl pu h
 obtain⟨z,i,rfl,rfl,rfl,hz,q⟩:=h
 obtain⟨t,rfl⟩:=rx
 cases pl with
 | int _ ti=>
   cases pu
   have hsl:=sizeLine_eq
   exact⟨"str",_,F.slot_str_getitem.lookup,typeIs_str _ _ _,wpAny_getItem_str_slice (l:=some (i,ti)) (u:=none) (st:=none) hs rfl (post_val_or_str ⟨qy (Txt.slice_le z (some i) none) (by lia),fun t' k=>⟨.str _,H,I.tok k,⟨t',rfl⟩,q⟩⟩)⟩
theorem Yyh{z:Str}{lo hi:Option Int}(h:PyData.strOk z=true):PyData.strOk (Txt.slice z lo hi)=true:=by
 unfold Txt.slice
 split
 ·exact h
 ·unfold PyData.strOk at h ⊢
  rw[<-Array.all_toList,List.all_eq_true]at h
  rw[List.all_toArray,List.all_eq_true]
  intro c hc
  obtain⟨j,_,hj⟩:=List.mem_filterMap.mp hc
  exact h c (by rw[<-Array.getElem?_toList]at hj;exact List.mem_of_getElem? hj)
theorem Yyi{i:Int}{p2:Pos}{j}(ha:ZE X a fa):ZE X (.Subscript a (.Slice (some (.Constant (.int i) j p)) none none p2) pos) (b1 fa (cutS i)):=
 ⟨PE.imp (Yqk y5k ha.un (Yti Yqh) Yth) fun σ H Q hx_=>by
  obtain⟨ρ,d,H0,G0,G,er,s,h⟩:=hx_
  obtain⟨y,h1,h2⟩:=Ybn er
  refine tOf.at h1 s fun v H1 G1 g1 r1 s1=>?_
  cases y with
  | str z=>
    change (if z.length<=1000000 then some (D.str (Txt.slice z (some i) none))else none)=some d at h2
    split at h2
    ·rename_i hz
     cases h2
     rw[Rp]at r1
     obtain⟨rfl,hok⟩:=r1
     exact⟨i,rfl,z,i,rfl,rfl,rfl,hz,h _ H1 G1 g1 (by rw[Rp];exact⟨rfl,Yyh hok⟩)⟩
    ·cases h2
  | _=>cases h2⟩
def GS(mg:Str->Option Value)(x y:Str):Prop:=PyData.strOk y=true/\∃t,mg x=some (.str y t)
theorem Yyj{y:Str}(g:GS X.mg x y)(hg:Gl X x)(hd:(x==("__debug__":Str))=false:=by decide):ZE X (.Name x px) (kD (.str y)):=by
 obtain⟨hok,t,hm⟩:=g
 exact⟨Yge (v:=.str y) (Yjt (v:=.str y) hg hm ⟨t,rfl⟩ hd) (fun _ _ _ q=>q) fun _=>by rw[Rp];exact⟨rfl,hok⟩⟩
end
end M
namespace M
open PySem PySem.Spec PyProof.Rows L2
section
variable {K:W.Frag}
structure ZTs(h:Heap)(z I O a b t u:Addr)(k:Nat)(f x y:Value)(xs ys:Array Value):Prop where
 zip:IsZip h z I O f
 ins:IsPair h I (.ref a) (.ref b)
 out:IsPair h O x y
 ita:h.IsTupleIter a t k
 itb:h.IsTupleIter b u k
 tua:h.IsTuple t xs
 tub:h.IsTuple u ys
end
section
variable {K:W.Frag}
structure ZTt(h:Heap)(z I O a b t u:Addr)(k:Nat)(f x y:Value):Prop where
 zip:IsZip h z I O f
 ins:IsPair h I (.ref a) (.ref b)
 out:IsPair h O x y
 ita:h.IsTupleIter a t k
 itb:h.IsTupleIter b u k
end
section
variable {K:W.Frag}
def SEK(w:World):List DictEntry->List Str->Prop:=Paired fun e k=>e.hash=PyData.keyHash w.params k/\∃t,e.key=.str k t
def GK(K:W.Frag)(w:World)(mg:Str->Option Value)(x:Str)(ks:List Str):Prop:=∃p o es ep,mg x=some (.ref p)/\(p==sysModules)=false/\K.lookup p=some o/\o.ExactDict/\o.data=.dict es ep/\SEK w es.toList ks
def SEA(w:World):List DictEntry->List (Str × Addr)->Prop:=Paired fun e p=>e.hash=PyData.keyHash w.params p.1/\(∃t,e.key=.str p.1 t)/\e.val=.ref p.2
def GDA(K:W.Frag)(w:World)(mg:Str->Option Value)(x:Str)(kvs:List (Str × Addr)):Prop:=∃p o es ep,mg x=some (.ref p)/\K.lookup p=some o/\o.ExactDict/\o.data=.dict es ep/\SEA w es.toList kvs
theorem SEA.keys{w:World}:∀{l:List DictEntry} {kvs:List (Str × Addr)},SEA w l kvs->SEK w l (kvs.map (·.1))
 | _,_,.nil=>.nil
 | _,_,.cons r t=>.cons ⟨r.1,r.2.1⟩ (SEA.keys t)
theorem Yus{P:Program}{w:World}{k:Str}:∀{l:List DictEntry} {ks:List Str},SEK w l ks->(l.find? (fun e=>(PySem.strKind P w).is k e.key)).isSome=decide (k∈ks)
 | _,_,.nil=>by simp
 | _,_,.cons (a:=e) (b:=a) r t=>by
   obtain⟨_,⟨t1,h1⟩⟩:=r
   have ih:=Yus (P:=P) (k:=k) t
   rw[List.find?_cons]
   have he:(PySem.strKind P w).is k e.key=(a==k):=by rw[h1];rfl
   rw[he]
   by_cases q:a=k
   ·subst q;simp
   ·have hn:(a==k)=false:=by simpa using q
    have q':¬k=a:=fun z=>q z.symm
    rw[hn]
    simp[ih,q']
theorem Ygi{P:Program}{w:World}:∀{l:List DictEntry} {ks:List Str},SEK w l ks->∀e∈l,∃k,(PySem.strKind P w).is k e.key=true/\e.hash=(PySem.strKind P w).hash k
 | _,_,.nil,e,h=>by cases h
 | _,_,.cons (b:=p) r t,e,h=>by
   rcases qt h with rfl | h
   ·obtain⟨h0,⟨t1,h1⟩⟩:=r
    exact⟨p,by rw[h1];simp[PySem.strKind,Value.isStrOf],h0⟩
   ·exact Ygi t e h
theorem Yq6{P:Program}{w:World}{k:Str}{v:Addr}:∀{l:List DictEntry} {kvs:List (Str × Addr)},SEA w l kvs->kvs.lookup k=some v->∃e,l.find? (fun e=>(PySem.strKind P w).is k e.key)=some e/\e.val=.ref v
 | _,_,.nil,h=>by simp at h
 | _,_,.cons (a:=e) (b:=p) r t,h=>by
   obtain⟨_,⟨t1,h1⟩,h2⟩:=r
   obtain⟨a,b⟩:=p
   have he:(PySem.strKind P w).is k e.key=(a==k):=by rw[h1];rfl
   rw[List.find?_cons,he]
   by_cases q:a=k
   ·subst q
    simp at h
    subst h
    exact⟨e,by simp,h2⟩
   ·have hn:(a==k)=false:=by simpa using q
    have hn':(k==a)=false:=by simpa using fun z:k=a=>q z.symm
    rw[hn]
    exact Yq6 t (by simpa [Qe,hn']using h)
def Yd9(kvs:List (Str × Addr)):D->Option D
 | .str k=>(kvs.lookup k).map D.adr
 | _=>none
section
variable {X:Cx} {a:Expr} {fa:Ro->Option D} {pos px:Pos} {x:Str} {ks:List Str}
theorem Ydz{ke:Expr}{fk:Ro->Option D}{kvs:List (Str × Addr)}(g:GDA X.K X.w X.mg x kvs)(hg:Gl X x)(hk:ZC X ke fk)(hs:NoSl ke:=by intro _ _;rfl)(hd:(x==("__debug__":Str))=false:=by decide):ZE X (.Subscript (.Name x px) ke pos) (b1 fk (Yd9 kvs)):=by
 obtain⟨p,o,es,ep,hm,hl,hx,hdt,hse⟩:=g
 refine⟨fun pins s σ H Q I hx_=>?_⟩
 obtain⟨ρ,d,H0,G0,G,e,sr,h⟩:=hx_
 obtain⟨dk,h1,h2⟩:=Ybn e
 refine Yo0 PySem.F.slot_dict_getitem.lookup hs (Yd4 I hg hm ?_ hd)
 refine thn (hk.un pins s σ H (fun(v':V) (H':Hp)=>∃k r,v'=.str k/\kvs.lookup k=some r/\Q (.ref r) H') I (tCof.at h1 sr fun v H1 G1 g1 r1 s1=>?_)) fun iv s2 q0=>?_
 ·unfold Yd9 at h2
  split at h2
  ·rename_i k
   obtain⟨r,h3,rfl⟩:=qc h2
   rw[Ct]at r1
   exact⟨k,r,r1.1,h3,h _ H1 G1 g1 (by rw[Rp])⟩
  ·cases h2
 ·obtain⟨y,H2,I2,ry,k,r,rfl,h3,q⟩:=q0
  obtain⟨t,rfl⟩:=ry
  have ho:s2.heap.get? p=some o:=I2.kIn p o hl
  obtain⟨e',f1,f2⟩:=Yq6 (P:=X.prog) hse h3
  refine⟨⟨o,ho,hx.1⟩,wpAny_getItem_of (knd:=PySem.strKind X.prog X.w) (k:=k) (f:=fun k=>findBy (PySem.strKind X.prog X.w).is es k) (v:=.ref r) (by simp[PySem.strKind,Value.isStrOf]) ⟨o,es,ep,ho,hx,hdt,?_,fun _=>rfl⟩ ?_ ⟨.ref r,H2,I2.tok _,rfl,q⟩⟩
  ·intro e'' he
   exact Ygi hse.keys e'' (by simpa using he)
  ·show(es.find? fun e=>(PySem.strKind X.prog X.w).is k e.key).map (·.val)=_
   rw[<-Array.find?_toList,f1,Option.map_some,f2]
theorem Yz1{p:Addr}{o:Obj}{es:Array DictEntry}{ep:Nat}(hp:(p==sysModules)=false)(hl:X.K.lookup p=some o)(hx:o.ExactDict)(hd:o.data=.dict es ep)(hs:SEK X.w es.toList ks):OpR X (compareOp .In) (rInG p ks false)/\OpR X (compareOp .NotIn) (rInG p ks true):=by
 have hf:∀k,(findBy (PySem.strKind X.prog X.w).is es k).isSome=decide (k∈ks):=fun k=>by
  show((es.find? fun e=>(PySem.strKind X.prog X.w).is k e.key).map (·.val)).isSome=_
  rw[<-Array.find?_toList,Option.isSome_map,Yus hs]
 constructor
 ·intro pins s σ H x y v u Q I rx ry h
  obtain⟨k,rfl,hk,rfl,q⟩:=h
  cases ry
  obtain⟨t,rfl⟩:=rx
  refine wpAny_in_of (knd:=PySem.strKind X.prog X.w) (k:=k) (f:=fun k=>findBy (PySem.strKind X.prog X.w).is es k) (by simp[PySem.strKind,Value.isStrOf]) hp ⟨o,es,ep,I.kIn p o hl,hx,hd,fun e he=>Ygi hs e (by simpa using he),fun _=>rfl⟩ ⟨.bl _,H,I.tok _,rfl,?_⟩
  rw[hf k]
  have e:decide (k∈ks)=(decide (k∈ks) != false):=by cases decide (k∈ks)<;>rfl
  rw[e]
  exact q
 ·intro pins s σ H x y v u Q I rx ry h
  obtain⟨k,rfl,hk,rfl,q⟩:=h
  cases ry
  obtain⟨t,rfl⟩:=rx
  refine wpAny_notIn_of (knd:=PySem.strKind X.prog X.w) (k:=k) (f:=fun k=>findBy (PySem.strKind X.prog X.w).is es k) (by simp[PySem.strKind,Value.isStrOf]) hp ⟨o,es,ep,I.kIn p o hl,hx,hd,fun e he=>Ygi hs e (by simpa using he),fun _=>rfl⟩ ⟨.bl _,H,I.tok _,rfl,?_⟩
  rw[hf k]
  have e:(!decide (k∈ks))=(decide (k∈ks) != true):=by cases decide (k∈ks)<;>rfl
  rw[e]
  exact q
theorem Ypo(g:GK X.K X.w X.mg x ks)(hg:Gl X x)(ha:ZC X a fa)(hm:behindInMarks .In (.Name x px)=false:=by with_unfolding_all rfl)(hd:(x==("__debug__":Str))=false:=by decide):ZT X (.Compare a [.In] [.Name x px] pos) (b1 fa (inG false ks)):=by
 obtain⟨p,o,es,ep,hmg,hp,hl,hx,hdt,hs⟩:=g
 refine⟨PT.imp (Yoz (Yz1 hp hl hx hdt hs).1 ha.un (Yjt (v:=.ref p) hg hmg rfl hd) hm) fun σ H Q ⟨ρ,b,H0,G0,G,e,s,h⟩=>?_⟩
 obtain⟨d,h1,h2⟩:=Ybn e
 refine tCof.at h1 s fun v H1 G1 g1 r1 s1=>?_
 unfold inG at h2
 split at h2
 ·rename_i k
  cases h2
  rw[Ct]at r1
  exact⟨k,r1.1,r1.2,rfl,_,rfl,h H1 G1 g1⟩
 ·cases h2
theorem Ydh(g:GK X.K X.w X.mg x ks)(hg:Gl X x)(ha:ZC X a fa)(hm:behindInMarks .NotIn (.Name x px)=false:=by with_unfolding_all rfl)(hd:(x==("__debug__":Str))=false:=by decide):ZT X (.Compare a [.NotIn] [.Name x px] pos) (b1 fa (inG true ks)):=by
 obtain⟨p,o,es,ep,hmg,hp,hl,hx,hdt,hs⟩:=g
 refine⟨PT.imp (Yoz (Yz1 hp hl hx hdt hs).2 ha.un (Yjt (v:=.ref p) hg hmg rfl hd) hm) fun σ H Q ⟨ρ,b,H0,G0,G,e,s,h⟩=>?_⟩
 obtain⟨d,h1,h2⟩:=Ybn e
 refine tCof.at h1 s fun v H1 G1 g1 r1 s1=>?_
 unfold inG at h2
 split at h2
 ·rename_i k
  cases h2
  rw[Ct]at r1
  exact⟨k,r1.1,r1.2,rfl,_,rfl,h H1 G1 g1⟩
 ·cases h2
end
def KT1(K:W.Frag)(a:Addr)(ss:List Str):Prop:=∃o its n,K.lookup a=some o/\o.cls=.type "tuple"/\o.data=.seq its n/\its.size<=sizeLine/\y5b its.toList ss
def KTs(K:W.Frag):List (Addr × List Str)->Prop
 | []=>True
 | q::l=>KT1 K q.1 q.2/\KTs K l
theorem KTs.at{a:Addr}{ss:List Str}:∀{kt:List (Addr × List Str)},KTs K kt->kt.lookup a=some ss->KT1 K a ss
 | [],_,h=>by simp at h
 | q::l,hk,h=>by
   rw[Qe]at h
   cases e:(a==q.1)with
   | true=>
     rw[e]at h
     cases h
     have:a=q.1:=by simpa using e
     rw[this]
     exact hk.1
   | false=>
     rw[e]at h
     exact KTs.at hk.2 h
theorem Yn6:∀{vs:List Value} {ks:List Str},y5b vs ks->Vals (ks.map V.str) vs/\∀k∈ks,PyData.strOk k=true
 | _,_,.nil=>⟨.nil,fun _ h=>nomatch h⟩
 | _,_,.cons (b:=k) r t=>by
   obtain⟨h1,h2⟩:=Yn6 t
   exact⟨.cons r.1 h1,fun y hy=>by
    rcases qt hy with rfl | hy
    ·exact r.2
    ·exact h2 y hy⟩
end
section
variable {K:W.Frag}
def SEB(w:World):List DictEntry->List (Str × Bool)->Prop:=Paired fun e p=>e.hash=PyData.keyHash w.params p.1/\(∃t,e.key=.str p.1 t)/\e.val=.bool p.2
def GDB(K:W.Frag)(w:World)(mg:Str->Option Value)(x:Str)(kvs:List (Str × Bool)):Prop:=∃p o es ep,mg x=some (.ref p)/\(p==sysModules)=false/\K.lookup p=some o/\o.ExactDict/\o.data=.dict es ep/\SEB w es.toList kvs
theorem SEB.keys{w:World}:∀{l:List DictEntry} {kvs:List (Str × Bool)},SEB w l kvs->SEK w l (kvs.map (·.1))
 | _,_,.nil=>.nil
 | _,_,.cons r t=>.cons ⟨r.1,r.2.1⟩ (SEB.keys t)
theorem Yml{P:Program}{w:World}{k:Str}:∀{l:List DictEntry} {kvs:List (Str × Bool)},SEB w l kvs->(l.find? (fun e=>(PySem.strKind P w).is k e.key)).map (·.val)=(kvs.lookup k).map Value.bool
 | _,_,.nil=>rfl
 | _,_,.cons (a:=e) (b:=p) r t=>by
   obtain⟨_,⟨t1,h1⟩,h2⟩:=r
   obtain⟨a,b⟩:=p
   have he:(PySem.strKind P w).is k e.key=(a==k):=by rw[h1];rfl
   rw[List.find?_cons,he,Qe]
   by_cases q:a=k
   ·subst q
    simp[h2]
   ·have hn:(a==k)=false:=by simpa using q
    have hn':(k==a)=false:=by simpa using fun z:k=a=>q z.symm
    rw[hn,hn']
    exact Yml t
def Yn7(kvs:List (Str × Bool)):D->Option D
 | .str k=>(kvs.lookup k).map D.bl
 | _=>none
def Ysl(kvs:List (Str × Bool)):D->Option D
 | .str k=>some (match kvs.lookup k with
   | some b=>.bl b
   | none=>.non)
 | _=>none
section
variable {X:Cx} {ke:Expr} {fk:Ro->Option D} {pos px apos cpos:Pos} {x:Str} {kvs:List (Str × Bool)}
theorem Ysm(g:GDB X.K X.w X.mg x kvs)(hg:Gl X x)(hk:ZC X ke fk)(hs:NoSl ke:=by intro _ _;rfl)(hd:(x==("__debug__":Str))=false:=by decide):ZE X (.Subscript (.Name x px) ke pos) (b1 fk (Yn7 kvs)):=by
 obtain⟨p,o,es,ep,hm,hp,hl,hx,hdt,hse⟩:=g
 refine⟨fun pins s σ H Q I hx_=>?_⟩
 obtain⟨ρ,d,H0,G0,G,e,sr,h⟩:=hx_
 obtain⟨dk,h1,h2⟩:=Ybn e
 refine Yo0 PySem.F.slot_dict_getitem.lookup hs (Yd4 I hg hm ?_ hd)
 refine thn (hk.un pins s σ H (fun(v':V) (H':Hp)=>∃k r,v'=.str k/\kvs.lookup k=some r/\Q (.bl r) H') I (tCof.at h1 sr fun v H1 G1 g1 r1 s1=>?_)) fun iv s2 q0=>?_
 ·unfold Yn7 at h2
  split at h2
  ·rename_i k
   obtain⟨r,h3,rfl⟩:=qc h2
   rw[Ct]at r1
   exact⟨k,r,r1.1,h3,h _ H1 G1 g1 (by rw[Rp])⟩
  ·cases h2
 ·obtain⟨y,H2,I2,ry,k,r,rfl,h3,q⟩:=q0
  obtain⟨t,rfl⟩:=ry
  have ho:s2.heap.get? p=some o:=I2.kIn p o hl
  have f1:=Yml (P:=X.prog) (k:=k) hse
  rw[h3]at f1
  refine⟨⟨o,ho,hx.1⟩,wpAny_getItem_of (knd:=PySem.strKind X.prog X.w) (k:=k) (f:=fun k=>findBy (PySem.strKind X.prog X.w).is es k) (v:=.bool r) (by simp[PySem.strKind,Value.isStrOf]) ⟨o,es,ep,ho,hx,hdt,?_,fun _=>rfl⟩ ?_ ⟨.bl r,H2,I2.tok _,rfl,q⟩⟩
  ·intro e'' he
   exact Ygi hse.keys e'' (by simpa using he)
  ·show(es.find? fun e=>(PySem.strKind X.prog X.w).is k e.key).map (·.val)=_
   rw[<-Array.find?_toList,f1]
   rfl
theorem Yn8(g:GDB X.K X.w X.mg x kvs)(hg:Gl X x)(hk:ZC X ke fk)(hd:(x==("__debug__":Str))=false:=by decide)(hb:attributeBase (.Name x px) "get" X.env (eval (.Name x px) X.env)=eval (.Name x px) X.env:=by rfl)
 (hfew:((backTo cpos (starEach [ke] X.env)).all (fun x=>!x.1)&&(backToKw cpos (keywordEach [] X.env)).all (fun x=>x.1.isSome)&&decide (([ke]:List Expr).length+([]:List Keyword).length+(if ([]:List Keyword).isEmpty then 0 else 1) < 30))=true:=by rfl)
 (hline:(apos.endLine==cpos.line)=true:=by rfl) (ht:backTo cpos (starEach [ke] X.env)=[(false,eval ke X.env)]:=by rfl):ZE X (.Call (.Attribute (.Name x px) "get" apos) [ke] [] cpos) (b1 fk (Ysl kvs)):=by
 obtain⟨p,o,es,ep,hm,hp,hl,hx,hdt,hse⟩:=g
 refine⟨fun pins s σ H Q I hx_=>?_⟩
 obtain⟨ρ,d,H0,G0,G,e,sr,h⟩:=hx_
 obtain⟨dk,h1,h2⟩:=Ybn e
 have ho1:s.heap.get? p=some o:=I.kIn p o hl
 refine wpAny_Call_method hb hfew hline PySem.F.plainAttrs_dict PySem.F.slot_dict_get PySem.F.type_dict_get (Yd4 I hg hm ?_ hd)
 refine⟨⟨o,ho1,hx.1⟩,fun r hr=>?_,?_⟩
 ·cases hr
  exact⟨o,ho1,hx.2.1⟩
 rw[ht]
 refine wpAny_dict_get1 (knd:=PySem.strKind X.prog X.w) hp (thn (hk.un pins s σ H (fun(v':V) (H':Hp)=>∃k,v'=.str k/\Q (match kvs.lookup k with | some b=>.bl b | none=>.non) H') I (tCof.at h1 sr fun v H1 G1 g1 r1 s1=>?_)) fun iv s2 q0=>?_)
 ·unfold Ysl at h2
  split at h2
  ·rename_i k
   cases h2
   rw[Ct]at r1
   refine⟨k,r1.1,h _ H1 G1 g1 ?_⟩
   cases kvs.lookup k<;>rw[Rp]
  ·cases h2
 ·obtain⟨y,H2,I2,ry,k,rfl,q⟩:=q0
  obtain⟨t,rfl⟩:=ry
  have ho:s2.heap.get? p=some o:=I2.kIn p o hl
  have f1:=Yml (P:=X.prog) (k:=k) hse
  refine⟨k,fun k=>findBy (PySem.strKind X.prog X.w).is es k,by simp[PySem.strKind,Value.isStrOf],⟨o,es,ep,ho,hx,hdt,fun e'' he=>Ygi hse.keys e'' (by simpa using he),fun _=>rfl⟩,?_⟩
  have f2:findBy (PySem.strKind X.prog X.w).is es k=(kvs.lookup k).map Value.bool:=by
   show(es.find? fun e=>(PySem.strKind X.prog X.w).is k e.key).map (·.val)=_
   rw[<-Array.find?_toList,f1]
  refine⟨_,H2,I2.tok _,?_,q⟩
  show RelV _ ((findBy (PySem.strKind X.prog X.w).is es k).getD .none)
  rw[f2]
  cases kvs.lookup k<;>rfl
def tabD(kt:List (Addr × List Str)):D->Option (List D)
 | .adr p=>(kt.lookup p).map fun ss=>ss.map D.str
 | _=>none
theorem Yut{tg e:Expr}{fa:Ro->Option D}{kt:List (Addr × List Str)}(hk:KTs X.K kt)(ha:ZE X e fa):ZI X tg e (b1 fa (tabD kt)):=⟨PI.imp (y3p ha.un) fun σ H R hx_=>by
 obtain⟨ρ,ds,H0,G0,G,er,s,h⟩:=hx_
 obtain⟨y,h1,h2⟩:=Ybn er
 refine tOf.at h1 s fun v H1 G1 g1 r1 s1=>?_
 cases y with
 | adr q=>
   obtain⟨ss,h3,rfl⟩:=qc (show(kt.lookup q).map (fun ss=>ss.map D.str)=some ds from h2)
   rw[Rp]at r1
   subst r1
   obtain⟨o,its,n,k1,k2,k3,k4,k5⟩:=hk.at h3
   obtain⟨sv,sok⟩:=Yn6 k5
   have sq:∀H',SqT X.K H' q (ss.map V.str):=fun H'=>.inr ⟨o,its,n,k1,k2,k3,k4,sv⟩
   have hlen:ss.length<=sizeLine:=by
    have h9:=sv.length
    rw[qf]at h9
    rw[h9,qj]
    exact k4
   refine⟨q,rfl,⟨_,sq H1⟩,h _ H1 G1 g1 (Ysh (by rw[qf];exact hlen) fun i H2 G2 e1 e2=>⟨fun d hd=>?_,fun hi=>⟨_,sq H2,by rw[qf]at hi ⊢;exact hi⟩⟩)⟩
   rw[Qa]at hd
   obtain⟨k,hk',rfl⟩:=qc hd
   have hx:(ss.map V.str)[i]?=some (.str k):=by rw[Qa,hk'];rfl
   refine⟨⟨_,_,sq H2,hx⟩,fun v H3 qq=>?_⟩
   obtain⟨rfl,qq⟩:=qq
   have hv:=qq _ (sq _)
   rw[hx]at hv
   cases hv
   refine⟨rfl,?_⟩
   rw[Rp]
   exact⟨rfl,sok k (List.mem_of_getElem? hk')⟩
 | _=>cases h2⟩
end
end
section
variable {K:W.Frag}
abbrev rks:List Str:=["words","place"]
structure RI where
 C:Addr
 dx:Addr
 wv:V
 ws:List Str
def rdH(K:W.Frag)(z:RI):Hid Int:=⟨fun n=>.ins z.C z.dx (rks.zip [z.wv,.int n]),fun G=>W.nsIn K mainGlobals "Reader"=some (some (.ref z.C))/\Rp K G (.lst (z.ws.map D.str)) z.wv,fun s h=>⟨h.1,h.2.mono s⟩⟩
def rdD(ws:List Str)(n:Int):D:=.obj "Reader" rks [.lst (ws.map D.str),.int n]
theorem y7n{z:RI}{l:Addr}{n:Int}{G:Hp}(hl:G l=none)(h:(rdH K z).side G):Rp K (upd G l ((rdH K z).rep n)) (rdD z.ws n) (.ref l):=by
 have sm:Same G (upd G l ((rdH K z).rep n)):=fun b o e=>by rw[Yn (y7 e hl)];exact e
 unfold rdD
 rw[Rp]
 exact⟨l,z.C,z.dx,[z.wv,.int n],rfl,h.1,Yq,rfl,.cons (h.2.mono sm) (.one (by rw[Rp]))⟩
section
variable {X:Cx} {l:Addr} {z:RI} {e:Expr} {pos:Pos} {P:Program} {w:World} {mg:Str->Option Value} {base:Heap}
theorem Yq7(i:Nat){f:Ro->Option D}(h:ZE X e f):ZTS X (rdH X.K z) l (.Return (some e) pos) (retZ (rdD z.ws) l i f):=Yyb i y7n h
def incR(l i:Nat):TmV Int:=fun ρ t=>match ρ[i]? with
 | some (some (.sh (.adr l')))=>if l'=l then some (.nx ρ (t+1))else none
 | _=>none
theorem y2j(i:Nat){x:Str}{p1 p2 tpos:Pos}{j}(k:CF X.K "Reader" "place")(hN:X.N[i]?=some x:=by rfl)(hv:Vis X.env.scope x:=by first | exact Or.inl rfl | exact Or.inr (Or.inl rfl) | exact Or.inr (Or.inr rfl))
 (hd:(x==("__debug__":Str))=false:=by decide) (hcd:(x==("__classdict__":Str))=false:=by decide):ZTS X (rdH X.K z) l (.AugAssign (.Attribute (.Name x p1) "place" tpos) .Add (.Constant (.int 1) j p2) pos) (incR l i):=
 ⟨PS.imp (Ytc (Yd3 hN hv hd hcd) Yqh y3x) fun F σ H hx_=>by
  obtain⟨ρ,t,out,H0,G0,G,er,w,q⟩:=hx_
  unfold incR at er
  split at er
  ·rename_i l' hi
   split at er
   ·rename_i hll
    subst hll
    cases er
    obtain⟨v,q1,q2⟩:=w.sr.sh i _ hi
    rw[Rp]at q2
    subst q2
    obtain⟨c1,c2⟩:=k _ w.sd.1
    refine⟨_,q1,l',z.C,z.dx,_,.int t,rfl,w.at,c1,c2,rfl,t,1,rfl,rfl,z.dx,_,w.at,by show 2 < 1000;decide,?_⟩
    exact q σ _ G _ (Off.put l' H0 _) (w.put (t+1))
   ·cases er
  ·cases er⟩
theorem Ybu(i:Nat){j k:Nat}{m y:Str}{ps:List Str}{g:RI->List D->Int->Option (D × Int)}{q apos:Pos}{pl:Sem Bool}(O:Okm X.prog X.w X.K X.mg X.base j "Reader" m ps (spV (rdH X.K) X.K 1 true g))(hr:Room k X.A)(hm:m∉rks:=by decide)(hj:j<=k:=by first | exact qu _ | lia)
 (hi:X.N[i]?=some y:=by rfl) (hv:Vis X.env.scope y:=by first | exact Or.inl rfl | exact Or.inr (Or.inl rfl) | exact Or.inr (Or.inr rfl)) (hd:(y==("__debug__":Str))=false:=by decide) (hcd:(y==("__classdict__":Str))=false:=by decide)
 (ht:eval (.Call (.Attribute (.Name y q) m apos) [] [] pos) X.env=(do
  let ov <-eval (.Name y q) X.env
  standAt apos.atName
  let (f,first) <-holding [ov] (getMethod ov m pl)
  callWith pos f first (backTo pos (starEach [] X.env)) (backToKw pos (keywordEach [] X.env))):=by rfl) :
 ZWE X (rdH X.K z) l (.Call (.Attribute (.Name y q) m apos) [] [] pos) (y3 l i (Yau aNil (g z))):=by
 obtain⟨C,f,fd,F,hb,hn,cl,me⟩:=O
 refine⟨PE.imp (Yqi (E:=E0) (Yd3 hi hv hd hcd) cl me F (hr.mono hj) hb .nil Yl7 ht) fun σ H Q hx_=>?_⟩
 obtain⟨ρ,t,d,t',H0,G0,G,er,w,kk⟩:=hx_
 obtain⟨hi',er⟩:=Yha er
 obtain⟨ds,h1,h2⟩:=qa er
 cases h1
 obtain⟨v,q1,q2⟩:=w.sr.sh i _ hi'
 rw[Rp]at q2
 subst q2
 have hC:z.C=C:=by
  have:=w.sd.1
  rw[hn]at this
  cases this
  rfl
 have hat:H l=some (.ins C z.dx (rks.zip [z.wv,.int t])):=by rw[<-hC];exact w.at
 refine⟨_,q1,l,z.dx,_,rfl,hat,Ypj hm,?_⟩
 exact⟨rfl,z,l,[],[],t,d,t',G,rfl,w.sr.seen,w.no,w.at,w.seen,.nil,h2,fun v H' G' keep hl' sm sm' nn rd=>kk v H' G' _ (Off.put l H0 _) (w.after keep hl' sm sm' nn) sm rd⟩
theorem okmv{x q:Str}{st:Stmt}{k n:Nat}{N ps:List Str}{g:RI->Addr->TmV Int}(F:Mq K "Reader" x q st)(S:FnScope N ps (defScope st))(hb:∀{z:RI} {l:Addr} {f:Addr} {cdv:Value} {A:Around} {outer:List Env} {s:Shared} {H:Hp} {E:XK},Room k (A.deeper (envOfC q (defScope st) s.heap.objs.size f cdv))->ZTB (cxOf CX0 P w K mg base N q (defScope st) f cdv A outer s H E).nox (rdH K z) l (defBody st) (g z l))(hn:N.length=n:=by rfl)(hm:ps.length=1:=by rfl)
 (B:Bnm x q st ps:=by(intro _ _ _ _ _ _ us hl;obtain⟨_,rfl⟩:=len1 hl;rfl)):Okm P w K mg base (k+1) "Reader" x ps (spV (rdH K) K 1 true fun z=>runV true n (g z)):=by
 obtain⟨C,f,fd,a,cl,me,fu⟩:=F
 exact⟨C,f,fd,Yun fu S hn hm fun _ _ _ _ _ _ _ _ hr=>hb hr,fu.binds B,a,cl,me⟩
def spR(K:W.Frag)(f2:Ro->Option D):Sp:=fun vs H Q _=>vs.length=2/\∃x C dx vb b d2 G,vs=[.ref x,vb]/\W.nsIn K mainGlobals "Reader"=some (some (.ref C))/\H x=some (.ins C dx [])/\G x=none/\Same G H/\Rp K G b vb/\f2 [some (.sh (.adr x)),some (.sh b)]=some d2/\
 ∀y1 H' G',(∀y o,y≠x->H y=some o->H' y=some o)->H' x=some (.ins C dx (rks.zip [y1,.int 0]))->G' x=none->Same G G'->Same G' H'->(∀y,G y=none->G' y≠none->H y=none)->Rp K G' d2 y1->Q .non H'
theorem Yyk{st:Stmt}{f:Addr}{fd:FuncData}{N:List Str}{k:Nat}{x q:Str}{ps:List Str}{f2:Ro->Option D}(F:Fun K x q st f fd)(S:FnScope N ps (defScope st))(hn:N.length=2)(hp:ps.length=2)
 (k1:CF K "Reader" "words") (k2:CF K "Reader" "place")
 (hb:∀(cdv:Value) (A:Around) (outer:List Env) (s:Shared) (H:Hp) (E:XK),Room k (A.deeper (envOfC q (defScope st) s.heap.objs.size f cdv))->PSs (cxOf CX0 P w K mg base N q (defScope st) f cdv A outer s H E).nox (defBody st) (tSeq (sFld K (tVar 0) (tOf K f2) "words") (sFld K (tVar 0) (tC (.int 0)) "place"))) :
 FnOk P w K mg base CX0 (k+1) f fd ps (spR K f2):=by
 refine F.ok S (fun vs H Q E h=>by rw[h.1,hp]) fun cdv A outer s H vs Q E hr h=>?_
 obtain⟨hl,x,C,dx,vb,b,d2,G,rfl,n,hx,gx,sm,rb,e2,q⟩:=h
 refine⟨_,hb cdv A outer s H E hr,?_⟩
 have r:RpL K G [.adr x,b] [V.ref x,vb]:=.cons (by rw[Rp]) (.one rb)
 have s0:SR K H G (start N [V.ref x,vb]) H G [some (.sh (.adr x)),some (.sh b)]:=by
  have:=SR.start (N:=N) sm r
  rw[hn]at this
  exact this
 have self:∀{σ:L2.St} {Ha Ga Hb Gb:Hp},SR K Ha Ga σ Hb Gb [some (.sh (.adr x)),some (.sh b)]->σ[0]?=some (some (V.ref x)):=fun s=>by
  obtain⟨v,q1,q2⟩:=s.sh 0 _ rfl
  rw[Rp]at q2
  rw[q1,q2]
 refine tOf.at e2 s0 fun y1 H2 G2 g2 r2 s2=>?_
 have w2:WR K x (.ins C dx []) H G _ H2 G2 _:=⟨s2,gx,hx⟩
 refine⟨_,self s2,x,C,dx,[],rfl,w2.at,(k1 C n).1,(k1 C n).2,by decide,?_⟩
 have w3:=w2.put (.ins C dx (putF "words" y1 []))
 refine⟨_,self w3.sr,x,C,dx,_,rfl,w3.at,(k2 C n).1,(k2 C n).2,by show 1 < 1000;decide,?_⟩
 have w4:=w3.put (.ins C dx (putF "place" (.int 0) (putF "words" y1 [])))
 refine q y1 _ G2 (fun y o hy ho=>?_) ?_ w4.no g2.g w4.sr.seen (fun y hy hy'=>?_) r2
 ·rw[Yn hy,Yn hy]
  exact s2.gr.h y o ho
 ·rw[Yq]
  rfl
 ·exact s2.gr.n y hy hy'
def Iqr(K:W.Frag)(st:Stmt):Prop:=∃C f fd,W.nsIn K mainGlobals "Reader"=some (some (.ref C))/\Mk K C f/\Fun K "__init__" "Reader.__init__" st f fd
theorem iqr_mk{K:W.Frag}{st:Stmt}{C f:Addr}{oc:Value}{od an:Option Addr}{osl:Array (Option Value)}{kV doc pm cdv ct:Value}(a:W.nsIn K mainGlobals "Reader"=some (some (.ref C)))(mk:W.makesIn K C=true)(kc:W.keepIn K (.ref C)=true)
 (i:W.findIn K (.ref C) "__init__"=some (some (.ref f))) (n:W.isFn K (.ref f)=true) (l:K.lookup f=some ⟨oc,od,.func (W.fnOf "__init__" "Reader.__init__" (defArgs st) (defBody st) (defScope st) .none kV doc pm an cdv ct),osl⟩) (cd:W.codeIn K cdv "Reader.__init__"=true) (k:W.keepIn K (.ref f)=true):Iqr K st:=
 ⟨C,f,_,a,⟨mk,i,n,kc⟩,Yql l cd k⟩
def OkRd(P:Program)(w:World)(K:W.Frag)(mg:Str->Option Value)(base:Heap)(k:Nat)(ps:List Str)(f2:Ro->Option D):Prop:=
 ∃C f fd,W.nsIn K mainGlobals "Reader"=some (some (.ref C))/\mg "Reader"=some (.ref C)/\Mk K C f/\FnOk P w K mg base CX0 k f fd ps (spR K f2)/\Binds K fd ps []
theorem okir{st:Stmt}{k:Nat}{N ps:List Str}{f2:Ro->Option D}(F:Iqr K st)(hW:∀C,W.nsIn K mainGlobals "Reader"=some (some (.ref C))->mg "Reader"=some (.ref C))(S:FnScope N ps (defScope st))(k1:CF K "Reader" "words")(k2:CF K "Reader" "place")
 (hb:∀{f:Addr} {cdv:Value} {A:Around} {outer:List Env} {s:Shared} {H:Hp} {E:XK},Room k (A.deeper (envOfC "Reader.__init__" (defScope st) s.heap.objs.size f cdv))->PSs (cxOf CX0 P w K mg base N "Reader.__init__" (defScope st) f cdv A outer s H E).nox (defBody st) (tSeq (sFld K (tVar 0) (tOf K f2) "words") (sFld K (tVar 0) (tC (.int 0)) "place"))) (hn:N.length=2:=by rfl) (hm:ps.length=2:=by rfl)
 (B:Bnm "__init__" "Reader.__init__" st ps:=by(intro _ _ _ _ _ _ us hl;obtain⟨_,_,rfl⟩:=len2 hl;rfl)):OkRd P w K mg base (k+1) ps f2:=by
 obtain⟨C,f,fd,a,mk,fu⟩:=F
 exact⟨C,f,fd,a,hW C a,mk,Yyk fu S hn hm k1 k2 fun _ _ _ _ _ _ hr=>hb hr,fu.binds B⟩
end
end
section
variable {K:W.Frag}
theorem SR.hideI{x C dx:Addr}{fs:List (Str × V)}{H0 G0 H G:Hp}{σ:L2.St}{ρ:Ro}(s:SR K H0 G0 σ H G ρ)(h:H x=some (.ins C dx fs))(g:G x=none):SR K (upd H0 x (.ins C dx fs)) G0 σ H G ρ:=by
 refine⟨⟨fun a o ho=>?_,s.gr.g,s.gr.s,fun a ha ha'=>?_⟩,s.len,s.sh,fun j m em=>?_,s.ap,fun j t ks vs em=>?_,s.apd⟩
 ·by_cases z:a=x
  ·subst z;rw[Yq]at ho;rw[<-ho];exact h
  ·rw[Yn z]at ho;exact s.gr.h a o ho
 ·have n1:a≠x:=fun z=>ha' (by rw[z];exact g)
  rw[Yn n1]
  exact s.gr.n a ha ha'
 ·obtain⟨a,ys,z1,z2,z3,z4,z5⟩:=s.ow j m em
  have n1:a≠x:=fun z=>by rw[z,h]at z4;cases z4
  exact⟨a,ys,z1,z2,by rw[Yn n1];exact z3,z4,z5⟩
 ·obtain⟨a,kxs,vxs,z1,z2,z3,z4,z5⟩:=s.od j t ks vs em
  have n1:a≠x:=fun z=>by
   subst z
   rcases z4 with⟨_,kvs,e,_⟩ | ⟨_,nks,ep,e,_⟩
   ·rw[h]at e;cases e
   ·rw[h]at e;cases e
  exact⟨a,kxs,vxs,z1,z2,by rw[Yn n1];exact z3,z4,z5⟩
def Yyl(i:Nat)(f2 a1:Ro->Option D)(g:List Str->Addr->TmV Int):Ro->Option Out:=fun ρ=>(a1 ρ).bind fun b=>(f2 [none,some (.sh b)]).bind fun
 | .lst l=>(Yk6 l).bind fun ws=>(runG (fun l=>g ws l (ρ.set i (some (.sh (.adr l))))) 0).map fun p=>.rt p.1
 | _=>none
section
variable {X:Cx} {e1:Expr} {a1 f2:Ro->Option D} {pos:Pos} {sts:List Stmt}
theorem Ysn(i:Nat){k k':Nat}{ps:List Str}{y:Str}{p1 p2 cpos:Pos}{g:List Str->Addr->TmV Int}(O:OkRd X.prog X.w X.K X.mg X.base k ps f2)(hf2:∀b d,f2 [none,some (.sh b)]=some d->∀x,f2 [some (.sh (.adr x)),some (.sh b)]=some d)
 (hr:Room k' X.A) (hg:Gl X "Reader") (h1:ZE X e1 a1) (hN:X.N.Nodup) (rest:∀(z:RI) l,ZTB X (rdH X.K z) l sts (g z.ws l)) (hk:k+1<=k':=by first | exact qu _ | lia)
 (hy:X.N[i]?=some y:=by rfl) (hx:Loc X.env.scope y:=by first | exact Or.inl rfl | exact Or.inr rfl) (hse:swapsWith (.Call (.Name "Reader" p2) [e1] [] cpos) (some (.Name y p1)) pos.line X.env=pure false:=by rfl) (hf:X.fn y=true\/X.env.scope.names.lookup y=some .local:=by first | exact .inl rfl | exact .inr rfl)
 (hs1:starEach [e1] X.env=(false,eval e1 X.env)::starEach [] X.env:=by rfl) (hpl:(backTo cpos (starEach [] X.env)).any (·.1)=false:=by rfl) :
 ZB X (.Assign [.Name y p1] (.Call (.Name "Reader" p2) [e1] [] cpos) pos::sts) (Yyl i f2 a1 g):=by
 obtain⟨C,f,fd,hC,hm,mk,F,hb⟩:=O
 have hrest:PSs X sts fun F σ H=>∃z l,sOfZ (rdH X.K z) X.K l (g z.ws l) F σ H:=fun pins s σ H D I h=>by
  obtain⟨z,l,h⟩:=h
  exact(rest z l).un pins s σ H D I h
 refine⟨PSs.imp (Ydg (Ylk hN hy hx (Yte (E:=E0) mk F (hr.mono hk) hg hm hb .nil Yl7 (Ybb h1.un Yd5 hs1) (by decide) hs1 hpl) hse hf) hrest) fun F σ H hx_=>?_⟩
 obtain⟨ρ,out,H0,G0,G,e,s,c⟩:=hx_
 unfold Yyl at e
 obtain⟨b,q1,e⟩:=qa e
 obtain⟨d2,q2,e⟩:=qa e
 split at e
 case h_2=>cases e
 rename_i L
 obtain⟨ws,q3,e⟩:=qa e
 obtain⟨⟨d,t'⟩,q4,e⟩:=qc e
 subst e
 cases Ygg q3
 refine tOf.at q1 s fun v1 Ha Ga ga ra sa=>?_
 intro x dx hx0 hdx hne
 have gax:Ga x=none:=sa.seen.free hx0
 have smc:Same Ga (upd (upd Ha dx (.own x)) x (.ins C dx [])):=fun a o ho=>by
  have h1:a≠x:=fun z=>by rw[z,gax]at ho;cases ho
  have h2:a≠dx:=fun z=>by rw[z,sa.seen.free hdx]at ho;cases ho
  rw[Yn h1,Yn h2]
  exact sa.seen a o ho
 refine⟨rfl,x,C,dx,v1,b,.lst (ws.map D.str),Ga,rfl,hC,Yq,gax,smc,ra,hf2 b _ q2 x,fun y1 H' G' keep hx' gx' g1 g2 g3 r1=>⟨rfl,?_⟩⟩
 have hHa:Same H Ha:=ga.h
 have hHx:H x=none:=hHa.free hx0
 have hHdx:H dx=none:=hHa.free hdx
 have smH:Same H H':=fun a o ho=>by
  have n1:a≠x:=fun z=>by rw[z,hHx]at ho;cases ho
  have n2:a≠dx:=fun z=>by rw[z,hHdx]at ho;cases ho
  exact keep a o n1 (by rw[Yn n1,Yn n2];exact hHa a o ho)
 have gr:Gr H G H' G':=⟨smH,ga.g.trans g1,g2,fun a ha ha'=>by
  cases z:Ga a with
  | none=>
    have h3:=g3 a z ha'
    have n1:a≠x:=fun y=>ha' (by rw[y];exact gx')
    rw[Yn n1]at h3
    by_cases n2:a=dx
    ·rw[n2];exact hHdx
    ·rw[Yn n2]at h3
     exact hHa.free h3
  | some o=>exact ga.n a ha (by rw[z];exact fun y=>nomatch y)⟩
 have s2:=(s.grow gr).set_sh i (d:=.adr x) (v:=.ref x) (by rw[Rp])
 have hH0x:H0 x=none:=s.gr.h.free hHx
 have hG0x:G0 x=none:=s2.gr.g.free gx'
 have s3:=s2.hideI hx' gx'
 obtain⟨Hb,s4,hbx,back⟩:=s3.rebaseW gx' Yq
 refine⟨⟨C,dx,y1,ws⟩,x,_,0,.rt d t',Hb,G',G',Yn4 q4 x,⟨s4,gx',hbx,hC,r1⟩,fun v H4 G4 H5 f5 h5 g5 r5=>?_⟩
 have g6:=(back H5 [] H4 G4 [] f5 (SR.mkSh g5 rfl (fun i d e=>(by simp at e)) (fun i l e=>(by simp at e)) (fun i t ks vs e=>(by simp at e)))).gr
 refine c v H4 G4 ⟨fun a o ho=>g6.h a o ?_,g6.g,g6.s,fun a ha ha'=>?_⟩ r5
 ·have n1:a≠x:=fun z=>by rw[z,hH0x]at ho;cases ho
  show(if a=x then H5 x else upd H0 x _ a)=some o
  rw[if_neg n1,Yn n1]
  exact ho
 ·have h6:(if a=x then H5 x else upd H0 x (.ins C dx (rks.zip [y1,.int 0])) a)=none:=g6.n a ha ha'
  by_cases z:a=x
  ·rw[z];exact hH0x
  ·rw[if_neg z,Yn z]at h6
   exact h6
end
def Yq8{τ:Type}(gl:Ro->Option (List D))(src:List (Option Nat))(gt:D->Ro->Option Ro)(fe:TeV τ):TaV τ:=fun ρ t=>(gl ρ).bind fun ds=>Yg9 gt fe (capR src ρ) ds t
section
variable {τ:Type} {Z:Hid τ} {X:Cx} {l:Addr} {elt tg iter:Expr} {scope:Scope} {N:List Str} {src:List (Option Nat)} {gt:D->Ro->Option Ro} {gl:Ro->Option (List D)} {fe:TeV τ} {pos:Pos}
theorem Yym{K:W.Frag}(hle:∀ρ d ρ1,gt d (capR src ρ)=some ρ1->Le (capR src ρ) ρ1){σ:L2.St}{H:Hp}{Q:VK}
 (h:tWF Z K l (Yq8 gl src gt fe) σ H Q):tLC (tIof K gl) src (gOf K gt) (tTof K tY) (tWE Z K l fe) σ H Q:=by
 obtain⟨ρ,t0,dsR,t',H0,G0,G,er,w,k⟩:=h
 obtain⟨ds,h1,h2⟩:=qa er
 refine⟨ρ,ds,H0,G0,G,h1,w.sr,fun J H1 G1 g1 wk=>?_⟩
 have w1:=w.grow g1
 have fa1:Off l H0 H0:=Off.rfl'
 have sm1:=g1.g
 intro p hp
 have hpl:p≠l:=fun z=>by rw[z,w1.at]at hp;cases hp
 have gp:G1 p=none:=w1.sr.seen.free hp
 have noow:∀(i:Nat) l,(capR src ρ)[i]?≠some (some (B.ow l)):=fun i l h=>by
  unfold capR at h
  rw[Qa]at h
  obtain⟨o,h1,h2⟩:=qc h
  obtain⟨j,rfl,h3⟩:=qa h2
  split at h3<;>cases h3
 have nood:∀(i:Nat) t ks vs,(capR src ρ)[i]?≠some (some (B.od t ks vs)):=fun i t ks vs h=>by
  unfold capR at h
  rw[Qa]at h
  obtain⟨o,h1,h2⟩:=qc h
  obtain⟨j,rfl,h3⟩:=qa h2
  split at h3<;>cases h3
 have sc:=w1.sr.cap src
 refine⟨fun i m σ' H'=>m=ds.length - i/\i<=ds.length/\∃G' done xs rest tt Hc,Off l H1 Hc/\WZ Z K l tt Hc G1 σ' H' G' (capR src ρ)/\H' p=some (.lst xs)/\G' p=none/\RpL K G' done xs/\xs.length<=i/\Yg9 gt fe (capR src ρ) (ds.drop i) tt=some (rest,t')/\done++rest=dsR,
  ⟨_,rfl,Nat.zero_le _,G1,[],[],dsR,t0,H1,Off.rfl',⟨sc.grow (Gr.hid w1.sr.seen hp _),w1.no,w1.at,w1.seen⟩,Yq,gp,.nil,Nat.zero_le _,h2,rfl⟩,?_⟩
 rintro i m σ' H' ⟨rfl,hi,G',done,xs,rest,tt,Hc,fc,w',hx,gx,rx,hl,e',hd⟩
 have W:=wk.2 i H' G' w'.sr.gr.g w'.sr.seen
 have hcp:Hc p=none:=by rw[fc p hpl];exact hp
 by_cases hlt:i < ds.length
 ·have hdi:ds[i]?=some ds[i]:=qr hlt
  obtain⟨go,yl⟩:=W.1 _ hdi
  rw[Ql hlt,Yg9]at e'
  obtain⟨ρ1,e1,e'⟩:=qa e'
  obtain⟨⟨v,t2⟩,e2,e'⟩:=qa e'
  obtain⟨⟨rest',t3⟩,e3,e4⟩:=qc e'
  cases e4
  refine .inr ⟨go,fun x H2 y=>?_⟩
  obtain⟨G2,g2,r2⟩:=yl x H2 y
  have w2:=w'.grow g2
  have hx2:H2 p=some (.lst xs):=g2.h _ _ hx
  have gx2:G2 p=none:=Ycv g2 hx gx
  have s2b:SR K H2 G2 σ' H2 G2 (capR src ρ):=SR.mkSh (Gr.refl w2.sr.seen) w2.sr.len w2.sr.sh noow nood
  refine⟨_,capR src ρ,ρ1,H2,G2,G2,e1,s2b,r2,fun σ3 s3=>?_⟩
  refine tTof.at (b:=true) rfl s3 fun H4 G4 g4 s4=>?_
  have le:=hle ρ _ ρ1 e1
  rw[if_pos rfl]
  refine⟨ρ1,tt,v,t2,H2,G2,G4,e2,⟨s4,w2.no,w2.at,w2.seen⟩,fun vv H5 G5 Hd fd w5 sm5 r5=>?_⟩
  have hdp:Hd p=some (.lst xs):=by rw[fd p hpl];exact hx2
  have hx5:H5 p=some (.lst xs):=w5.sr.gr.h _ _ hdp
  have gx5:G5 p=none:=Ycv w5.sr.gr hdp gx2
  have hz:=wk.1
  have smg:Same G' G5:=g2.g.trans w5.sr.gr.g
  have s6:=w5.sr.le le
  refine⟨xs,hx5,by lia,ds.length - (i+1),by lia,rfl,hlt,G5,done++[v],xs++[vv],rest',t2,fun x=>if x=l then Hd l else Hc x,fun x hx=>?_,⟨SR.mkSh ⟨fun b o q=>?_,w'.sr.gr.g.trans smg,fun b o q=>?_,fun b q q'=>?_⟩ s6.len s6.sh noow nood,w1.no,?_,w1.seen⟩,Yq,gx5,(rx.mono smg).append (.one r5),by simp;lia,e3,by simpa using hd⟩
  ·show(if x=l then Hd l else Hc x)=_
   rw[if_neg hx];exact fc x hx
  ·change (if b=l then Hd l else Hc b)=some o at q
   by_cases z:b=l
   ·rw[if_pos z]at q
    have z2:b≠p:=fun y=>hpl (by rw[<-y,z])
    rw[Yn z2,z];exact w5.sr.gr.h _ _ q
   ·rw[if_neg z]at q
    have z2:b≠p:=fun y=>by rw[y,hcp]at q;cases q
    rw[Yn z2]
    exact w5.sr.gr.h _ _ (by rw[fd b z];exact g2.h _ _ (w'.sr.gr.h _ _ q))
  ·rw[Yn (y7 q gx5)];exact w5.sr.seen b o q
  ·show(if b=l then Hd l else Hc b)=none
   by_cases z3:G' b=none
   ·by_cases z4:G2 b=none
    ·have h6:=w5.sr.gr.n b z4 q'
     have z:b≠l:=fun z=>by rw[z,w5.h0]at h6;cases h6
     rw[if_neg z]
     rw[fd b z]at h6
     exact w'.sr.gr.h.free (g2.h.free h6)
    ·have h6:=g2.n b z3 z4
     have z:b≠l:=fun z=>by rw[z,w'.at]at h6;cases h6
     rw[if_neg z]
     exact w'.sr.gr.h.free h6
   ·have h6:=w'.sr.gr.n b q z3
    have z:b≠l:=fun z=>by rw[z,w'.h0]at h6;cases h6
    rw[if_neg z];exact h6
  ·show(if l=l then Hd l else Hc l)=_
   rw[if_pos rfl];exact w5.h0
 ·have ei:i=ds.length:=by lia
  subst ei
  rw[List.drop_length,Yg9]at e'
  cases e'
  rw[Qf]at hd
  subst hd
  have g9:Gr (upd H1 l (Z.rep t')) G1 H' G':=⟨fun x o ho=>by
   by_cases z:x=l
   ·subst z;rw[Yq]at ho;rw[<-ho];exact w'.at
   ·rw[Yn z]at ho;exact w'.sr.gr.h x o (by rw[fc x z];exact ho),w'.sr.gr.g,w'.sr.seen,fun x h h'=>by
   have h6:=w'.sr.gr.n x h h'
   have z:x≠l:=fun z=>by rw[z,w'.h0]at h6;cases h6
   rw[Yn z,<-fc x z];exact h6⟩
  exact .inl ⟨W.2 (qu _),k p xs H' G' _ (fa1.trans (Off.put l H0 _)) ((w1.put t').grow g9) (sm1.trans w'.sr.gr.g) hx gx rx⟩
theorem Yuu(S:CompSc X.N X.env.scope N src scope)(hc:X.calm=true)(hi:ZI X tg iter gl)(hg:∀cl C fp s H,ZG (Yak X scope N cl C fp s H) tg gt)(he:∀cl C fp s H,ZWE (Yak X scope N cl C fp s H) Z l elt fe)
 (hle:∀ρ d ρ1,gt d (capR src ρ)=some ρ1->Le (capR src ρ) ρ1) (hs:∀x,foldedSetIterable iter X.env x=pure x:=by intro _;rfl) :
 ZWF X Z l (.ListComp elt [⟨tg,iter,[],0⟩] scope pos) (Yq8 gl src gt fe):=
 ⟨PE.imp (Yo3 S hc hi.un (fun cl C fp s H=>(hg cl C fp s H).un) (fun _ _ _ _ _=>Yqp) (fun cl C fp s H=>(he cl C fp s H).un) hs) fun _ _ _ h=>Yym hle h⟩
end
end
section
variable {K:W.Frag}
abbrev OkT(P:Program)(w:World)(K:W.Frag)(mg:Str->Option Value)(base:Heap)(k n:Nat)(x:Str)(ps:List Str)(g:List D->List Int->Option (D × List Int)):Prop:=OkV (fun _:Unit=>tpH) P w K mg base k n true x ps fun _=>g
theorem Yar{X:Cx}{l:Addr}{es:List Expr}{ga:Ro->Option (List D)}{g:List D->List Int->Option (D × List Int)}{p q cpos:Pos}(i:Nat){j k n:Nat}{x y:Str}{ps:List Str}(c:OkT X.prog X.w X.K X.mg X.base j (n+1) x ps g)(hr:Room k X.A)(hg:Gl X x)(ha:ZA X es ga)(hl:∀ρ ds,ga ρ=some ds->ds.length=n)(hj:j<=k:=by first | exact qu _ | lia)
 (hi:X.N[i]?=some y:=by rfl) (hv:Vis X.env.scope y:=by first | exact Or.inl rfl | exact Or.inr (Or.inl rfl) | exact Or.inr (Or.inr rfl)) (hd:(y==("__debug__":Str))=false:=by decide) (hcd:(y==("__classdict__":Str))=false:=by decide)
 (hdb:(x==("__debug__":Str))=false:=by decide) (he:starEach (.Name y q::es) X.env=(false,eval (.Name y q) X.env)::starEach es X.env:=by rfl) (hpl:(backTo cpos (starEach es X.env)).any (·.1)=false:=by rfl) :
 ZWE X tpH l (.Call (.Name x p) (.Name y q::es) [] cpos) (y3 l i (Yau ga g)):=Yya (Zf:=fun _:Unit=>tpH) (z:=()) i c hr hg ha hl hj hi hv hd hcd hdb he hpl
theorem Yyn{τ ι:Type}{Zf:ι->Hid τ}{P:Program}{w:World}{mg:Str->Option Value}{base:Heap}{k n:Nat}{bb:Bool}{x q:Str}{ps:List Str}{st:Stmt}{a:Addr}{fd:FuncData}(F:Fun K x q st a fd)(b:Binds K fd ps [])(hm:mg x=some (.ref a)) :
 OkV Zf P w K mg base k n bb x ps (fun _ _ _=>none):=by
 have no:∀vs H Q E,¬spV Zf K n bb (fun _ _ _=>none) vs H Q E:=fun vs H Q E h=>by
  obtain⟨_,z,l,vs',ds,t,d,t',G,_,_,_,_,_,_,e,_⟩:=h
  cases e
 exact⟨a,fd,⟨fun vs H Q E h=>absurd h (no vs H Q E),fun A outer s H args us vs Q E _ _ _ _ h=>absurd h (no vs H Q E)⟩,b,F.kp,hm⟩
theorem Yd0{X:Cx}{l:Addr}{z:RI}{e:Expr}{g:RI->List D->Int->Option (D × Int)}{p q cpos:Pos}(i:Nat){j k:Nat}{x y:Str}{ps:List Str}{fa:Ro->Option D}(c:OkV (rdH X.K) X.prog X.w X.K X.mg X.base j 2 false x ps g)(hr:Room k X.A)(hg:Gl X x)(ha:ZE X e fa)(hj:j<=k:=by first | exact qu _ | lia)
 (hi:X.N[i]?=some y:=by rfl) (hv:Vis X.env.scope y:=by first | exact Or.inl rfl | exact Or.inr (Or.inl rfl) | exact Or.inr (Or.inr rfl)) (hd:(y==("__debug__":Str))=false:=by decide) (hcd:(y==("__classdict__":Str))=false:=by decide)
 (hdb:(x==("__debug__":Str))=false:=by decide) (he:starEach [e,.Name y q] X.env=(false,eval e X.env)::starEach [.Name y q] X.env:=by rfl) (he2:starEach [.Name y q] X.env=(false,eval (.Name y q) X.env)::starEach [] X.env:=by rfl) (hpl:(backTo cpos (starEach [.Name y q] X.env)).any (·.1)=false:=by rfl) :
 ZWE X (rdH X.K z) l (.Call (.Name x p) [e,.Name y q] [] cpos) (y3 l i (Yau (Yg fa aNil) (g z))):=Yul (Zf:=rdH X.K) (z:=z) i c hr hg ha hj hi hv hd hcd hdb he he2 hpl
end
section
def Exc(h:Heap)(ea T:Addr)(C fl:Value):Prop:=
 ∃oe vs oT ts,h.get? ea=some oe/\(oe.cls=C/\vs[2]?=some .none)/\oe.data=.fields vs/\vs[1]?=some (.ref T)/\T≠ea/\h.get? T=some oT/\oT.data=.fields ts/\ts[3]?=some fl
structure XStep(h h':Heap)(ea T:Addr)(fr:List Addr):Prop where
 keep:∀b o,h.get? b=some o->b≠ea->b≠T->b∉fr->h'.get? b=some o
 slot:∀b o,h.get? b=some o->b∈fr->∃sl,h'.get? b=some { o with slots:=sl }
section
variable {M:Model} {A:Around} {E:Value->Shared->Prop} {s:Shared} {env:Env} {outer:List Env} {L ea T:Addr} {C:Value} {base h h' h0:Heap} {Q:Unit->Shared->Prop} {P:Program} {w:World} {H H0:Hp} {fr fs ex:List Addr}
theorem Yuv{oe:Obj}{vs:Array Value}{head:Value}{had:Bool}(hfr:A.frames=some (env::outer))(ff:s.heap.FunFrames base (env::outer))(hf:env.frame=some L)(he:s.heap.get? ea=some oe)(hd:oe.data=.fields vs)(h2:vs[2]?=some .none)
 (hQ:∀h' T',Exc h' ea T' oe.cls (rawInt L)->s.heap.get? T'=none->XStep s.heap h' ea T' (frs (env::outer))->Q () { s with heap:=h' }) :
 wpAny M A (do let a <-frameOf env;let pl <-entryPlaceOf L had;let b <-EntryCells.newEntry head a .none (rawInt L) .none pl;setField (.ref ea) 1 b) Q E s:=by
 have hsz:1 < vs.size:=Nat.lt_of_succ_lt (Array.getElem?_eq_some_iff.mp h2).1
 have hne:ea∉frs (env::outer):=fun hm=>by
  obtain⟨_,o,ho,hn⟩:=ff.mem hm
  rw[he]at ho;cases ho;exact hn vs hd
 refine wpAny_bind (wpAny_frameOf_fun hfr ff hf fun h₁ hs=>?_)
 refine wpAny_bind (wpAny_entryPlaceOf fun pl hpl=>?_)
 unfold EntryCells.newEntry newFields
 refine wpAny_bind (wpAny_newObj_type ?_ (hpl.sizeOk5 _ _ _ _ _))
 have he₁:h₁.get? ea=some oe:=(hs.2.1 ea hne).trans he
 generalize hob:({ cls:=.type "traceback",dict:=none,data:=.fields ([head,.ref L,.none,rawInt L,.none]++(if pl.isEmpty then List.replicate 6 Value.none else pl)).toArray }:Obj)=ob
 have hTe:h₁.objs.size≠ea:=Nat.ne_of_gt (ql he₁)
 have he₂:=qe (h:=h₁) ob he₁
 refine wpAny_setField he₂ hd hsz (hQ _ h₁.objs.size ?_ (Heap.get?_none_of_le (by rw[hs.1];exact qu _)) ⟨fun b o e n1 n2 n3=>?_,fun b o e m=>?_⟩)
 ·have hd₃:=Obj.data_mapFields hd (·.setIfInBounds 1 (Value.ref h₁.objs.size))
  have hT:(h₁.push ob).get? h₁.objs.size=some ob:=qp h₁ (by rw[<-hob];rfl)
  refine⟨_,_,ob,_,Heap.get?_update_self _ he₂ (Obj.isFreed_of_fields hd₃),⟨Obj.cls_mapFields _ _,by rw[Array.getElem?_setIfInBounds_ne (by decide)];exact h2⟩,hd₃,by simp[hsz],hTe,(Heap.get?_update_other _ _ (Ne.symm hTe)).trans hT,by rw[<-hob],by first | (simp;done) | (rcases hpl with rfl | ⟨_,_,_,_,_,_,_,rfl⟩<;>simp)⟩
 ·rw[Heap.get?_update_other _ _ (Ne.symm n1)]
  exact qe _ ((hs.2.1 b n3).trans e)
 ·obtain⟨sl,q⟩:=hs.2.2 b o e
  refine⟨sl,?_⟩
  rw[Heap.get?_update_other _ _ (fun z=>hne (by rw[z];exact m))]
  exact qe _ q
theorem Yuw(hfr:A.frames=some (env::outer))(hf:env.frame=some L)(ff:s.heap.FunFrames base (env::outer))(x:Exc s.heap ea T C .none)
 (hQ:∀h' T',Exc h' ea T' C (rawInt L)->(T'=T\/s.heap.get? T'=none)->XStep s.heap h' ea T (frs (env::outer))->Q () { s with heap:=h' }):wpAny M A (noteFrame (.ref ea) env) Q E s:=by
 obtain⟨oe,vs,oT,ts,he,⟨rfl,h2⟩,hd,h1,hne,hT,hdT,h3⟩:=x
 unfold noteFrame
 simp only[hf]
 refine wpAny_bind (wpAny_field he hd h1 ?_)
 rw[if_pos (show(Value.ref T != Value.none)=true from by simp)]
 refine wpAny_bind (wpAny_field hT hdT h3 ?_)
 rw[if_neg (show ¬((Value.none==rawInt L)=true) from by simp[rawInt])]
 refine wpAny_bind (wpAny_setField hT hdT (Array.getElem?_eq_some_iff.mp h3).1 ?_)
 have other:∀b,b≠T->(s.heap.update T (Obj.mapFields (·.setIfInBounds 3 Value.none))).get? b=s.heap.get? b:=fun b hb=>Heap.get?_update_other _ _ (Ne.symm hb)
 have nT:∀b∈frs (env::outer),b≠T:=fun b hb z=>by
  obtain⟨_,o,ho,hn⟩:=ff.mem hb
  rw[z,hT]at ho;cases ho;exact hn ts hdT
 have ff':(s.heap.update T (Obj.mapFields (·.setIfInBounds 3 Value.none))).FunFrames base (env::outer):=ff.of_keeps fun b o hb hn=>⟨o,(other b fun z=>by rw[z,hT]at hb;cases hb;exact hn ts hdT).trans hb,rfl⟩
 refine Yuv hfr ff' hf ((other ea (Ne.symm hne)).trans he) hd h2 fun h' T' x' n st=>?_
 have nT':T'=T\/s.heap.get? T'=none:=by
  by_cases z:T'=T
  ·exact .inl z
  ·exact .inr ((other T' z).symm.trans n)
 refine hQ h' T' x' nT' ⟨fun b o e n1 n2 n3=>st.keep b o ((other b n2).trans e) n1 (fun z=>?_) n3,fun b o e m=>st.slot b o ((other b (nT b m)).trans e) m⟩
 rcases nT' with q | q
 ·exact n2 (z.trans q)
 ·rw[z,q]at e;cases e
theorem Yiz{l:List Env}{fl:Value}(x:Exc s.heap ea T C fl)
 (hQ:∀h',Exc h' ea T C .none->XStep s.heap h' ea T (frs l)->(∀b o,s.heap.get? b=some o->b≠T->h'.get? b=some o)->Q () { s with heap:=h' }) (ff:s.heap.FunFrames base l):wpAny M A (setFlight (.ref ea) none) Q E s:=by
 obtain⟨oe,vs,oT,ts,he,hc,hd,h1,hne,hT,hdT,h3⟩:=x
 have hsz:3 < ts.size:=(Array.getElem?_eq_some_iff.mp h3).1
 unfold setFlight
 refine wpAny_bind (wpAny_field he hd h1 ?_)
 rw[if_pos (show(Value.ref T != Value.none)=true from by simp)]
 have other:∀b,b≠T->(s.heap.update T (Obj.mapFields (·.setIfInBounds 3 ((none:Option Addr).elim Value.none fun f=>rawInt f)))).get? b=s.heap.get? b:=fun b hb=>Heap.get?_update_other _ _ (Ne.symm hb)
 refine wpAny_setField hT hdT hsz (hQ _ ?_ ⟨fun b o e _ n2 _=>(other b n2).trans e,fun b o e m=>⟨o.slots,(other b fun z=>?_).trans e⟩⟩ fun b o e n=>(other b n).trans e)
 ·exact⟨oe,vs,_,_,(other ea (Ne.symm hne)).trans he,hc,hd,h1,hne,Heap.get?_update_self _ hT (Obj.isFreed_of_fields (Obj.data_mapFields hdT _)),Obj.data_mapFields hdT _,by simp[hsz]⟩
 ·obtain⟨_,o',ho,hn⟩:=ff.mem m
  rw[z,hT]at ho;cases ho;exact hn ts hdT
theorem Yh1{h h' base:Heap}:∀{l:List Env},h.FunFrames base l->(∀b∈frs l,∀o,h.get? b=some o->∃sl,h'.get? b=some { o with slots:=sl })->h'.FunFrames base l
 | [],_,_=>trivial
 | env::r,⟨hk,⟨L,o,hf,hn,ho,hd⟩,hr⟩,hb=>by
   have e:frs (env::r)=L::frs r:=by unfold frs;rw[List.filterMap_cons,hf]
   obtain⟨sl,q⟩:=hb L (by rw[e];exact .head _) o ho
   exact⟨hk,⟨L,_,hf,hn,q,hd⟩,Yh1 hr fun b q=>hb b (by rw[e];exact .tail _ q)⟩
theorem Yyo(hfr:A.frames=some (env::outer))(hf:env.frame=some L)(ff:s.heap.FunFrames base (env::outer))(x:Exc s.heap ea T C .none)
 (hQ:∀h' T',Exc h' ea T' C .none->(T'=T\/s.heap.get? T'=none)->XStep s.heap h' ea T (frs (env::outer))->Q () { s with heap:=h' }):wpAny M A (leaving env (.ref ea)) Q E s:=by
 unfold leaving
 refine wpAny_bind (Yuw hfr hf ff x fun h1 T1 x1 z1 st1=>?_)
 refine Yiz (base:=base) (l:=env::outer) x1 (fun h2 x2 st2 _=>hQ h2 T1 x2 z1 ⟨fun b o e n1 n2 n3=>?_,fun b o e m=>?_⟩) (Yh1 ff fun b hb o e=>st1.slot b o e hb)
 ·refine st2.keep b o (st1.keep b o e n1 n2 n3) n1 (fun z=>?_) n3
  rcases z1 with q | q
  ·exact n2 (z.trans q)
  ·rw[z,q]at e;cases e
 ·obtain⟨sl,q⟩:=st1.slot b o e m
  obtain⟨sl',q'⟩:=st2.slot b _ q m
  exact⟨sl',q'⟩
theorem Yso{h:Heap}{args:List Value}(hfr:A.frames=some (env::outer))(hf:env.frame=some L)(ff:h.FunFrames base (env::outer))(hx:Heap.MadeExcOf h s.heap ea C args)
 (hQ:∀h' T',Exc h' ea T' C .none->h.get? T'=none->XStep h h' ea T' (frs (env::outer))->Q () { s with heap:=h' }):wpAny M A (leaving env (.ref ea)) Q E s:=by
 obtain⟨t,he,_,_⟩:=hx.there
 have ff':s.heap.FunFrames base (env::outer):=ff.of_keeps fun b o hb _=>⟨o,hx.keeps b o hb,rfl⟩
 unfold leaving
 refine wpAny_bind ?_
 unfold noteFrame
 simp only[hf]
 refine wpAny_bind (wpAny_field he rfl (x:=.none) rfl ?_)
 rw[if_neg (by decide)]
 refine Yuv hfr ff' hf he rfl rfl fun h1 T1 x1 z1 st1=>?_
 have no:h.get? T1=none:=by
  cases q:h.get? T1 with
  | none=>rfl
  | some o=>rw[hx.keeps _ _ q]at z1;cases z1
 refine Yiz (base:=base) (l:=env::outer) x1 (fun h2 x2 st2 _=>hQ h2 T1 x2 no ⟨fun b o e n1 n2 n3=>?_,fun b o e m=>?_⟩) (Yh1 ff' fun b hb o e=>st1.slot b o e hb)
 ·exact st2.keep b o (st1.keep b o (hx.keeps _ _ e) n1 n2 n3) n1 n2 n3
 ·obtain⟨sl,q⟩:=st1.slot b o (hx.keeps _ _ e) m
  obtain⟨sl',q'⟩:=st2.slot b _ q m
  exact⟨sl',q'⟩
theorem XStep.hok(st:XStep h h' ea T fr)(x:HOk P w H h)(he:H ea=none)(hT:H T=none)(hf:∀b∈fr,H b=none):HOk P w H h':=fun a o e=>by
 refine(x a o e).stay (fun b u hb q=>?_) (fun _ z=>z) fun _ _ z=>z
 have n:H b≠none:=fun z=>by
  rcases hb with rfl | hb
  ·rw[e]at z;cases z
  ·rw[hb]at z;cases z
 exact st.keep b u q (fun z=>n (by rw[z];exact he)) (fun z=>n (by rw[z];exact hT)) fun z=>n (hf b z)
theorem ObjOk.there{a:Addr}{o:HO}(x:ObjOk P w H h a o):∃u,h.get? a=some u:=by
 cases o with
 | lst xs=>obtain⟨_,_,_,_,e⟩:=x;exact⟨_,e⟩
 | tup xs=>obtain⟨_,_,_,u,e,_⟩:=x;exact⟨_,e⟩
 | dK kvs=>obtain⟨_,_,_,_,o,_,_,e,_⟩:=x;exact⟨_,e⟩
 | dT kvs=>obtain⟨_,_,_,_,o,_,_,e,_⟩:=x;exact⟨_,e⟩
 | set S n=>obtain⟨o,_,_,_,e,_⟩:=x;exact⟨_,e⟩
 | ins C dx fs=>obtain⟨_,_,_,e,_⟩:=x;exact⟨_,e⟩
 | own y=>obtain⟨_,e⟩:=x;exact⟨_,e⟩
 | xd fs=>obtain⟨_,⟨_,_,_,e,_⟩,_⟩:=x;exact⟨_,e⟩
 | rng lo hi=>obtain⟨_,_,_,e⟩:=x;exact⟨_,e⟩
 | frz ob u=>obtain⟨e,_⟩:=x;exact⟨_,e⟩
 | tbl ps=>exact⟨_,(show h.get? a=some _ from x)⟩
 | met f y=>exact⟨_,(show h.get? a=some _ from x)⟩
 | ext φ=>obtain⟨_,⟨_,e⟩,_⟩:=x;exact⟨_,e⟩
theorem Yej(x:HOk P w H h){a:Addr}(e:h.get? a=none):H a=none:=by
 cases q:H a with
 | none=>rfl
 | some o=>
   obtain⟨u,z⟩:=ObjOk.there (x a o q)
   rw[e]at z;cases z
theorem XStep.un(st:XStep h h' ea T fr)(u:Un fs ex H0 H h0 h)(he:h0.get? ea=none)(hT:h0.get? T=none)(hf:∀b∈fr,b∈fs\/h0.get? b=none):Un fs ex H0 H h0 h':=by
 have ne:∀b o,h0.get? b=some o->b≠ea/\b≠T:=fun b o e=>⟨fun z=>(by rw[z,he]at e;cases e),fun z=>(by rw[z,hT]at e;cases e)⟩
 refine⟨fun b o e n m1 m2=>?_,fun b o e n m1 m2=>?_,u.free,fun b o e m=>?_,u.tups,u.frzs,u.tbls⟩
 ·refine st.keep b o (u.keep b o e n m1 m2) (ne b o e).1 (ne b o e).2 fun z=>?_
  rcases hf b z with z | z
  ·exact m1 z
  ·rw[z]at e;cases e
 ·obtain⟨sl,e1⟩:=u.slot b o e n m1 m2
  by_cases z:b∈fr
  ·obtain⟨sl',e2⟩:=st.slot b _ e1 z
   exact⟨sl',e2⟩
  ·exact⟨sl,st.keep b _ e1 (ne b o e).1 (ne b o e).2 z⟩
 ·obtain⟨o',e1⟩:=u.there b o e m
  by_cases z:b∈fr
  ·obtain⟨sl',e2⟩:=st.slot b _ e1 z
   exact⟨_,e2⟩
  ·exact⟨o',st.keep b _ e1 (ne b o e).1 (ne b o e).2 z⟩
end
def CXN(P:Program)(w:World):CXT:=fun outer H s E e s'=>
 ∃ea T H' C,e=.ref ea/\s'.os=s.os/\AllBare s'.gens/\Un (frs outer) [] H H' s.heap s'.heap/\HOk P w H' s'.heap/\Exc s'.heap ea T C .none/\s.heap.get? ea=none/\s.heap.get? T=none/\H' ea=none/\H' T=none/\E C none H'
section
variable {P:Program} {w:World} {K:W.Frag} {mg:Str->Option Value} {base:Heap} {N:List Str} {qual:Str} {scope:Scope} {f:Addr} {cd:Value} {A:Around} {outer:List Env} {s0:Shared} {H0:Hp} {E:XK}
theorem Yd1{X:Cx}{pins:List (Addr × Obj)}{σ:L2.St}{H:Hp}{s:Shared}(I:Inv X pins σ H s)(hx:X.ex=[]){a:Addr}(e:s.heap.get? a=none):X.s₀.heap.get? a=none:=by
 cases q:X.s₀.heap.get? a with
 | none=>rfl
 | some o=>
   obtain⟨o',z⟩:=I.base.there a o q (by rw[hx];exact fun z=>nomatch z)
   rw[e]at z;cases z
theorem Yi0:Yez (CXN P w) (cxOf (CXN P w) P w K mg base N qual scope f cd A outer s0 H0 E) E:=by
 rintro pins σ H s e s' I ⟨ea,T,H',C,rfl,os,bare,un,hok,x,n1,n2,n3,n4,hE⟩
 have J:=I.call' os un hok bare (fun b z=>nomatch z)
 have e1:=Yd1 I rfl n1
 have e2:=Yd1 I rfl n2
 show wpAny _ _ (leaving _ _) _ _ _
 refine Yyo (base:=base) I.ok.frames rfl J.stack x fun h' T' x' hT' st=>?_
 have hT0:s0.heap.get? T'=none:=by
  rcases hT' with rfl | z
  ·exact e2
  ·exact Yd1 J rfl z
 have hT1:H' T'=none:=by
  rcases hT' with rfl | z
  ·exact n4
  ·exact Yej J.hok z
 have fr:∀b∈frs (envOfC qual scope s0.heap.objs.size f cd::outer),b∈frs outer\/s0.heap.get? b=none:=fun b hb=>by
  rcases qt (show b∈s0.heap.objs.size::frs outer from hb)with rfl | hb
  ·exact .inr (Heap.get?_none_of_le (qu _))
  ·exact .inl hb
 exact⟨ea,T',H',C,rfl,J.os,J.bare,st.un J.base e1 e2 fr,st.hok J.hok n3 n4 J.stkFree,x',e1,hT0,n3,hT1,hE⟩
end
end
section
def vM:List Value:=[.type "ValueError",.type "Exception",.type "BaseException",.type "object"]
def mroK(K:W.Frag)(C:Addr):List Value:=match K.lookup C with
 | some ⟨_,_,.cls cd,_⟩=>cd.mro
 | _=>[]
abbrev XC(K:W.Frag)(C:Addr):Prop:=W.excIn K C vM "ValueError.__new__"=true
theorem Ylv{K:W.Frag}{h:Heap}{C:Addr}(X:K.In h)(q:XC K C):∃bm N nm q bs hdct sn sub ab col dd k0 k1 k2 k3 k5 mN,
 h.get? C=some (excClassObj nm q C N bs bm hdct sn sub ab col dd k0 k1 k2 k3 k5 "ValueError.__new__")/\h.Ns N mN/\mN "__init__"=none/\OwnTail h vM bm/\mroK K C=.ref C::bm:=by
 unfold XC W.excIn at q
 split at q
 ·rename_i dd cd sl ho
  split at q
  ·rename_i C' bm k0 k1 k2 k3 n k5 hm hs
   simp only[qx,beq_iff_eq,Bool.not_eq_true']at q
   obtain⟨⟨⟨⟨⟨rfl,rfl⟩,hdel⟩,ht⟩,hok⟩,hni⟩:=q
   obtain⟨nm,bs,mro,ns,qn,hd,sn,sub,ab,col,del⟩:=cd
   dsimp only at hm hdel hok hni
   subst hm hdel
   have hsl:sl=#[k0,k1,k2,k3,some (.builtin "ValueError.__new__"),k5]:=by
    obtain⟨l⟩:=sl
    simp only at hs
    rw[hs]
   subst hsl
   exact⟨bm,ns,nm,qn,bs,hd,sn,sub,ab,col,dd,k0,k1,k2,k3,k5,_,X _ _ ho,.of_isNs (W.isNs_of_in X hok),W.nsMap_none_of_in X hok hni,W.tail_of_in X ht,by unfold mroK;rw[ho]⟩
  ·cases q
 ·cases q
section
variable {P:Program} {w:World} {K:W.Frag} {mg:Str->Option Value} {base:Heap} {N:List Str} {qual:Str} {scope:Scope} {f:Addr} {cd:Value} {A:Around} {outer:List Env} {s0:Shared} {H0:Hp} {E:XK}
theorem Yq9{C:Addr}{x m:Str}{np p1 cpos pos:Pos}{j:Nat}(hm:mg x=some (.ref C))(hc:XC K C)(hg:Gl (cxOf (CXN P w) P w K mg base N qual scope f cd A outer s0 H0 E) x:=by rfl)(hdb:(x==("__debug__":Str))=false:=by decide)
 (hs:starEach [Expr.Constant (.str m) j p1] (envOfC qual scope s0.heap.objs.size f cd)=[(false,eval (Expr.Constant (.str m) j p1) (envOfC qual scope s0.heap.objs.size f cd))]:=by rfl) :
 PS (cxOf (CXN P w) P w K mg base N qual scope f cd A outer s0 H0 E) (.Raise (some (.Call (.Name x np) [.Constant (.str m) j p1] [] cpos)) none pos) (fun _ _ H=>E (.ref C) none H):=by
 intro pins s σ H D I h
 obtain⟨bm,N',nm,q,bs,hdct,sn,sub,ab,col,dd,k0,k1,k2,k3,k5,mN,hC,hN,hni,T,_⟩:=Ylv I.kIn hc
 refine wpAny_Raise_call_subT (nm:=nm) (q:=q) (N:=N') (bs:=bs) (hdct:=hdct) (sn:=sn) (sub:=sub) (ab:=ab) (col:=col) (dd:=dd) (k0:=k0) (k1:=k1) (k2:=k2) (k3:=k3) (k5:=k5) (bmB:=vM) PySem.F.excBase_ValueError (T.hasType (by decide)) (I.ok.hd rfl) (by show(backTo cpos (starEach _ (envOfC qual scope s0.heap.objs.size f cd))).any _=false;rw[hs];rfl) hni (Yd4 I hg hm ⟨rfl,?_⟩ hdb)
 show wpAny _ _ (evalArgs _ _ (backTo cpos (starEach _ (envOfC qual scope s0.heap.objs.size f cd))) _) _ _ _
 rw[hs]
 refine PySem.Calls.evalArgs_plain (PySem.Calls.spliced_cons ?_)
 show wpAny _ _ (eval (Expr.Constant (.str m) j p1) _) _ _ _
 refine PySem.Calls.Constant_str (PySem.Calls.spliced_nil ⟨rfl,by show 1<=sizeLine;decide,hC,hN,T,fun h' ea hx=>?_⟩)
 show wpAny _ _ (leaving _ _) _ _ _
 have ff:s.heap.FunFrames base (envOfC qual scope s0.heap.objs.size f cd::outer):=I.stack
 refine Yso (base:=base) (h:=s.heap) I.ok.frames rfl ff hx fun h' T' x' n2 st=>?_
 have e1:=Yd1 I rfl hx.new
 have e2:=Yd1 I rfl n2
 have n3:=Yej I.hok hx.new
 have n4:=Yej I.hok n2
 have fr:∀b∈frs (envOfC qual scope s0.heap.objs.size f cd::outer),b∈frs outer\/s0.heap.get? b=none:=fun b hb=>by
  rcases qt (show b∈s0.heap.objs.size::frs outer from hb)with rfl | hb
  ·exact .inr (Heap.get?_none_of_le (qu _))
  ·exact .inl hb
 exact⟨ea,T',H,.ref C,rfl,I.os,I.bare,st.un I.base e1 e2 fr,st.hok I.hok n3 n4 I.stkFree,x',e1,e2,n3,n4,h⟩
end
end
section
structure Ofa(X:Cx)(pins:List (Addr × Obj))(H:Hp)(b:Addr):Prop where
 s0:X.s₀.heap.get? b=none
 hp:H b=none
 lo:b≠X.env.locals
 ce:∀x c,X.env.cells.lookup x=some c->c≠b
 pi:∀p∈X.pn++pins,p.1≠b
section
variable {X:Cx} {pins:List (Addr × Obj)} {σ:L2.St} {H H':Hp} {s:Shared} {b ea T:Addr} {h':Heap}
theorem Ofa.of(I:Inv X pins σ H s)(hx:X.ex=[])(e:s.heap.get? b=none)(hp:H' b=none):Ofa X pins H' b where
 s0:=Yd1 I hx e
 hp:=hp
 lo:=fun z=>by
  obtain⟨m,⟨o,_,_,q,_⟩,_⟩:=I.loc
  rw[z,q]at e;cases e
 ce:=fun x c q z=>by
  obtain⟨v,o,q2,_⟩:=I.cell x c q
  rw[<-z,q2]at e;cases e
 pi:=fun p hp z=>by
  have:=(I.pin p hp).1
  rw[z,e]at this;cases this
theorem Ofa.none(I:Inv X pins σ H s)(hx:X.ex=[])(e:s.heap.get? b=none):Ofa X pins H b:=Ofa.of I hx e (Yej I.hok e)
theorem Ypp(I:Inv X pins σ H s)(st:XStep s.heap h' ea T (frs X.stack))(oe:Ofa X pins H ea)(oT:Ofa X pins H T):Inv X pins σ H { s with heap:=h' }:=by
 have fr:∀b∈frs X.stack,b∈X.fs\/X.s₀.heap.get? b=none:=fun b hb=>by
  rcases qt (I.stkSub b hb)with rfl | hb
  ·exact .inr (Heap.get?_none_of_le I.ok.above)
  ·exact .inl hb
 have any:∀b o,s.heap.get? b=some o->b≠ea->b≠T->∃sl,h'.get? b=some { o with slots:=sl }:=fun b o e n1 n2=>by
  by_cases z:b∈frs X.stack
  ·exact st.slot b o e z
  ·exact⟨o.slots,st.keep b o e n1 n2 z⟩
 have cellK:∀x c,X.env.cells.lookup x=some c->∀v,s.heap.IsCell c v->h'.IsCell c v:=fun x c e v ⟨o,ho,hd⟩=>by
  obtain⟨sl,q⟩:=any c o ho (oe.ce x c e) (oT.ce x c e)
  exact⟨_,q,hd⟩
 refine⟨I.ok,I.os,I.bare,st.un I.base oe.s0 oT.s0 fr,?_,fun x c e=>?_,I.free,I.freeC,fun p hp=>?_,st.hok I.hok oe.hp oT.hp I.stkFree,I.len⟩
 ·obtain⟨m,⟨o,es,ep,ho,r⟩,hl⟩:=I.loc
  obtain⟨sl,q⟩:=any _ o ho (Ne.symm oe.lo) (Ne.symm oT.lo)
  refine⟨m,⟨_,es,ep,q,r⟩,fun i x v e1 e2 e3=>?_⟩
  obtain⟨u,r,l⟩:=hl i x v e1 e2 e3
  refine⟨u,r,?_⟩
  rcases l with l | ⟨k,c,e,z⟩
  ·exact .inl l
  ·exact .inr ⟨k,c,e,cellK x c e _ z⟩
 ·obtain⟨v,z⟩:=I.cell x c e
  exact⟨v,cellK x c e v z⟩
 ·obtain⟨e,n,ne,nf,d⟩:=I.pin p hp
  refine⟨st.keep p.1 p.2 e (oe.pi p hp) (oT.pi p hp) fun z=>?_,n,ne,nf,d⟩
  rcases qt (I.stkSub _ z)with q | q
  ·exact ne q
  ·exact nf q
end
abbrev Cx.mk(X:Cx)(ea:Addr)(pn:List (Addr × Obj)):Cx:={ X with A:=X.A.mark (some (.ref ea)),calm:=false,pn:=pn++X.pn,xe:=fun _ _=>False }
section
variable {X:Cx} {pins pn:List (Addr × Obj)} {σ:L2.St} {H:Hp} {s:Shared} {ea:Addr}
theorem Inv.mk(I:Inv X pins σ H s)(hp:∀p∈pn,s.heap.get? p.1=some p.2/\H p.1=none/\p.1≠X.env.locals/\p.1∉X.fs/\∀v,p.2.data≠.cell v):Inv (Cx.mk X ea pn) pins σ H s:=
 ⟨⟨I.ok.mod,I.ok.kind,I.ok.glob,I.ok.blt,I.ok.above,I.ok.inj,I.ok.has,I.ok.cab,(fun z=>nomatch z),I.ok.frames,I.ok.stk,I.ok.exf,I.ok.bs,I.ok.bsz,I.ok.noex,I.ok.exfs,I.ok.funs,I.ok.frf⟩,I.os,I.bare,I.base,I.loc,I.cell,I.free,I.freeC,fun p q=>by
  rcases qv (show p∈(pn++X.pn)++pins from q)with q | q
  ·rcases qv q with q | q
   ·exact hp p q
   ·exact I.pin p (List.mem_append.mpr (.inl q))
  ·exact I.pin p (List.mem_append.mpr (.inr q)),I.hok,I.len⟩
theorem Inv.unmk(ok:X.Ok)(I:Inv (Cx.mk X ea pn) pins σ H s):Inv X pins σ H s:=
 ⟨ok,I.os,I.bare,I.base,I.loc,I.cell,I.free,I.freeC,fun p q=>I.pin p (by
  rcases qv q with q | q
  ·exact List.mem_append.mpr (.inl (List.mem_append.mpr (.inr q)))
  ·exact List.mem_append.mpr (.inr q)),I.hok,I.len⟩
theorem Yux(ok:X.Ok){D:Ends}{fl:Flow}{s':Shared}(h:SP (Cx.mk X ea pn) pins D fl s'):SP X pins D fl s':=by
 cases fl with
 | next=>obtain⟨σ',H',I,q⟩:=h;exact⟨σ',H',Inv.unmk ok I,q⟩
 | brk=>obtain⟨σ',H',I,q⟩:=h;exact⟨σ',H',Inv.unmk ok I,q⟩
 | cont=>obtain⟨σ',H',I,q⟩:=h;exact⟨σ',H',Inv.unmk ok I,q⟩
 | ret u=>obtain⟨v,σ',H',I,r,q⟩:=h;exact⟨v,σ',H',Inv.unmk ok I,r,q⟩
end
theorem Ykg{K:W.Frag}{M:Model}{A:Around}{E:Value->Shared->Prop}{s:Shared}{e B C:Addr}{oe:Obj}{Q:Bool->Shared->Prop}(X:K.In s.heap)(hB:XC K B)(hC:XC K C)(he:s.heap.get? e=some oe)(hcls:oe.cls=.ref C)
 (hq:Q ((mroK K C).contains (.ref B)) s):wpAny M A (excMatches (.ref e) (.ref B)) Q E s:=by
 obtain⟨bm,N,nm,q,bs,hdct,sn,sub,ab,col,dd,k0,k1,k2,k3,k5,mN,oC,_,_,T,em⟩:=Ylv X hC
 obtain⟨bm',N',nm',q',bs',hdct',sn',sub',ab',col',dd',l0,l1,l2,l3,l5,mN',oB,_,_,T',em'⟩:=Ylv X hB
 rw[em]at hq
 obtain⟨hp,g,d,t,os⟩:=s
 have hcB:(Value.ref B::bm').contains (.type "BaseException")=true:=by rw[List.contains_cons,T'.hasType (show vM.contains (.type "BaseException")=true by decide),Bool.or_true]
 have f:=tc_notTuple
 unfold excMatches
 repeat (first | (with_reducible refine wpAny_loadPart_at he ?_;rw[hcls]) | with_reducible refine wpAny_loadPart_at oB ?_ | (with_reducible refine wpAny_isSubtype_exc oB ?_;rw[hcB]) | with_reducible refine wpAny_isSubtype_exc oC ?_ | wp_step)
 all_goals (generalize (Value.ref C::bm).contains (.ref B)=z at *;cases z<;>(wp_walk;first | exact hq | done))
end
section
section
variable {X:Cx} {pins:List (Addr × Obj)} {σ:L2.St} {H:Hp} {s:Shared} {ea T:Addr} {C:Value} {M:Model} {E:Value->Shared->Prop} {Q:Flow->Shared->Prop} {hs:List ExceptHandler}
theorem Yra{h':Heap}{T':Addr}(I:Inv X pins σ H s)(hx:X.ex=[])(oT:Ofa X pins H T)(z:T'=T\/s.heap.get? T'=none):Ofa X pins H T':=by
 rcases z with rfl | z
 ·exact oT
 ·exact Ofa.none I hx z
theorem Yz2(hx:X.ex=[])(hst:X.stack=X.env::X.outer)(hf:X.env.frame=some X.env.locals)(I:Inv X pins σ H s)(x:Exc s.heap ea T C .none)(oe:Ofa X pins H ea)(oT:Ofa X pins H T)
 (k:∀h' T',Inv X pins σ H { s with heap:=h' }->Exc h' ea T' C .none->Ofa X pins H T'->wpAny M X.A (handleBy (.ref ea) X.env hs) Q E { s with heap:=h' }) :
 wpAny M X.A (noteFrame (.ref ea) X.env) (fun _ s₂=>wpAny M X.A (setFlight (.ref ea) none) (fun _ s₃=>wpAny M X.A (handleBy (.ref ea) X.env hs) Q E s₃) E s₂) E s:=by
 have ff:=I.stack
 rw[hst]at ff
 refine Yuw (by rw[I.ok.frames,hst]) hf ff x fun h1 T1 x1 z1 st1=>?_
 rw[<-hst]at st1
 have I1:=Ypp I st1 oe oT
 have oT1:=Yra (h':=h1) I hx oT z1
 refine Yiz (base:=X.base) (l:=X.stack) x1 (fun h2 x2 st2 _=>?_) I1.stack
 exact k h2 T1 (Ypp (s:={ s with heap:=h1 }) I1 st2 oe oT1) x2 oT1
def Xo(ob:Obj)(C:Value):Prop:=ob.cls=C/\∃vs,ob.data=.fields vs/\vs[2]?=some .none
theorem Yrb(I:Inv X pins σ H s)(x:Exc s.heap ea T C .none)(oe:Ofa X pins H ea):∃ob,Xo ob C/\∀p∈[(ea,ob)],s.heap.get? p.1=some p.2/\H p.1=none/\p.1≠X.env.locals/\p.1∉X.fs/\∀v,p.2.data≠.cell v:=by
 obtain⟨ob,vs,oT,ts,h1,h2,h3,_⟩:=x
 refine⟨ob,⟨h2.1,vs,h3,h2.2⟩,fun p hp=>?_⟩
 obtain rfl:p=(ea,ob):=by simpa using hp
 refine⟨h1,oe.hp,oe.lo,fun z=>?_,fun v z=>?_⟩
 ·obtain⟨_,o,q,_⟩:=I.ok.funs.mem z
  rw[oe.s0]at q;cases q
 ·rw[h3]at z;cases z
end
section
variable {X:Cx} {pins:List (Addr × Obj)} {σ:L2.St} {H:Hp} {s:Shared} {ea T B C f:Addr} {E:Value->Shared->Prop} {Q:Flow->Shared->Prop} {rest:List ExceptHandler} {y n x:Str} {np hpos p cpos pos1 pos:Pos} {b₀:Stmt} {suite:List Stmt} {k:Nat} {fd:FuncData} {ps:List Str} {sp:Sp} {e:Expr} {es:List Expr} {t:TA} {ts:TS}
theorem Ypq(hx:X.ex=[])(I:Inv X pins σ H s)(x:Exc s.heap ea T (.ref C) .none)(oe:Ofa X pins H ea)(oT:Ofa X pins H T)(hB:XC X.K B)(hC:XC X.K C)(hy:X.mg y=some (.ref B))(hg:Gl X y)(hin:(mroK X.K C).contains (.ref B)=true)(hdb:(y==("__debug__":Str))=false)
 (k:∀s' ob,Xo ob (.ref C)->Inv (Cx.mk X ea [(ea,ob)]) pins σ H s'->wpAny (model X.prog X.w) (X.A.mark (some (.ref ea))) (execs (b₀::suite) X.env) Q (fun _ _=>False) s') :
 wpAny (model X.prog X.w) X.A (handleBy (.ref ea) X.env (.ExceptHandler (some (.Name y np)) none (b₀::suite) hpos::rest)) Q E s:=by
 obtain⟨ob,hcl,hp⟩:=Yrb I x oe
 have he:=(hp _ (.head _)).1
 have J:=Inv.mk (ea:=ea) I hp
 refine wpAny_handleBy_cons (codeAny_handlers_test (Yd4 (X:=Cx.mk X ea [(ea,ob)]) J hg hy ?_ hdb)) (by intro q;cases q)
 refine Ykg I.kIn hB hC he hcl.1 ?_
 rw[hin]
 refine codeAny_handlers_suite ?_
 refine Yiz (base:=X.base) (l:=X.stack) x (fun h2 x2 st2 _=>?_) I.stack
 have I2:=Ypp I st2 oe oT
 obtain⟨ob2,hcl2,hp2⟩:=Yrb I2 x2 oe
 exact wpAny_mono (k _ ob2 hcl2 (Inv.mk I2 hp2)) (fun _ _ z=>z) fun _ _ z=>z.elim
theorem Yuy{i:Nat}(hx:X.ex=[])(I:Inv X pins σ H s)(x:Exc s.heap ea T (.ref C) .none)(oe:Ofa X pins H ea)(oT:Ofa X pins H T)(hB:XC X.K B)(hC:XC X.K C)(hy:X.mg y=some (.ref B))(hg:Gl X y)(hin:(mroK X.K C).contains (.ref B)=true)(hdb:(y==("__debug__":Str))=false)
 (hN:X.N.Nodup) (hi:X.N[i]?=some n) (hl:Loc X.env.scope n) (hf:X.fn n=true\/X.env.scope.names.lookup n=some .local)
 (k:∀s' ob,Xo ob (.ref C)->Inv (Cx.mk X ea [(ea,ob)]) pins (σ.set i (some (V.ref ea))) H s'->wpAny (model X.prog X.w) (X.A.mark (some (.ref ea))) (execs (b₀::suite) X.env) (fun f s₄=>wpAny (model X.prog X.w) X.A (do bindName X.env n .none;unbindBehindTheSuite X.env n hpos) (fun _ s₅=>Q f s₅) E s₄) (fun _ _=>False) s') :
 wpAny (model X.prog X.w) X.A (handleBy (.ref ea) X.env (.ExceptHandler (some (.Name y np)) (some n) (b₀::suite) hpos::rest)) Q E s:=by
 obtain⟨ob,hcl,hp⟩:=Yrb I x oe
 have he:=(hp _ (.head _)).1
 have J:=Inv.mk (ea:=ea) I hp
 refine wpAny_handleBy_cons (codeAny_handlers_test (Yd4 (X:=Cx.mk X ea [(ea,ob)]) J hg hy ?_ hdb)) (by intro q;cases q)
 refine Ykg I.kIn hB hC he hcl.1 ?_
 rw[hin]
 refine codeAny_handlers_suite_as ?_
 refine Yiz (base:=X.base) (l:=X.stack) x (fun h2 x2 st2 _=>?_) I.stack
 have I2:=Ypp I st2 oe oT
 obtain⟨ob2,hcl2,hp2⟩:=Yrb I2 x2 oe
 refine Yl2 (X:=Cx.mk X ea [(ea,ob2)]) (v:=V.ref ea) (Inv.mk I2 hp2) hN hi hl rfl (fun s' I'=>?_) hf
 exact wpAny_mono (k _ ob2 hcl2 I') (fun _ _ z=>z) fun _ _ z=>z.elim
theorem Yuz{i:Nat}{Q:Unit->Shared->Prop}{M:Model}(I:Inv X pins σ H s)(hN:X.N.Nodup)(hi:X.N[i]?=some n)(hl:X.env.kindOf n=some .local)(k:∀s',Inv X pins (σ.set i none) H s'->Q () s') :
 wpAny M X.A (do bindName X.env n .none;unbindBehindTheSuite X.env n hpos) Q E s:=by
 obtain⟨m,hn,hlk⟩:=id I.loc
 refine wpAny_nameGoes_keeps hl hn (by rw[I.ok.kind];rfl) fun h' v hn' sb=>k _ ?_
 have cne:=I.cne
 have hiσ:i < σ.length:=by rw[I.len];exact(qo hi).1
 refine⟨I.ok,I.os,I.bare,⟨fun b o e n hb hx=>?_,fun b o e n hb hx=>?_,I.base.free,fun b o e hx=>?_,I.base.tups,I.base.frzs,I.base.tbls⟩,⟨_,hn',fun j y v' e1 e2 e3=>?_⟩,fun y c e=>?_,I.free,I.freeC,fun p hp=>?_,fun b ob e=>?_,by rw[List.length_set];exact I.len⟩
 ·exact(sb.2 b (qm (Qd (ql e) I.ok.above))).trans (I.base.keep b o e n hb hx)
 ·obtain⟨sl,e1⟩:=I.base.slot b o e n hb hx
  exact⟨sl,(sb.2 b (qm (Qd (ql e) I.ok.above))).trans e1⟩
 ·obtain⟨o',e1⟩:=I.base.there b o e hx
  exact⟨o',(sb.2 b (qm (Qd (ql e) I.ok.above))).trans e1⟩
 ·by_cases hj:j=i
  ·subst hj
   rw[List.getElem?_set_self hiσ]at e2
   cases e2
  ·rw[Qb (Ne.symm hj)]at e2
   obtain⟨u',r',q⟩:=hlk j y v' e1 e2 e3
   refine⟨u',r',?_⟩
   rcases q with⟨k,e⟩ | ⟨k,c,e,z⟩
   ·refine .inl ⟨k,?_⟩
    have:y≠n:=fun e=>hj (Yl1 hN e1 (e ▸ hi))
    simp[this,e]
   ·exact .inr ⟨k,c,e,z.sameBut sb (cne y c e)⟩
 ·obtain⟨w',z⟩:=I.cell y c e
  exact⟨w',z.sameBut sb (cne y c e)⟩
 ·obtain⟨e,n,ne,nf,d⟩:=I.pin p hp
  exact⟨(sb.2 p.1 ne).trans e,n,ne,nf,d⟩
 ·refine(I.hok b ob e).stay (fun c w' hc q=>(sb.2 c ?_).trans q) (fun _ q=>q) fun _ _ q=>q
  rintro rfl
  rcases hc with rfl | hc
  ·rw[I.free]at e;cases e
  ·rw[I.free]at hc;cases hc
theorem Yrc{pins:List (Addr × Obj)}{σ:L2.St}{H:Hp}{s:Shared}{Q:VK}{E:XK}{XE:Value->Shared->Prop}(hxe:∀e s,¬X.xe e s)(F:FnOk X.prog X.w X.K X.mg X.base (CXN X.prog X.w) k f fd ps sp)(hr:Room k X.A)(hg:Gl X x)(hm:X.mg x=some (.ref f))(hk:W.keepIn X.K (.ref f)=true)(hb:Binds X.K fd ps [])
 (ha:PA X (e::es) t) (hdb:(x==("__debug__":Str))=false) (he:starEach (e::es) X.env=(false,eval e X.env)::starEach es X.env) (hpl:(backTo cpos (starEach es X.env)).any (·.1)=false)
 (I:Inv X pins σ H s) (h:t σ H fun vs H1=>sp vs H1 Q E) (hE:∀H1 s1 e s',Inv X pins σ H1 s1->CXN X.prog X.w X.stack H1 s1 E e s'->XE e s') :
 wpAny (model X.prog X.w) X.A (eval (.Call (.Name x p) (e::es) [] cpos) X.env) (EP X pins σ Q) XE s:=by
 refine wpAny_Call_Name_kw (Yd4 I hg hm ?_ hdb)
 refine W.callWith_K (h₀:=X.base) I.ok.mod.kin hk (wpAny_mono (ha cpos pins s σ H _ I h) (fun us s1 ⟨vs,H1,I1,r,q⟩=>⟨I1.kIn,?_⟩) fun e s z=>(hxe e s z).elim) he hpl
 have hl:(us++[]).length=ps.length:=by rw[Qf,<-r.length];exact F.len _ _ _ _ q
 refine wpAny_call (codeAny_mono (F.run X.A X.stack s1 H1 ⟨us,[]⟩ us vs Q E hr I1.env0 (by have:=hb s1 us I1.kIn hl;rwa [Qf]at this) r q) fun r s' hq=>?_)
 cases r with
 | error e=>exact hE H1 s1 e s' I1 hq
 | ok fl=>
   cases fl with
   | ret u=>exact I1.after hq
   | next=>exact False.elim hq
   | brk=>exact False.elim hq
   | cont=>exact False.elim hq
theorem y2k(hxe:∀e s,¬X.xe e s)(hx:X.ex=[])(hst:X.stack=X.env::X.outer)(hfr:X.env.frame=some X.env.locals)(F:FnOk X.prog X.w X.K X.mg X.base (CXN X.prog X.w) k f fd ps sp)(hr:Room k X.A)(hg:Gl X x)(hm:X.mg x=some (.ref f))(hk:W.keepIn X.K (.ref f)=true)(hb:Binds X.K fd ps [])
 (ha:PA X (e::es) t) (hB:XC X.K B) (hC:XC X.K C) (hy:X.mg y=some (.ref B)) (hgy:Gl X y) (hin:(mroK X.K C).contains (.ref B)=true) (hs:∀ea ob,Xo ob (.ref C)->PSs (Cx.mk X ea [(ea,ob)]) (b₀::suite) ts)
 (hdb:(x==("__debug__":Str))=false:=by decide) (hdy:(y==("__debug__":Str))=false:=by decide) (he:starEach (e::es) X.env=(false,eval e X.env)::starEach es X.env:=by rfl) (hpl:(backTo cpos (starEach es X.env)).any (·.1)=false:=by rfl) (hsw:swapsWith (.Call (.Name x p) (e::es) [] cpos) none pos1.line X.env=pure false:=by rfl) :
 PS X (.Try [.Expr (.Call (.Name x p) (e::es) [] cpos) pos1] [.ExceptHandler (some (.Name y np)) none (b₀::suite) hpos] [] [] pos) (fun D σ H=>t σ H fun vs H1=>sp vs H1 (fun _ H2=>D.nx σ H2) fun C' _ H2=>C'=.ref C/\ts D σ H2):=by
 intro pins s σ H D I h
 refine wpAny_Try_except (wpAny_execs_cons (wpAny_Expr_any (wpAny_mono (Yrc hxe F hr hg hm hk hb ha hdb he hpl I h fun H1 s1 e s' I1 z=>?_) (fun v s1 q=>?_) fun _ _ z=>z) I.quiet hsw))
 ·obtain⟨ea,T,H',C',rfl,os,bare,un,hok,x0,n1,n2,n3,n4,rfl,hts⟩:=z
  have J:=I1.call' os un hok bare (fun b z=>nomatch z)
  refine Yz2 hx hst hfr J x0 (Ofa.of I1 hx n1 n3) (Ofa.of I1 hx n2 n4) fun h' T' I2 x2 o2=>?_
  refine Ypq hx I2 x2 (Ofa.of I1 hx n1 n3) o2 hB hC hy hgy hin hdy fun s3 ob hc I3=>?_
  exact wpAny_mono (hs ea ob hc pins s3 σ H' D I3 hts) (fun _ _ q=>Yux I.ok q) fun _ _ z=>z
 ·obtain⟨v',H1,I1,r1,q1⟩:=q
  exact wpAny_execs_nil (wpAny_execs_nil ⟨σ,H1,I1,q1⟩)
theorem y2l{i:Nat}(hxe:∀e s,¬X.xe e s)(hx:X.ex=[])(hst:X.stack=X.env::X.outer)(hfr:X.env.frame=some X.env.locals)(F:FnOk X.prog X.w X.K X.mg X.base (CXN X.prog X.w) k f fd ps sp)(hr:Room k X.A)(hg:Gl X x)(hm:X.mg x=some (.ref f))(hk:W.keepIn X.K (.ref f)=true)(hb:Binds X.K fd ps [])
 (ha:PA X (e::es) t) (hB:XC X.K B) (hC:XC X.K C) (hy:X.mg y=some (.ref B)) (hgy:Gl X y) (hin:(mroK X.K C).contains (.ref B)=true) (hN:X.N.Nodup) (hs:∀ea ob,Xo ob (.ref C)->PSs (Cx.mk X ea [(ea,ob)]) (b₀::suite) (fun D σ H=>∃σ',σ=σ'.set i (some (V.ref ea))/\σ'.length=σ.length/\ts { nx:=fun σ2 H2=>D.nx σ2 H2,rt:=fun _ _=>False } σ' H))
 (hi:X.N[i]?=some n:=by rfl) (hl:X.env.kindOf n=some .local:=by rfl) (hdb:(x==("__debug__":Str))=false:=by decide) (hdy:(y==("__debug__":Str))=false:=by decide) (he:starEach (e::es) X.env=(false,eval e X.env)::starEach es X.env:=by rfl) (hpl:(backTo cpos (starEach es X.env)).any (·.1)=false:=by rfl) (hsw:swapsWith (.Call (.Name x p) (e::es) [] cpos) none pos1.line X.env=pure false:=by rfl) :
 PS X (.Try [.Expr (.Call (.Name x p) (e::es) [] cpos) pos1] [.ExceptHandler (some (.Name y np)) (some n) (b₀::suite) hpos] [] [] pos) (fun D σ H=>t σ H fun vs H1=>sp vs H1 (fun _ H2=>D.nx σ H2) fun C' _ H2=>C'=.ref C/\ts { nx:=fun σ2 H3=>D.nx (σ2.set i none) H3,rt:=fun _ _=>False } σ H2):=by
 intro pins s σ H D I h
 refine wpAny_Try_except (wpAny_execs_cons (wpAny_Expr_any (wpAny_mono (Yrc hxe F hr hg hm hk hb ha hdb he hpl I h fun H1 s1 e s' I1 z=>?_) (fun v s1 q=>?_) fun _ _ z=>z) I.quiet hsw))
 ·obtain⟨ea,T,H',C',rfl,os,bare,un,hok,x0,n1,n2,n3,n4,rfl,hts⟩:=z
  have J:=I1.call' os un hok bare (fun b z=>nomatch z)
  refine Yz2 hx hst hfr J x0 (Ofa.of I1 hx n1 n3) (Ofa.of I1 hx n2 n4) fun h' T' I2 x2 o2=>?_
  refine Yuy hx I2 x2 (Ofa.of I1 hx n1 n3) o2 hB hC hy hgy hin hdy hN hi (.inl hl) (.inr hl) fun s3 ob hc I3=>?_
  refine wpAny_mono (hs ea ob hc pins s3 _ H' { nx:=fun σ2 H3=>D.nx (σ2.set i none) H3,rt:=fun _ _=>False } I3 ⟨σ,rfl,by rw[List.length_set],hts⟩) (fun fl s4 q=>?_) fun _ _ z=>z
  have q':=Yux I.ok q
  cases fl with
  | next=>
    obtain⟨σ4,H4,I4,q4⟩:=q'
    exact Yuz I4 hN hi hl fun s5 I5=>⟨_,H4,I5,q4⟩
  | brk=>obtain⟨_,_,_,q4⟩:=q';exact False.elim q4
  | cont=>obtain⟨_,_,_,q4⟩:=q';exact False.elim q4
  | ret u=>obtain⟨_,_,_,_,_,q4⟩:=q';exact False.elim q4
 ·obtain⟨v',H1,I1,r1,q1⟩:=q
  exact wpAny_execs_nil (wpAny_execs_nil ⟨σ,H1,I1,q1⟩)
end
end
section
def qN:List Str:=["__getattribute__","__getattr__","__class__"]
inductive TailN (h:Heap) (bmB:List Value):List Value->Prop
 | base:TailN h bmB bmB
 | own {A:Addr} {c0:Value} {dd:Option Addr} {cd:ClassData} {sl:Array (Option Value)} {mA:Str->Option Value} {tl:List Value} :
  h.get? A=some { cls:=c0,dict:=dd,data:=.cls cd,slots:=sl }->h.Ns cd.ns mA->(∀n∈qN,mA n=none)->TailN h bmB tl->TailN h bmB (.ref A::tl)
def Yu0(K:W.Frag)(bmB:List Value):List Value->Bool
 | []=>bmB==[]
 | v::r=>(v::r)==bmB||match v with
   | .ref A=>(match K.lookup A with
     | some ⟨_,_,.cls cd,_⟩=>W.nsOkIn K cd.ns&&qN.all (fun n=>W.nsIn K cd.ns n==some none)&&Yu0 K bmB r
     | _=>false)
   | _=>false
theorem Yrd{K:W.Frag}{h:Heap}{bmB:List Value}(X:K.In h):∀{l:List Value},Yu0 K bmB l=true->TailN h bmB l
 | [],e=>by rw[<-beq_iff_eq.mp e];exact .base
 | v::r,e=>by
   unfold Yu0 at e
   rcases Bool.or_eq_true_iff.mp e with q | q
   ·rw[beq_iff_eq.mp q];exact .base
   ·split at q
    ·split at q
     ·rename_i ho
      simp only[qx]at q
      exact .own (X _ _ ho) (.of_isNs (W.isNs_of_in X q.1.1)) (fun n hn=>W.nsMap_none_of_in X q.1.1 (beq_iff_eq.mp (List.all_eq_true.mp q.1.2 n hn))) (Yrd X q.2)
     ·cases q
    ·cases q
abbrev XQ(K:W.Frag)(C:Addr):Prop:=Yu0 K vM (mroK K C)=true
section
variable {prog:Program} {w:World} {A:Around} {E:Value->Shared->Prop} {h:Heap} {g:Array GenState} {d:Drawn} {t:Nat} {os:OsState} {a:Addr} {o:Obj}
 {nm q:Str} {C N:Addr} {bs bm:List Value} {hdct:Bool} {sn:List Str} {sub:List Value} {ab:Bool} {col:Option Bool} {dd:Option Addr} {k0 k1 k2 k3 k5:Option Value} {newId:String}
theorem y2m{M:Model}{tl bmB:List Value}{n:Str}{y:Option Value}{Q:Option Value->Shared->Prop}(hn:n∈qN)(T:TailN h bmB tl)(hrest:lookupAlong bmB n=pure y)(hq:Q y ⟨h,g,d,t,os⟩):wpAny M A (lookupAlong tl n) Q E ⟨h,g,d,t,os⟩:=by
 induction T with
 | base=>rw[hrest];exact wpAny_pure hq
 | own hA hN hni _ ih=>
   rw[lookupAlong_cons]
   refine wpAny_bind (wpAny_classOwn_cls hA hN ?_)
   rw[hni n hn]
   exact ih
theorem Yu1{M:Model}{n:Str}{y:Option Value}{Q:Option Value->Shared->Prop}(hn:n∈qN)(hC:h.get? C=some (excClassObj nm q C N bs bm hdct sn sub ab col dd k0 k1 k2 k3 k5 newId))(T:TailN h vM (.ref C::bm))(hB:typeLookup (.type "ValueError") n=pure y)(hq:Q y ⟨h,g,d,t,os⟩) :
 wpAny M A (typeLookup (.ref C) n) Q E ⟨h,g,d,t,os⟩:=by
 have hrest:lookupAlong vM n=pure y:=by rw[typeLookup_eq,(show mroOf (.type "ValueError")=pure vM from F.attrBase_ValueError.mro)]at hB;exact hB
 rw[typeLookup_eq]
 exact wpAny_bind (wpAny_mroOf_exc hC (y2m hn T hrest hq))
theorem Yn9:typeLookup (.type "ValueError") "__class__"=pure (some (.builtin "object.__class__")):=by rw[typeLookup_type,builtinLookup_eq_fast];kernel_rfl
theorem y2n{R:Result->Shared->Prop}(hC:h.get? C=some (excClassObj nm q C N bs bm hdct sn sub ab col dd k0 k1 k2 k3 k5 newId))(T:OwnTail h vM bm)(hx:h.get? a=some o)(hc:o.cls=.ref C)(hq:R (.ok (.ret (.ref C))) ⟨h,g,d,t,os⟩) :
 codeAny (model prog w) A (.call (.builtin "getset_descriptor.__get__") ⟨[.builtin "object.__class__",.ref a,.ref C],[]⟩) R ⟨h,g,d,t,os⟩:=by
 have hT5:(⟨h,g,d,t,os⟩:Shared).TypeIs (.builtin "object.__class__") "getset_descriptor":=F.typeOf_object_class
 have hcB:(Value.ref C::bm).contains (.type (".".intercalate ("object.__class__".cutAt '.').dropLast))=true:=by
  rw[F.owner_object_class,List.contains_cons,T.hasType (show vM.contains (.type "object")=true by decide)];rfl
 refine codeAny_call_builtin F.slot_gs_get.plain F.entry_gs_get (F.slot_gs_get.check _ _ _ _ _ _ _ _ hT5 (F.args_gs_get _ _ _) ?_)
 repeat (any_goals (first | assumption | (with_reducible refine wpAny_loadPart_at hx ?_;rw[hc]) | (with_reducible refine wpAny_isSubtype_exc hC ?_;rw[hcB]) | wp_step))
 refine⟨Code.quiet_builtin _ (by decide +kernel),codeAny_builtin F.entry_object_class ?_⟩
 repeat (any_goals (first | assumption | (with_reducible refine wpAny_loadPart_at hx ?_;rw[hc]) | wp_step))
theorem Yu2{M:Model}{nameV:Value}{Q:Unit->Shared->Prop}(hC:h.get? C=some (excClassObj nm q C N bs bm hdct sn sub ab col dd k0 k1 k2 k3 k5 newId))(T:OwnTail h vM bm)
 (hx:h.get? a=some o) (hc:o.cls=.ref C) (hq:Q () ⟨h,g,d,t,os⟩):wpAny M A (checkBuiltinCall "BaseException.__getattribute__" ⟨[.ref a,nameV],[]⟩) Q E ⟨h,g,d,t,os⟩:=by
 have hk:builtinKind "BaseException.__getattribute__"=some .slot:=by decide +kernel
 have hsplit:splitId "BaseException.__getattribute__"=some ("BaseException","__getattribute__"):=by decide +kernel
 have hcB:(Value.ref C::bm).contains (.type "BaseException")=true:=by rw[List.contains_cons,T.hasType (show vM.contains (.type "BaseException")=true by decide)];rfl
 have ha:=F.args_bexc_ga (.ref a) nameV
 simp only[checkBuiltinCall,hk,hsplit]
 refine wpAny_bind ?_
 ·unfold isInstance
  repeat (first | (with_reducible refine wpAny_loadPart_at hx ?_;rw[hc]) | (with_reducible refine wpAny_isSubtype_exc hC ?_;rw[hcB]) | wp_step)
  exact hq
theorem Yu3{tk:Tok}{Q:Fin->Shared->Prop}(hC:h.get? C=some (excClassObj nm q C N bs bm hdct sn sub ab col dd k0 k1 k2 k3 k5 newId))(T:OwnTail h vM bm)(TN:TailN h vM (.ref C::bm))(hx:h.get? a=some o)(hc:o.cls=.ref C)(hq:Q (.done (.ret (.ref C))) ⟨h,g,d,t,os⟩) :
 wpAny (model prog w) A (Builtin.«object.__getattribute__» ⟨[.ref a,.str "__class__" tk],[]⟩) Q E ⟨h,g,d,t,os⟩:=by
 have hT5:(⟨h,g,d,t,os⟩:Shared).TypeIs (.builtin "object.__class__") "getset_descriptor":=F.typeOf_object_class
 have f5:=F.typeOf_object_class
 have f6:=F.slot_gs_get.lookup
 have f7:=F.slot_gs_set.lookup
 have hmA:("__class__":Str)∈qN:=.tail _ (.tail _ (.head _))
 repeat (any_goals (first | assumption | (with_reducible refine wpAny_loadPart_at hx ?_;rw[hc]) | with_reducible refine Yu1 hmA hC TN Yn9 ?_ | wp_step))
 refine y2n hC T hx hc ?_
 repeat (any_goals (first | assumption | wp_step))
theorem Yyp{tk:Tok}{R:Result->Shared->Prop}(hC:h.get? C=some (excClassObj nm q C N bs bm hdct sn sub ab col dd k0 k1 k2 k3 k5 newId))(T:OwnTail h vM bm)(TN:TailN h vM (.ref C::bm))(hx:h.get? a=some o)(hc:o.cls=.ref C)(hq:R (.ok (.ret (.ref C))) ⟨h,g,d,t,os⟩) :
 codeAny (model prog w) A (.call (.builtin "BaseException.__getattribute__") ⟨[.ref a,.str "__class__" tk],[]⟩) R ⟨h,g,d,t,os⟩:=
 codeAny_call_builtin F.attrBase_ValueError.ga.plain F.entry_bexc_ga (Yu2 hC T hx hc (Yu3 hC T TN hx hc hq))
theorem y5l{tk:Tok}{Q:Value->Shared->Prop}(hC:h.get? C=some (excClassObj nm q C N bs bm hdct sn sub ab col dd k0 k1 k2 k3 k5 newId))(T:OwnTail h vM bm)(TN:TailN h vM (.ref C::bm))(hx:h.get? a=some o)(hc:o.cls=.ref C)(hq:Q (.ref C) ⟨h,g,d,t,os⟩) :
 wpAny (model prog w) A (getAttrBy (.ref a) (.str "__class__" tk) false) Q E ⟨h,g,d,t,os⟩:=by
 have f3:=F.attrBase_ValueError.ga.bind (.ref a)
 have hx2:(Value.builtin "BaseException.__getattribute__"==Value.builtin "object.__getattribute__")=false:=by decide +kernel
 have hx1:(onTheHeap (Value.ref C)&&Value.builtin "BaseException.__getattribute__"==Value.builtin "object.__getattribute__")=false:=by rw[hx2];rfl
 have hm1:("__getattribute__":Str)∈qN:=.head _
 have hm2:("__getattr__":Str)∈qN:=.tail _ (.head _)
 repeat (any_goals (first | assumption | (with_reducible refine wpAny_loadPart_at hx ?_;rw[hc]) | with_reducible refine Yu1 hm1 hC TN F.attrBase_ValueError.ga.lookup ?_ | with_reducible refine Yu1 hm2 hC TN F.attrBase_ValueError.noGetattr ?_ | wp_step))
 refine Yyp hC T TN hx hc ?_
 repeat (any_goals (first | assumption | wp_step))
theorem Yyq{Q:Option Value->Shared->Prop}(hC:h.get? C=some (excClassObj nm q C N bs bm hdct sn sub ab col dd k0 k1 k2 k3 k5 newId))(T:OwnTail h vM bm)(TN:TailN h vM (.ref C::bm))(hx:h.get? a=some o)(hc:o.cls=.ref C)(hq:Q (some (.ref C)) ⟨h,g,d,t+1,os⟩) :
 wpAny (model prog w) A (getAttr? (.ref a) "__class__") Q E ⟨h,g,d,t,os⟩:=by
 unfold getAttr? getAttrBy?
 repeat (any_goals (first | assumption | with_reducible apply y5l hC T TN hx hc | wp_step))
end
end
section
section
variable {prog:Program} {w:World} {A:Around} {E:Value->Shared->Prop} {h:Heap} {g:Array GenState} {d:Drawn} {t:Nat} {os:OsState} {a:Addr} {o:Obj}
 {nm q nm' q':Str} {C N B N':Addr} {bs bm bs' bm':List Value} {hdct hdct':Bool} {sn sn':List Str} {sub sub':List Value} {ab ab':Bool} {col col':Option Bool} {dd dd':Option Addr} {k0 k1 k2 k3 k5 l0 l1 l2 l3 l5:Option Value} {newId newId':String}
theorem Yyr{dep:Int}{tk:Tok}{Q:Fin->Shared->Prop}(hC:h.get? C=some (excClassObj nm q C N bs bm hdct sn sub ab col dd k0 k1 k2 k3 k5 newId))(T:OwnTail h vM bm)(TN:TailN h vM (.ref C::bm))
 (hB:h.get? B=some (excClassObj nm' q' B N' bs' bm' hdct' sn' sub' ab' col' dd' l0 l1 l2 l3 l5 newId')) (hx:h.get? a=some o) (hc:o.cls=.ref C) {z:Bool} (hz:(Value.ref C::bm).contains (.ref B)=z)
 (hq:∀t',Q (.done (.ret (.bool z))) ⟨h,g,d,t',os⟩):wpAny (model prog w) A (Builtin.«isinstance.nested» ⟨[.ref a,.ref B,.int dep tk],[]⟩) Q E ⟨h,g,d,t,os⟩:=by
 have q0:=hq t
 have q1:=hq (t+1)
 by_cases e:C=B
 ·subst e
  obtain rfl:true=z:=by rw[<-hz];simp
  have eb:(Value.ref C==Value.ref C)=true:=by simp
  repeat (any_goals (first | assumption | (with_reducible refine wpAny_loadPart_at hx ?_;rw[hc]) | wp_step))
 ·have eb:(Value.ref C==Value.ref B)=false:=by
   cases e2:(Value.ref C==Value.ref B)with
   | false=>rfl
   | true=>exact absurd (by injection eq_of_beq e2) e
  cases z with
  | true=>repeat (any_goals (first | assumption | (with_reducible refine wpAny_loadPart_at hx ?_;rw[hc]) | with_reducible refine wpAny_loadPart_at hB ?_ | with_reducible refine wpAny_loadPart_at hC ?_ | (with_reducible refine wpAny_isSubtype_exc hC ?_;rw[hz]) | wp_step))
  | false=>repeat (any_goals (first | assumption | (with_reducible refine wpAny_loadPart_at hx ?_;rw[hc]) | with_reducible refine wpAny_loadPart_at hB ?_ | with_reducible refine wpAny_loadPart_at hC ?_ | (with_reducible refine wpAny_isSubtype_exc hC ?_;rw[hz]) | with_reducible refine Yyq hC T TN hx hc ?_ | wp_step))
theorem Yu4{dep:Int}{tk:Tok}{Q:Fin->Shared->Prop}(hC:h.get? C=some (excClassObj nm q C N bs bm hdct sn sub ab col dd k0 k1 k2 k3 k5 newId))(T:OwnTail h vM bm)(hx:h.get? a=some o)(hc:o.cls=.ref C)
 (hq:Q (.done (.ret (.bool true))) ⟨h,g,d,t,os⟩):wpAny (model prog w) A (Builtin.«isinstance.nested» ⟨[.ref a,.type "ValueError",.int dep tk],[]⟩) Q E ⟨h,g,d,t,os⟩:=by
 have hz:(Value.ref C::bm).contains (.type "ValueError")=true:=by rw[List.contains_cons,T.hasType (show vM.contains (.type "ValueError")=true by decide)];rfl
 have ht:typeOf (.type "ValueError")=pure (.type "type"):=by kernel_rfl
 have eb:(Value.ref C==Value.type "ValueError")=false:=by rfl
 repeat (any_goals (first | assumption | (with_reducible refine wpAny_loadPart_at hx ?_;rw[hc]) | with_reducible refine wpAny_loadPart_at hC ?_ | (with_reducible refine wpAny_isSubtype_exc hC ?_;rw[hz]) | wp_step))
end
end
section
def Xp(K:W.Frag)(mg:Str->Option Value)(x y:Str)(z:Bool):Prop:=∃C D,mg x=some (.ref C)/\mg y=some (.ref D)/\XC K C/\XQ K C/\XC K D/\(mroK K C).contains (.ref D)=z
def spX(K:W.Frag)(mg:Str->Option Value)(n:Nat)(fr:List D->Option Bool)(xn:Str):Sp:=fun vs H _ E=>vs.length=n/\∃ds G,Same G H/\RpL K G ds vs/\fr ds=some true/\∀C H' G',mg xn=some (.ref C)->Gr H G H' G'->E (.ref C) none H'
def sxOf(K:W.Frag)(mg:Str->Option Value)(E:XK)(xn:Str)(r:Ro->Option Bool):TS:=fun _ σ H=>∃ρ H0 G0 G,r ρ=some true/\SR K H0 G0 σ H G ρ/\∀C H' G',mg xn=some (.ref C)->Gr H0 G0 H' G'->E (.ref C) none H'
structure ZX(X:Cx)(E:XK)(xn:Str)(sts:List Stmt)(r:Ro->Option Bool):Prop where
 un:PSs X sts (sxOf X.K X.mg E xn r)
def Okx(P:Program)(w:World)(K:W.Frag)(mg:Str->Option Value)(base:Heap)(k n:Nat)(x:Str)(ps:List Str)(fr:List D->Option Bool)(xn:Str):Prop:=
 ∃a fd,FnOk P w K mg base (CXN P w) k a fd ps (spX K mg n fr xn)/\Binds K fd ps []/\W.keepIn K (.ref a)=true/\mg x=some (.ref a)
def runX(k n:Nat)(r:Ro->Option Bool)(ds:List D):Option Bool:=if ds.length=k then r (Yl n ds)else none
def xYes:Ro->Option Bool:=fun _=>some true
def xNo:Ro->Option Bool:=fun _=>some false
def xIf(c:Ro->Option Bool)(a b:Ro->Option Bool):Ro->Option Bool:=fun ρ=>(c ρ).bind fun k=>if k=true then a ρ else b ρ
def Yoa(ga:Ro->Option (List D))(fr:List D->Option Bool):Ro->Option Bool:=fun ρ=>(ga ρ).bind fr
theorem PA.nox'{X:Cx}{es:List Expr}{t:TA}(h:PA X.nox es t):PA X es t:=fun pos pins s σ H Q I hw=>
 wpAny_mono (h pos pins s σ H Q (I.wish _) hw) (fun _ _ ⟨v,H',I',r,q⟩=>⟨v,H',I'.unwish,r,q⟩) fun _ _ z=>False.elim z
section
variable {P:Program} {w:World} {K:W.Frag} {mg:Str->Option Value} {base:Heap} {N:List Str} {qual xn:Str} {scope:Scope} {f:Addr} {cd:Value} {A:Around} {outer:List Env} {s0:Shared} {H0:Hp} {E:XK} {sts rest:List Stmt}
theorem Yys{y m:Str}{np p1 cpos pos:Pos}{j:Nat}{z:Bool}(hp:Xp K mg xn y z)(hg:Gl (cxOf (CXN P w) P w K mg base N qual scope f cd A outer s0 H0 E) xn:=by rfl)(hdb:(xn==("__debug__":Str))=false:=by decide)
 (hs:starEach [Expr.Constant (.str m) j p1] (envOfC qual scope s0.heap.objs.size f cd)=[(false,eval (Expr.Constant (.str m) j p1) (envOfC qual scope s0.heap.objs.size f cd))]:=by rfl) :
 ZX (cxOf (CXN P w) P w K mg base N qual scope f cd A outer s0 H0 E) E xn (.Raise (some (.Call (.Name xn np) [.Constant (.str m) j p1] [] cpos)) none pos::rest) xYes:=by
 obtain⟨C,_,hm,_,hc,_⟩:=hp
 exact⟨PSs.imp (Ydg (Yq9 hm hc hg hdb hs) Yfs) fun D σ H ⟨ρ,H0,G0,G,_,s,h⟩=>h C H G hm s.gr⟩
theorem y5m{X:Cx}:ZX X E xn sts xNo:=⟨PSs.imp Yfs fun _ _ _ ⟨_,_,_,_,e,_⟩=>by cases e⟩
theorem Yu5{X:Cx}{c:Expr}{a:List Stmt}{fc ra rr:Ro->Option Bool}{pos:Pos}(hc:ZT X.nox c fc)(ha:ZX X E xn a ra)(hr:ZX X E xn rest rr):ZX X E xn (.If c a [] pos::rest) (xIf fc ra rr):=
 ⟨PSs.imp (Ydg (Ys5 (PT.nox hc.un) ha.un Yox) hr.un) fun D σ H ⟨ρ,H0,G0,G,e,s,h⟩=>by
  unfold xIf at e
  obtain⟨k,h1,e⟩:=qa e
  refine tTof.at h1 s fun H1 G1 g1 s1=>?_
  cases k with
  | true=>
    rw[if_pos rfl]at e ⊢
    exact⟨ρ,H0,G0,G1,e,s1,h⟩
  | false=>
    rw[if_neg qi]at e ⊢
    exact⟨ρ,H0,G0,G1,e,s1,h⟩⟩
theorem Ysp{x:Str}{st:Stmt}{fd:FuncData}{ps:List Str}{k n m:Nat}{r:Ro->Option Bool}(F:Fun K x qual st f fd)(S:FnScope N ps (defScope st))(hn:N.length=n)(hm:ps.length=m)
 (hb:∀(cdv:Value) (A:Around) (outer:List Env) (s:Shared) (H:Hp) (E:XK),Room k (A.deeper (envOfC qual (defScope st) s.heap.objs.size f cdv))->ZX (cxOf (CXN P w) P w K mg base N qual (defScope st) f cdv A outer s H E) E xn (defBody st) r) :
 FnOk P w K mg base (CXN P w) (k+1) f fd ps (spX K mg m (runX m n r) xn):=by
 obtain⟨oc,od,kV,doc,pm,an,cdv,ct,osl,rfl,lk,hcd⟩:=F.ex
 refine y02 lk hcd S (fun vs H Q E h=>by rw[h.1,hm]) fun A outer s H vs Q E hr h=>?_
 obtain⟨hl,ds,G,sm,rr,e,q⟩:=h
 refine⟨_,(hb cdv A outer s H E hr).un,?_⟩
 unfold runX at e
 split at e
 ·exact⟨Yl n ds,H,G,G,e,by rw[<-hn];exact SR.start sm rr,fun C H' G' hC g=>q C H' G' hC g⟩
 ·cases e
end
def tryF(ga:Ro->Option (List D))(fr:List D->Option Bool)(g:Ro->Option Out):Ro->Option Out:=fun ρ=>(ga ρ).bind fun l=>(fr l).bind fun b=>if b=true then g ρ else none
section
variable {X:Cx} {j k n:Nat} {x y nm xn:Str} {ps:List Str} {fr:List D->Option Bool} {p cpos pos1 np hpos pos:Pos} {e:Expr} {es:List Expr} {ga:Ro->Option (List D)} {b₀:Stmt} {suite:List Stmt} {g:Ro->Option Out}
theorem Yyt(c:Okx X.prog X.w X.K X.mg X.base j n x ps fr xn)(hp:Xp X.K X.mg xn y true)(hr:Room k X.A)(hg:Gl X x)(hgy:Gl X y)(ha:ZA X (e::es) ga)(hl:∀ρ l,ga ρ=some l->l.length=n)(hs:∀ea ob,(∀C,X.mg xn=some (.ref C)->Xo ob (.ref C))->ZB (Cx.mk X ea [(ea,ob)]) (b₀::suite) g)
 (hxe:∀e s,¬X.xe e s:=by exact fun _ _ h=>h) (hx:X.ex=[]:=by rfl) (hst:X.stack=X.env::X.outer:=by rfl) (hfr:X.env.frame=some X.env.locals:=by rfl) (hj:j<=k:=by first | exact qu _ | lia)
 (hdb:(x==("__debug__":Str))=false:=by decide) (hdy:(y==("__debug__":Str))=false:=by decide) (he:starEach (e::es) X.env=(false,eval e X.env)::starEach es X.env:=by rfl) (hpl:(backTo cpos (starEach es X.env)).any (·.1)=false:=by rfl) (hsw:swapsWith (.Call (.Name x p) (e::es) [] cpos) none pos1.line X.env=pure false:=by rfl) :
 ZS X (.Try [.Expr (.Call (.Name x p) (e::es) [] cpos) pos1] [.ExceptHandler (some (.Name y np)) none (b₀::suite) hpos] [] [] pos) (tryF ga fr g):=by
 obtain⟨a,fd,F,hb,hk,hm⟩:=c
 obtain⟨C,B,mC,mB,hC,_,hB,hin⟩:=hp
 refine⟨PS.imp (y2k (ts:=sOf X.K g) hxe hx hst hfr (F.mono hj) hr hg hm hk hb ha.un hB hC mB hgy hin (fun ea ob hob=>(hs ea ob fun C' q=>by rw[mC]at q;cases q;exact hob).un) hdb hdy he hpl hsw) fun D σ H ⟨ρ,out,H0,G0,G,e,s,h⟩=>?_⟩
 unfold tryF at e
 obtain⟨l,h1,e⟩:=qa e
 obtain⟨b,h2,e⟩:=qa e
 cases b with
 | false=>rw[if_neg qi]at e;cases e
 | true=>
   rw[if_pos rfl]at e
   refine tAof.at h1 s fun vs H1 G1 g1 r1 s1=>⟨by rw[r1.length];exact hl ρ l h1,l,G1,s1.seen,r1,h2,fun C' H' G' hC' g'=>?_⟩
   rw[mC]at hC'
   cases hC'
   exact⟨rfl,ρ,out,H0,G0,G',e,s1.grow g',h⟩
theorem SR.drop{K:W.Frag}{H0 G0 H G:Hp}{σ:L2.St}{ρ:Ro}(s:SR K H0 G0 σ H G ρ)(i:Nat):SR K H0 G0 (σ.set i none) H G (ρ.set i none):=by
 have get:∀(m:Nat) (o:B),(ρ.set i none)[m]?=some (some o)->m≠i/\ρ[m]?=some (some o):=fun m o e=>by
  by_cases z:m=i
  ·subst z
   rw[List.getElem?_set,if_pos rfl]at e
   split at e<;>cases e
  ·rw[Qb (Ne.symm z)]at e
   exact⟨z,e⟩
 have gs:∀m,m≠i->(σ.set i none)[m]?=σ[m]?:=fun m z=>Qb (Ne.symm z)
 refine⟨s.gr,by rw[List.length_set,List.length_set];exact s.len,fun m d e=>?_,fun m l e=>?_,fun m m' l l' a b e e' ne q q'=>?_,fun m t ks vs e=>?_,fun m m' t ks vs t' ks' vs' a b e e' ne q q'=>?_⟩
 ·obtain⟨z,e⟩:=get _ _ e
  rw[gs m z];exact s.sh m d e
 ·obtain⟨z,e⟩:=get _ _ e
  rw[gs m z];exact s.ow m l e
 ·obtain⟨z,e⟩:=get _ _ e
  obtain⟨z',e'⟩:=get _ _ e'
  rw[gs m z]at q;rw[gs m' z']at q'
  exact s.ap m m' l l' a b e e' ne q q'
 ·obtain⟨z,e⟩:=get _ _ e
  rw[gs m z];exact s.od m t ks vs e
 ·obtain⟨z,e⟩:=get _ _ e
  obtain⟨z',e'⟩:=get _ _ e'
  rw[gs m z]at q;rw[gs m' z']at q'
  exact s.apd m m' t ks vs t' ks' vs' a b e e' ne q q'
theorem Yyu(i:Nat){gs:Addr->Ro->Option Out}(c:Okx X.prog X.w X.K X.mg X.base j n x ps fr xn)(hp:Xp X.K X.mg xn y true)(hr:Room k X.A)(hg:Gl X x)(hgy:Gl X y)(ha:ZA X (e::es) ga)(hl:∀ρ l,ga ρ=some l->l.length=n)(hN:X.N.Nodup)
 (hs:∀ea ob,(∀C,X.mg xn=some (.ref C)->Xo ob (.ref C))->ZB (Cx.mk X ea [(ea,ob)]) (b₀::suite) (gs ea)) (hgs:∀ea ρ out,g ρ=some out->∃ρ3,gs ea (ρ.set i (some (.sh (.adr ea))))=some (.nx ρ3)/\out=.nx (ρ3.set i none))
 (hxe:∀e s,¬X.xe e s:=by exact fun _ _ h=>h) (hx:X.ex=[]:=by rfl) (hst:X.stack=X.env::X.outer:=by rfl) (hfr:X.env.frame=some X.env.locals:=by rfl) (hj:j<=k:=by first | exact qu _ | lia) (hi:X.N[i]?=some nm:=by rfl) (hlo:X.env.kindOf nm=some .local:=by rfl)
 (hdb:(x==("__debug__":Str))=false:=by decide) (hdy:(y==("__debug__":Str))=false:=by decide) (he:starEach (e::es) X.env=(false,eval e X.env)::starEach es X.env:=by rfl) (hpl:(backTo cpos (starEach es X.env)).any (·.1)=false:=by rfl) (hsw:swapsWith (.Call (.Name x p) (e::es) [] cpos) none pos1.line X.env=pure false:=by rfl) :
 ZS X (.Try [.Expr (.Call (.Name x p) (e::es) [] cpos) pos1] [.ExceptHandler (some (.Name y np)) (some nm) (b₀::suite) hpos] [] [] pos) (tryF ga fr g):=by
 obtain⟨a,fd,F,hb,hk,hm⟩:=c
 obtain⟨C,B,mC,mB,hC,_,hB,hin⟩:=hp
 refine⟨PS.imp (y2l (i:=i) (ts:=fun D σ H=>∃ρ ρ2 H0 G0 G,g ρ=some (.nx ρ2)/\SR X.K H0 G0 σ H G ρ/\∀σ' H' G' ρ3,ρ3.set i none=ρ2->SR X.K H0 G0 σ' H' G' ρ3->D.nx σ' H') hxe hx hst hfr (F.mono hj) hr hg hm hk hb ha.un hB hC mB hgy hin hN (fun ea ob hob=>?_) hi hlo hdb hdy he hpl hsw) fun D σ H ⟨ρ,out,H0,G0,G,e,s,h⟩=>?_⟩
 ·refine PSs.imp (hs ea ob fun C' q=>by rw[mC]at q;cases q;exact hob).un fun D σ H ⟨σ',e1,e2,ρ,ρ2,H0,G0,G,e,s,h⟩=>?_
  obtain⟨ρ3,e3,e4⟩:=hgs ea ρ _ e
  cases e4
  subst e1
  exact⟨_,_,H0,G0,G,e3,s.set_sh i (by rw[Rp]),fun σ2 H2 G2 s2=>h σ2 H2 G2 ρ3 rfl s2⟩
 ·unfold tryF at e
  obtain⟨l,h1,e⟩:=qa e
  obtain⟨b,h2,e⟩:=qa e
  cases b with
  | false=>rw[if_neg qi]at e;cases e
  | true=>
    rw[if_pos rfl]at e
    refine tAof.at h1 s fun vs H1 G1 g1 r1 s1=>⟨by rw[r1.length];exact hl ρ l h1,l,G1,s1.seen,r1,h2,fun C' H' G' hC' g'=>?_⟩
    rw[mC]at hC'
    cases hC'
    obtain⟨ρ3,_,rfl⟩:=hgs 0 ρ _ e
    refine⟨rfl,ρ,_,H0,G0,G',e,s1.grow g',fun σ2 H2 G2 ρ4 e4 s2=>h _ H2 G2 ?_⟩
    rw[<-e4]
    exact s2.drop i
end
def isX(i:Nat)(ea:Addr)(z:Bool):Ro->Option D:=fun ρ=>(getV i ρ).bind fun d=>match d with
 | .adr b=>if b=ea then some (.bl z)else none
 | _=>none
section
variable {X:Cx} {ea:Addr} {ob:Obj} {x xn y:Str} {p p1 p2 pos:Pos} {z:Bool}
theorem Yu6{C B:Addr}(hob:Xo ob (.ref C))(hC:XC X.K C)(hQ:XQ X.K C)(hB:XC X.K B)(hz:(mroK X.K C).contains (.ref B)=z):Ye6 (Cx.mk X ea [(ea,ob)]) (.builtin "isinstance") (fun xs H Q=>xs=[.ref ea,.ref B]/\Q (.bl z) H):=by
 intro pins s σ H xs us Q I r h
 obtain⟨rfl,q⟩:=h
 obtain⟨u,u',rfl,r1,r2⟩:=y0x r
 cases (show u=Value.ref ea from r1)
 cases (show u'=Value.ref B from r2)
 have he:=(I.pin (ea,ob) (List.mem_append.mpr (.inl (List.mem_append.mpr (.inl (.head _)))))).1
 have X':X.K.In s.heap:=I.kIn
 obtain⟨bm,N,nm,q0,bs,hdct,sn,sub,ab,col,dd,k0,k1,k2,k3,k5,mN,oC,_,_,T,em⟩:=Ylv X' hC
 obtain⟨bm',N',nm',q',bs',hdct',sn',sub',ab',col',dd',l0,l1,l2,l3,l5,mN',oB,_,_,T',em'⟩:=Ylv X' hB
 have TN:=Yrd X' hQ
 rw[em]at hz TN
 refine call_isinstance (S:=fun _ R s'=>s'=s/\∀t',R (.ok (.ret (.bool z))) { s' with toks:=t' }) (fun _ _ _ _ s' hs=>?_) ⟨rfl,fun t'=>⟨.bl z,H,I.tok t',rfl,q⟩⟩
 obtain⟨rfl,hs⟩:=hs
 obtain⟨hp,g,d,t,os⟩:=s'
 exact isinstance_outer (Yyr oC T TN oB he hob.1 hz fun t'=>hs t') (by intro e;cases e)
theorem Yek(i:Nat)(hp:Xp X.K X.mg xn y z)(hob:∀C,X.mg xn=some (.ref C)->Xo ob (.ref C))(hm:X.mg "isinstance"=none)(hg:Gl X "isinstance":=by rfl)(hgy:Gl X y:=by rfl)(hi:X.N[i]?=some x:=by rfl)(hv:Vis X.env.scope x:=by first | exact Or.inl rfl | exact Or.inr (Or.inl rfl) | exact Or.inr (Or.inr rfl))
 (hb:bootBuiltins "isinstance"=some (.builtin "isinstance"):=by decide +kernel) (hd:(x==("__debug__":Str))=false:=by decide) (hcd:(x==("__classdict__":Str))=false:=by decide) (hdy:(y==("__debug__":Str))=false:=by decide)
 (hs:starEach [.Name x p1,.Name y p2] X.env=(false,eval (.Name x p1) X.env)::starEach [.Name y p2] X.env:=by rfl) (hs2:starEach [.Name y p2] X.env=(false,eval (.Name y p2) X.env)::starEach [] X.env:=by rfl) (hpl:(backTo pos (starEach [.Name y p2] X.env)).any (·.1)=false:=by rfl) :
 ZE (Cx.mk X ea [(ea,ob)]) (.Call (.Name "isinstance" p) [.Name x p1,.Name y p2] [] pos) (isX i ea z):=by
 obtain⟨C,B,mC,mB,hC,hQ,hB,hz⟩:=hp
 refine⟨PE.imp (Yjn (X:=Cx.mk X ea [(ea,ob)]) (Yu6 (hob C mC) hC hQ hB hz) hg hm hb (Ybb (Yd3 (i:=i) hi hv hd hcd) (Ybb (Yjt hgy mB (v:=.ref B) rfl hdy) Yd5 hs2) hs) (by decide) (by decide) hs hpl) fun σ H Q ⟨ρ,d,H0,G0,G,e,s,h⟩=>?_⟩
 obtain⟨d',h1,e2⟩:=qa (show(getV i ρ).bind _=some d from e)
 clear e
 cases d' with
 | adr b=>
   dsimp only at e2
   split at e2
   ·rename_i hb
    subst hb
    cases e2
    obtain⟨v,hv,rv⟩:=s.sh i _ (Yj5 h1)
    rw[Rp]at rv
    subst rv
    exact⟨_,hv,rfl,h _ H G (.refl s.seen) (by rw[Rp])⟩
   ·cases e2
 | _=>cases e2
theorem Yu7{C:Addr}(hob:Xo ob (.ref C))(hC:XC X.K C):Ye6 (Cx.mk X ea [(ea,ob)]) (.builtin "isinstance") (fun xs H Q=>xs=[.ref ea,.ty "ValueError"]/\Q (.bl true) H):=by
 intro pins s σ H xs us Q I r h
 obtain⟨rfl,q⟩:=h
 obtain⟨u,u',rfl,r1,r2⟩:=y0x r
 cases (show u=Value.ref ea from r1)
 cases (show u'=Value.type "ValueError" from r2)
 have he:=(I.pin (ea,ob) (List.mem_append.mpr (.inl (List.mem_append.mpr (.inl (.head _)))))).1
 obtain⟨bm,N,nm,q0,bs,hdct,sn,sub,ab,col,dd,k0,k1,k2,k3,k5,mN,oC,_,_,T,em⟩:=Ylv (show X.K.In s.heap from I.kIn) hC
 refine call_isinstance (S:=fun _ R s'=>s'=s/\R (.ok (.ret (.bool true))) s') (fun _ _ _ _ s' hs=>?_) ⟨rfl,⟨.bl true,H,I,rfl,q⟩⟩
 obtain⟨rfl,hs⟩:=hs
 obtain⟨hp,g,d,t,os⟩:=s'
 exact isinstance_outer (Yu4 oC T he hob.1 hs) (by intro e;cases e)
theorem Yyv(i:Nat){z':Bool}(hp:Xp X.K X.mg xn y z')(hob:∀C,X.mg xn=some (.ref C)->Xo ob (.ref C))(hm:X.mg "isinstance"=none)(hm2:X.mg "ValueError"=none)(hg:Gl X "isinstance":=by rfl)(hgy:Gl X "ValueError":=by rfl)(hi:X.N[i]?=some x:=by rfl)(hv:Vis X.env.scope x:=by first | exact Or.inl rfl | exact Or.inr (Or.inl rfl) | exact Or.inr (Or.inr rfl))
 (hb:bootBuiltins "isinstance"=some (.builtin "isinstance"):=by decide +kernel) (hb2:bootBuiltins "ValueError"=some (.type "ValueError"):=by decide +kernel) (hd:(x==("__debug__":Str))=false:=by decide) (hcd:(x==("__classdict__":Str))=false:=by decide)
 (hs:starEach [.Name x p1,.Name "ValueError" p2] X.env=(false,eval (.Name x p1) X.env)::starEach [.Name "ValueError" p2] X.env:=by rfl) (hs2:starEach [.Name "ValueError" p2] X.env=(false,eval (.Name "ValueError" p2) X.env)::starEach [] X.env:=by rfl) (hpl:(backTo pos (starEach [.Name "ValueError" p2] X.env)).any (·.1)=false:=by rfl) :
 ZE (Cx.mk X ea [(ea,ob)]) (.Call (.Name "isinstance" p) [.Name x p1,.Name "ValueError" p2] [] pos) (isX i ea true):=by
 obtain⟨C,B,mC,mB,hC,_⟩:=hp
 refine⟨PE.imp (Yjn (X:=Cx.mk X ea [(ea,ob)]) (Yu7 (hob C mC) hC) hg hm hb (Ybb (Yd3 (i:=i) hi hv hd hcd) (Ybb (Ys4 hgy hm2 hb2 (v:=.ty "ValueError") rfl (by decide) (by decide)) Yd5 hs2) hs) (by decide) (by decide) hs hpl) fun σ H Q ⟨ρ,d,H0,G0,G,e,s,h⟩=>?_⟩
 obtain⟨d',h1,e2⟩:=qa (show(getV i ρ).bind _=some d from e)
 clear e
 cases d' with
 | adr b=>
   dsimp only at e2
   split at e2
   ·rename_i hb
    subst hb
    cases e2
    obtain⟨v,hv,rv⟩:=s.sh i _ (Yj5 h1)
    rw[Rp]at rv
    subst rv
    exact⟨_,hv,rfl,h _ H G (.refl s.seen) (by rw[Rp])⟩
   ·cases e2
 | _=>cases e2
end
end
section
theorem Ymm:entryFor table "proto.unchain"=some Builtin.«proto.unchain»:=entryFor_of_tree (by kernel_rfl)
section
variable {prog:Program} {w:World} {A:Around} {E:Value->Shared->Prop} {s:Shared} {ea:Addr} {ob:Obj} {ws:Array Value} {X:Cx} {C:Value}
theorem Yu8{α:Type}{n:Addr}{o:Obj}{vs:Array Value}{Q:α->Shared->Prop}(hh:A.handled=some (.ref ea))(he:s.heap.get? ea=some ob)(hd:ob.data=.fields ws)(h2:ws[2]?=some .none)(hn:s.heap.get? n=some o)(hnd:o.data=.fields vs)(hsz:2 < vs.size)(hne:ea≠n)
 (h:E (.ref n) { s with heap:=s.heap.update n (Obj.mapFields (·.setIfInBounds 2 (.ref ea))) }):wpAny (model prog w) A (raiseNew (.ref n):Sem α) Q E s:=by
 unfold raiseNew
 refine wpAny_bind (wpAny_handled ?_)
 rw[hh]
 show wpAny _ _ (if (Value.ref ea != Value.ref n)=true then _ else _) _ _ _
 rw[if_pos (show(Value.ref ea != Value.ref n)=true from by simpa using hne)]
 refine wpAny_bind (wpAny_holding (wpAny_runValue (codeAny_builtin Ymm ?_)))
 unfold Builtin.«proto.unchain»
 refine wpAny_bind (wpAny_field he hd h2 ?_)
 rw[if_pos (by decide)]
 refine wpAny_bind (wpAny_pure (wpAny_pure ?_))
 refine wpAny_bind ?_
 unfold updateField
 refine wpAny_bind (wpAny_load hn ?_)
 rw[hnd]
 show wpAny _ _ (if 2 < vs.size then _ else _) _ _ _
 rw[if_pos hsz]
 exact wpAny_update hn (wpAny_throw h)
theorem Yu9{it l:Addr}{i:Nat}{items:Array Value}{Q:Option Value->Shared->Prop}(hh:A.handled=some (.ref ea))(he:s.heap.get? ea=some ob)(hob:ob.data=.fields ws)(h2:ws[2]?=some .none)(hne:ea≠it)
 (hit:s.heap.IsListIter it l i) (hl:s.heap.IsList l items) (hx:items[i]?=none) (hQ:∀h',Heap.ExtBut it s.heap h'->Q none { s with heap:=h' }):wpAny (model prog w) A (pyNext (.ref it)) Q E s:=by
 obtain⟨o,ho,hc,hd⟩:=id hit
 obtain⟨ol,hol,_,nl,hdl⟩:=hl
 unfold pyNext
 refine wpAny_bind (wpAny_attempt (wpAny_callSpecial?_slot (name:=Str.ofString "__next__") hit.typeIs slot_listiter_next (wpAny_call_entry slot_listiter_next hit.typeIs entry_listiter_next ?_ (args_listiter_next _))))
 show wpAny _ _ (field (.ref it) 0 >>= _) _ _ s
 refine wpAny_bind (wpAny_field ho hd (x:=.ref l) rfl ?_)
 show wpAny _ _ (if (Value.ref l==Value.none)=true then _ else _) _ _ s
 rw[if_neg (show ¬((Value.ref l==Value.none)=true) from qi)]
 show wpAny _ _ (field (.ref it) 1 >>= _) _ _ s
 refine wpAny_bind (wpAny_field ho hd (x:=.int i 0) rfl ?_)
 show wpAny _ _ (seqItems? (.ref l) >>= _) _ _ s
 refine wpAny_bind (wpAny_seqItems hol hdl ?_)
 simp only[Int.toNat_natCast,hx]
 refine wpAny_bind (wpAny_rule (wpAny_bind (wpAny_setField ho hd (by simp) ?_)))
 show wpAny _ _ (newExc (.type "StopIteration") [] >>= _) _ _ _
 refine wpAny_bind ?_
 simp only[newExc,newTuple]
 refine wpAny_bind (wpAny_newObj_type ?_ (by size_fits))
 refine wpAny_bind (m:=firstArgMember _ _) (wpAny_of_eq (a:=Value.none) (by first | rfl | (simp only[firstArgMember];rfl)) ?_)
 refine wpAny_newObj_type ?_ (by size_fits)
 have hlt:=ql he
 refine Yu8 (show A.in1.handled=some (.ref ea) from hh) (qe _ (qe _ ((Heap.get?_update_other _ _ (Ne.symm hne)).trans he))) hob h2 (qp _ rfl) rfl (by simp[ownMembersOf]) (qm (by rw[Heap.size_push,Heap.size_update];exact Nat.lt_succ_of_lt hlt)) ?_
 refine wpAny_bind (wpAny_isInstance (T:="StopIteration") (b:=true) ⟨_,Heap.get?_update_self _ (qp _ rfl) rfl,rfl⟩ isSubtype_stop ?_)
 refine wpAny_pure (hQ _ fun b u hb e=>?_)
 have:=ql e
 rw[Heap.get?_update_other _ _ (Nat.ne_of_gt (by rw[Heap.size_push,Heap.size_update];exact Nat.lt_succ_of_lt this))]
 exact qe _ (qe _ ((Heap.get?_update_other _ _ (Ne.symm hb)).trans e))
theorem Ypr(hh:A.handled=some (.ref ea))(hob:ob.data=.fields ws)(h2:ws[2]?=some .none)(I ax:Addr)(hne:ax≠I)(hei:ea≠I)(items:Array Value) :
 Walks prog w A I [I,ax,ea] [I] items.size (fun i v=>items[i]?=some v) (fun i h=>(h.IsListIter I ax i/\h.IsList ax items)/\h.get? ea=some ob) where
 sub:=fun b hb=>by simp at hb;simp[hb]
 frame:=fun _ _ _ st hk=>⟨⟨st.1.1.at fun o e=>hk I (by simp) o e,st.1.2.at fun o e=>hk ax (by simp) o e⟩,hk ea (by simp) _ st.2⟩
 item:=fun i s Q E hi st hQ=>by
  refine wpAny_pyNext_list_item st.1.1 st.1.2 (x:=items[i]) (by simp[hi]) fun h' hit' hs'=>?_
  exact hQ _ h' s.toks (by simp[hi]) ⟨⟨hit',st.1.2.extBut hs'.extBut hne⟩,hs'.extBut ea _ hei st.2⟩ fun b o hb e=>hs'.extBut b o (fun h=>hb (by simp[h])) e
 done:=fun s Q E st hQ=>Yu9 hh st.2 hob h2 hei st.1.1 st.1.2 (by simp) fun h' he'=>hQ h' s.toks fun b o hb e=>he' b o (fun h=>hb (by simp[h])) e
 self:=fun _ _ _ _ st hQ=>wpAny_pyIter_listiter st.1.1 hQ
theorem Yva(hob:Xo ob C):Ye6 (Cx.mk X ea [(ea,ob)]) (.builtin "any") (rBls fun bs=>.bl (bs.any id)):=by
 intro pins s σ H xs us Q I r h
 obtain⟨a,bs,rfl,hr,q⟩:=h
 obtain⟨u,rfl,ru⟩:=Yjk r
 cases ru
 obtain⟨its,rv,pl,hz⟩:=I.list (.inl hr)
 cases Ymc rv
 obtain⟨hcl,ws,hd,h2⟩:=hob
 have he:=(I.pin (ea,ob) (List.mem_append.mpr (.inl (List.mem_append.mpr (.inl (.head _)))))).1
 have hl:=pl.isList
 have hne:a≠s.heap.objs.size:=by
  obtain⟨o,ho,_⟩:=hl
  exact qm (ql ho)
 have hei:ea≠s.heap.objs.size:=qm (ql he)
 have hhm:(Cx.mk X ea [(ea,ob)]).A.in1.handled=some (.ref ea):=rfl
 refine call_any_walk (wpAny_pyIter_list hl ?_)
 refine⟨_,_,_,_,_,_,fun i=>bs.getD i false,rfl,Ypr hhm hd h2 s.heap.objs.size a hne hei _,⟨⟨⟨_,qp _ rfl,rfl,rfl⟩,?_⟩,qe _ he⟩,Ynv _ _ _ bs,fun h' tk k=>⟨.bl _,H,(show Inv (Cx.mk X ea [(ea,ob)]) pins σ H { s with heap:=h',toks:=tk } from Yjb I k),?_,q⟩⟩
 ·obtain⟨o,ho,r⟩:=hl
  exact⟨o,qe _ ho,r⟩
 ·show Value.bool _=Value.bool _
  rw[qk,qf,Ytu]
end
end
section
section
variable {X:Cx} {ea:Addr} {ob:Obj} {xn y:Str} {z:Bool}
theorem Ylw(hp:Xp X.K X.mg xn y z)(hob:∀C,X.mg xn=some (.ref C)->Xo ob (.ref C)):Ye6 (Cx.mk X ea [(ea,ob)]) (.builtin "any") (rBls fun bs=>.bl (bs.any id)):=by
 obtain⟨C,_,hC,_⟩:=hp
 exact Yva (hob C hC)
end
def Xk(K:W.Frag)(x y:Str)(z:Bool):Prop:=∃C D,W.nsIn K mainGlobals x=some (some (.ref C))/\W.nsIn K mainGlobals y=some (some (.ref D))/\XC K C/\XQ K C/\XC K D/\(mroK K C).contains (.ref D)=z
theorem Xk.on{K:W.Frag}{h:Heap}{mg:Str->Option Value}{x y:Str}{z:Bool}(F:Xk K x y z)(X:K.In h)(G:h.Ns mainGlobals mg):Xp K mg x y z:=by
 obtain⟨C,D,a,b,r⟩:=F
 exact⟨C,D,W.mg_of X G a,W.mg_of X G b,r⟩
theorem xk_mk{K:W.Frag}{x y:Str}{z:Bool}{C D:Addr}(a:W.nsIn K mainGlobals x=some (some (.ref C)))(b:W.nsIn K mainGlobals y=some (some (.ref D)))(c:W.excIn K C vM "ValueError.__new__"=true)(d:Yu0 K vM (mroK K C)=true)(e:W.excIn K D vM "ValueError.__new__"=true)(f:(mroK K C).contains (.ref D)=z):Xk K x y z:=⟨C,D,a,b,c,d,e,f⟩
end
section
section
variable {M:Model} {A:Around} {E:Value->Shared->Prop} {s:Shared} {env env0:Env} {outer:List Env} {L ea T:Addr} {C fl:Value} {base:Heap} {Q:Unit->Shared->Prop}
theorem Yyw{Q:Value->Shared->Prop}(hfr:A.frames=some (env0::outer))(ff:s.heap.FunFrames base (env0::outer))(hf0:env0.frame=some L)(hf:env.frame=some L)
 (h:∀h',Heap.SlotsOnly ((env0::outer).filterMap (·.frame)) s.heap h'->Q (.ref L) { s with heap:=h' }):wpAny M A (frameOf env) Q E s:=by
 unfold PySem.frameOf
 refine wpAny_bind (wpAny_frameEnvs hfr ?_)
 have hdw:((env0::outer).dropWhile fun x=>x.frame != env.frame)=env0::outer:=by simp[List.dropWhile,hf0,hf]
 rw[hdw]
 unfold frameObject
 refine wpAny_bind (wpAny_bind (wpAny_readyFrames_fun ff fun h₁ hs₁=>wpAny_pure ?_))
 rw[hf0]
 exact wpAny_pure (h h₁ hs₁)
theorem Yyx{oe:Obj}{vs:Array Value}{head:Value}{had:Bool}(hfr:A.frames=some (env0::outer))(ff:s.heap.FunFrames base (env0::outer))(hf0:env0.frame=some L)(hf:env.frame=some L)(he:s.heap.get? ea=some oe)(hd:oe.data=.fields vs)(h2:vs[2]?=some .none)
 (hQ:∀h' T',Exc h' ea T' oe.cls (rawInt L)->s.heap.get? T'=none->XStep s.heap h' ea T' (frs (env0::outer))->Q () { s with heap:=h' }) :
 wpAny M A (do let a <-frameOf env;let pl <-entryPlaceOf L had;let b <-EntryCells.newEntry head a .none (rawInt L) .none pl;setField (.ref ea) 1 b) Q E s:=by
 have hsz:1 < vs.size:=Nat.lt_of_succ_lt (Array.getElem?_eq_some_iff.mp h2).1
 have hne:ea∉frs (env0::outer):=fun hm=>by
  obtain⟨_,o,ho,hn⟩:=ff.mem hm
  rw[he]at ho;cases ho;exact hn vs hd
 refine wpAny_bind (Yyw hfr ff hf0 hf fun h₁ hs=>?_)
 refine wpAny_bind (wpAny_entryPlaceOf fun pl hpl=>?_)
 unfold EntryCells.newEntry newFields
 refine wpAny_bind (wpAny_newObj_type ?_ (hpl.sizeOk5 _ _ _ _ _))
 have he₁:h₁.get? ea=some oe:=(hs.2.1 ea hne).trans he
 generalize hob:({ cls:=.type "traceback",dict:=none,data:=.fields ([head,.ref L,.none,rawInt L,.none]++(if pl.isEmpty then List.replicate 6 Value.none else pl)).toArray }:Obj)=ob
 have hTe:h₁.objs.size≠ea:=Nat.ne_of_gt (ql he₁)
 have he₂:=qe (h:=h₁) ob he₁
 refine wpAny_setField he₂ hd hsz (hQ _ h₁.objs.size ?_ (Heap.get?_none_of_le (by rw[hs.1];exact qu _)) ⟨fun b o e n1 n2 n3=>?_,fun b o e m=>?_⟩)
 ·have hd₃:=Obj.data_mapFields hd (·.setIfInBounds 1 (Value.ref h₁.objs.size))
  have hT:(h₁.push ob).get? h₁.objs.size=some ob:=qp h₁ (by rw[<-hob];rfl)
  refine⟨_,_,ob,_,Heap.get?_update_self _ he₂ (Obj.isFreed_of_fields hd₃),⟨Obj.cls_mapFields _ _,by rw[Array.getElem?_setIfInBounds_ne (by decide)];exact h2⟩,hd₃,by simp[hsz],hTe,(Heap.get?_update_other _ _ (Ne.symm hTe)).trans hT,by rw[<-hob],by first | (simp;done) | (rcases hpl with rfl | ⟨_,_,_,_,_,_,_,rfl⟩<;>simp)⟩
 ·rw[Heap.get?_update_other _ _ (Ne.symm n1)]
  exact qe _ ((hs.2.1 b n3).trans e)
 ·obtain⟨sl,q⟩:=hs.2.2 b o e
  refine⟨sl,?_⟩
  rw[Heap.get?_update_other _ _ (fun z=>hne (by rw[z];exact m))]
  exact qe _ q
theorem Yre(hfr:A.frames=some (env0::outer))(hf0:env0.frame=some L)(hf:env.frame=some L)(ff:s.heap.FunFrames base (env0::outer))(x:Exc s.heap ea T C fl)
 (hQ:∀h' T',Exc h' ea T' C (rawInt L)->(T'=T\/s.heap.get? T'=none)->XStep s.heap h' ea T (frs (env0::outer))->Q () { s with heap:=h' }):wpAny M A (noteFrame (.ref ea) env) Q E s:=by
 obtain⟨oe,vs,oT,ts,he,⟨rfl,h2⟩,hd,h1,hne,hT,hdT,h3⟩:=x
 unfold noteFrame
 simp only[hf]
 refine wpAny_bind (wpAny_field he hd h1 ?_)
 rw[if_pos (show(Value.ref T != Value.none)=true from by simp)]
 refine wpAny_bind (wpAny_field hT hdT h3 ?_)
 by_cases hfl:(fl==rawInt L)=true
 ·rw[if_pos hfl]
  have hfe:fl=rawInt L:=eq_of_beq hfl
  subst hfe
  exact wpAny_pure (hQ s.heap T ⟨oe,vs,oT,ts,he,⟨rfl,h2⟩,hd,h1,hne,hT,hdT,h3⟩ (.inl rfl) ⟨fun b o e _ _ _=>e,fun b o e _=>⟨o.slots,e⟩⟩)
 ·rw[if_neg hfl]
  refine wpAny_bind (wpAny_setField hT hdT (Array.getElem?_eq_some_iff.mp h3).1 ?_)
  have other:∀b,b≠T->(s.heap.update T (Obj.mapFields (·.setIfInBounds 3 Value.none))).get? b=s.heap.get? b:=fun b hb=>Heap.get?_update_other _ _ (Ne.symm hb)
  have nT:∀b∈frs (env0::outer),b≠T:=fun b hb z=>by
   obtain⟨_,o,ho,hn⟩:=ff.mem hb
   rw[z,hT]at ho;cases ho;exact hn ts hdT
  have ff':(s.heap.update T (Obj.mapFields (·.setIfInBounds 3 Value.none))).FunFrames base (env0::outer):=ff.of_keeps fun b o hb hn=>⟨o,(other b fun z=>by rw[z,hT]at hb;cases hb;exact hn ts hdT).trans hb,rfl⟩
  refine Yyx hfr ff' hf0 hf ((other ea (Ne.symm hne)).trans he) hd h2 fun h' T' x' n st=>?_
  have nT':T'=T\/s.heap.get? T'=none:=by
   by_cases z:T'=T
   ·exact .inl z
   ·exact .inr ((other T' z).symm.trans n)
  refine hQ h' T' x' nT' ⟨fun b o e n1 n2 n3=>st.keep b o ((other b n2).trans e) n1 (fun z=>?_) n3,fun b o e m=>st.slot b o ((other b (nT b m)).trans e) m⟩
  rcases nT' with q | q
  ·exact n2 (z.trans q)
  ·rw[z,q]at e;cases e
theorem Ysq{l:List Env}{f:Option Addr}(x:Exc s.heap ea T C fl)(hQ:∀h',Exc h' ea T C (f.elim Value.none fun f=>rawInt f)->XStep s.heap h' ea T (frs l)->(∀b o,s.heap.get? b=some o->b≠T->h'.get? b=some o)->Q () { s with heap:=h' })(ff:s.heap.FunFrames base l):wpAny M A (setFlight (.ref ea) f) Q E s:=by
 obtain⟨oe,vs,oT,ts,he,hc,hd,h1,hne,hT,hdT,h3⟩:=x
 have hsz:3 < ts.size:=(Array.getElem?_eq_some_iff.mp h3).1
 unfold setFlight
 refine wpAny_bind (wpAny_field he hd h1 ?_)
 rw[if_pos (show(Value.ref T != Value.none)=true from by simp)]
 have other:∀b,b≠T->(s.heap.update T (Obj.mapFields (·.setIfInBounds 3 (f.elim Value.none fun f=>rawInt f)))).get? b=s.heap.get? b:=fun b hb=>Heap.get?_update_other _ _ (Ne.symm hb)
 refine wpAny_setField hT hdT hsz (hQ _ ?_ ⟨fun b o e _ n2 _=>(other b n2).trans e,fun b o e m=>⟨o.slots,(other b fun z=>?_).trans e⟩⟩ fun b o e n=>(other b n).trans e)
 ·exact⟨oe,vs,_,_,(other ea (Ne.symm hne)).trans he,hc,hd,h1,hne,Heap.get?_update_self _ hT (Obj.isFreed_of_fields (Obj.data_mapFields hdT _)),Obj.data_mapFields hdT _,by simp[hsz]⟩
 ·obtain⟨_,o',ho,hn⟩:=ff.mem m
  rw[z,hT]at ho;cases ho;exact hn ts hdT
theorem Yvb(hfr:A.frames=some (env::outer))(hf:env.frame=some L)(ff:s.heap.FunFrames base (env::outer))(x:Exc s.heap ea T C fl)
 (hQ:∀h' T',Exc h' ea T' C .none->(T'=T\/s.heap.get? T'=none)->XStep s.heap h' ea T (frs (env::outer))->Q () { s with heap:=h' }):wpAny M A (leaving env (.ref ea)) Q E s:=by
 unfold leaving
 refine wpAny_bind (Yre hfr hf hf ff x fun h1 T1 x1 z1 st1=>?_)
 refine Yiz (base:=base) (l:=env::outer) x1 (fun h2 x2 st2 _=>hQ h2 T1 x2 z1 ⟨fun b o e n1 n2 n3=>?_,fun b o e m=>?_⟩) (Yh1 ff fun b hb o e=>st1.slot b o e hb)
 ·refine st2.keep b o (st1.keep b o e n1 n2 n3) n1 (fun z=>?_) n3
  rcases z1 with q | q
  ·exact n2 (z.trans q)
  ·rw[z,q]at e;cases e
 ·obtain⟨sl,q⟩:=st1.slot b o e m
  obtain⟨sl',q'⟩:=st2.slot b _ q m
  exact⟨sl',q'⟩
end
def Fly(X:Cx)(pins:List (Addr × Obj))(σ:L2.St)(E:XK)(e:Value)(s:Shared):Prop:=∃ea T H C fl,e=.ref ea/\Inv X pins σ H s/\Exc s.heap ea T C fl/\Ofa X pins H ea/\Ofa X pins H T/\E C none H
section
variable {P:Program} {w:World} {K:W.Frag} {mg:Str->Option Value} {base:Heap} {N:List Str} {qual:Str} {scope:Scope} {f:Addr} {cd:Value} {A:Around} {outer:List Env} {s0:Shared} {H0:Hp} {E:XK}
theorem Ysr{pins:List (Addr × Obj)}{σ:L2.St}{e:Value}{s:Shared}(x:Fly (cxOf (CXN P w) P w K mg base N qual scope f cd A outer s0 H0 E) pins σ E e s):(cxOf (CXN P w) P w K mg base N qual scope f cd A outer s0 H0 E).xe e s:=by
 obtain⟨ea,T,H',C,fl,rfl,J,x,oe,oT,hE⟩:=x
 show wpAny _ _ (leaving _ _) _ _ _
 refine Yvb (base:=base) J.ok.frames rfl J.stack x fun h' T' x' hT' st=>?_
 have oT':Ofa (cxOf (CXN P w) P w K mg base N qual scope f cd A outer s0 H0 E) pins H' T':=by
  rcases hT' with rfl | z
  ·exact oT
  ·exact Ofa.none J rfl z
 have J':=Ypp J st oe oT
 exact⟨ea,T',H',C,rfl,J'.os,J'.bare,J'.base,J'.hok,x',oe.s0,oT'.s0,oe.hp,oT'.hp,hE⟩
end
end
end M
namespace L2
open PySem PySem.Spec PyProof.Rows M
def FlyE(X:Cx)(scope:Scope)(N:List Str)(cl:List (Str × Addr))(C:Addr)(fp:List Addr)(s:Shared)(H:Hp)(pn:List (Addr × Obj))(E:XK)(e:Value)(s':Shared):Prop:=
 ∃σ1 s1 H1 ea T H2 C',e=.ref ea/\Inv (Yak X scope N cl C fp s H) pn σ1 H1 s1/\s1.heap.get? ea=none/\s1.heap.get? T=none/\Inv (Yak X scope N cl C fp s H) pn σ1 H2 s'/\Exc s'.heap ea T C' .none/\H2 ea=none/\H2 T=none/\E C' none H2
abbrev cxE(X:Cx)(scope:Scope)(N:List Str)(cl:List (Str × Addr))(C:Addr)(fp:List Addr)(s:Shared)(H:Hp)(pn:List (Addr × Obj))(E:XK):Cx:={ Yak X scope N cl C fp s H with pn:=pn,xe:=fun e s'=>FlyE X scope N cl C fp s H pn E e s' }
section
variable {X:Cx} {scope:Scope} {N:List Str} {cl:List (Str × Addr)} {C:Addr} {fp:List Addr} {s0 s:Shared} {H0 H:Hp} {pn:List (Addr × Obj)} {E:XK} {σ:St} {elt tg iter:Expr} {ifs:List Expr} {pos:Pos} {wi:TI} {g:TG} {ti:TT} {te:TE} {src:List (Option Nat)}
theorem toE(I:Inv (Yak X scope N cl C fp s0 H0) pn σ H s):Inv (cxE X scope N cl C fp s0 H0 pn E) [] σ H s:=
 ⟨⟨I.ok.mod,I.ok.kind,I.ok.glob,I.ok.blt,I.ok.above,I.ok.inj,I.ok.has,I.ok.cab,I.ok.hd,I.ok.frames,I.ok.stk,I.ok.exf,I.ok.bs,I.ok.bsz,I.ok.noex,I.ok.exfs,I.ok.funs,I.ok.frf⟩,I.os,I.bare,I.base,I.loc,I.cell,I.free,I.freeC,fun p q=>I.pin p (by simpa using q),I.hok,I.len⟩
theorem ofE(I:Inv (cxE X scope N cl C fp s0 H0 pn E) [] σ H s):Inv (Yak X scope N cl C fp s0 H0) pn σ H s:=
 ⟨⟨I.ok.mod,I.ok.kind,I.ok.glob,I.ok.blt,I.ok.above,I.ok.inj,I.ok.has,I.ok.cab,I.ok.hd,I.ok.frames,I.ok.stk,I.ok.exf,I.ok.bs,I.ok.bsz,I.ok.noex,I.ok.exfs,I.ok.funs,I.ok.frf⟩,I.os,I.bare,I.base,I.loc,I.cell,I.free,I.freeC,fun p q=>I.pin p (by simpa using q),I.hok,I.len⟩
theorem Yss{pins:List (Addr × Obj)}{σ:St}{H:Hp}{s:Shared}{Q:VK}{it:Addr}{fp:List Addr}{tn:Nat->Heap->Prop}{J:It}{R:Value->Addr->Result->Shared->Prop}{E:Value->Shared->Prop}{E1:XK}
 (S:CompSc X.N X.env.scope N src scope) (hc:X.calm=true) (hg:∀cl C fp s H,PG (Yak X scope N cl C fp s H) tg g) (hi:∀cl C fp s H,PIfs (Yak X scope N cl C fp s H) ifs ti) (he:∀cl C fp s H pn,PE (cxE X scope N cl C fp s H pn E1) elt te)
 (I:Inv X pins σ H s) (T:Turn X.prog X.w X.K tg J fp it tn) (st:tn 0 s.heap) (hf:∀b∈fp,FpOk X pins H b)
 (hX:∀(cl:List (Str × Addr)) (C Dd:Addr) (s3 s':Shared) (H':Hp) (e:Value) (pn:List (Addr × Obj)),C≠X.env.locals->X.s₀.heap.objs.size<=C->(∀x c,X.env.cells.lookup x=some c->c≠C)->(∀p∈X.pn++pins,p.1≠C)->(∀σ1 H1 s1,Inv (Yak X scope N cl C fp s3 H') pn σ1 H1 s1->Inv X pins σ H1 s1)->FlyE X scope N cl C fp s3 H' pn E1 e s'->notedBy (model X.prog X.w) X.A (compEnvC scope cl C X.env) (fun e s'=>R (.ref Dd) C (.error e) s') e s')
 (h:∀p,H p=none->∃W:Nat->Nat->St->Hp->Prop,(∃m,W 0 m (capσ src σ) (upd H p (.lst [])))/\∀i m σ1 H2,W i m σ1 H2->
  (J.stop i H2/\Q (.ref p) H2)\/
  (J.go i H2/\∀x H3,J.yld i H2 x H3->g x σ1 H3 fun σ4 H4=>ti σ4 H4 fun b H5=>if b=true then te σ4 H5 fun v H6=>∃xs,H6 p=some (.lst xs)/\xs.length < sizeLine/\∃m',m' < m/\W (i+1) m' σ4 (upd H6 p (.lst (xs++[v])))else ∃m',m' < m/\W (i+1) m' σ4 H5))
 (hR:∀(D C:Addr) (s':Shared) (H':Hp) (m:Str->Option Value),Inv X pins σ H' s'->s'.heap.Ns C m->H' C=none->C≠X.env.locals->X.s₀.heap.objs.size<=C->(∀x c,X.env.cells.lookup x=some c->c≠C)->(∀p∈X.pn++pins,p.1≠C)->Q (.ref D) H'->R (.ref D) C (.ok .next) s') :
 wpAny (model X.prog X.w) X.A (newList []) (fun acc s₃=>wpAny (model X.prog X.w) X.A (newFunctionEnv scope X.env.globals (clOf X.env scope.names []) [] X.env.qual none .none (some X.env)) (fun cenv s₄=>
  codeAny (model X.prog X.w) X.A (.compStart (.ListComp elt [⟨tg,iter,ifs,0⟩] scope pos) 0 (.ref it) acc { cenv with scope:=relabel scope X.env }) (R acc cenv.locals) s₄) E s₃) E s:=by
 refine wpAny_newObj_type (Yj3 ?_)
 have hfree:H s.heap.objs.size=none:=I.fresh
 obtain⟨W,⟨m0,w0⟩,turn⟩:=h s.heap.objs.size hfree
 have I3:Inv X pins σ (upd H s.heap.objs.size (.lst [])) { s with heap:=s.heap.push { cls:=.type "list",dict:=none,data:=.seq ([]:List Value).toArray },toks:=s.toks }:=I.lnew (ys:=[]) (its:=[]) .nil (Nat.zero_le _)
 generalize hD:s.heap.objs.size=Dd at *
 generalize hH3:upd H Dd (.lst [])=H3 at *
 have kp0:∀b o,s.heap.get? b=some o->(s.heap.push { cls:=.type "list",dict:=none,data:=.seq ([]:List Value).toArray }).get? b=some o:=fun b o e=>qe _ e
 have lt0:∀b o,s.heap.get? b=some o->b≠Dd:=fun b o e=>by rw[<-hD];exact qm (ql e)
 generalize hs3:s.heap.push { cls:=.type "list",dict:=none,data:=.seq ([]:List Value).toArray }=hp3 at *
 have f3:∀b∈fp,FpOk X pins H3 b:=fun b hb=>by
  obtain⟨o,e,_⟩:=T.obj _ _ st b hb
  refine⟨?_,(hf b hb).2⟩
  rw[<-hH3,Yn (lt0 b o e)]
  exact(hf b hb).1
 have ob3:∀b∈fp,∃o,hp3.get? b=some o:=fun b hb=>by
  obtain⟨o,e,_⟩:=T.obj _ _ st b hb
  exact⟨o,kp0 b o e⟩
 dsimp only
 have hns₁:(pushCells (hp3.push { cls:=.type "dict",data:=.dict #[] }) scope.names).Ns hp3.objs.size (fun _=>none):=(Heap.Ns.new hp3 (.type "dict")).keeps (pushCells_keeps _ _)
 have old:∀b o,hp3.get? b=some o->(pushCells (hp3.push { cls:=.type "dict",data:=.dict #[] }) scope.names).get? b=some o:=fun b o e=>pushCells_keeps _ _ b o (qe _ e)
 have cok:=cellsFrom_ok scope.names (hp3.push { cls:=.type "dict",data:=.dict #[] }) (hp3.objs.size+1) [] ⟨fun _ _ hm=>(nomatch hm),List.Pairwise.nil⟩ (by rw[Heap.size_push];exact qu _)
 rw[Heap.size_push]at cok
 have chas:∀x,scope.names.lookup x=some NameKind.cell->∃c,(cellsFrom (hp3.objs.size+1) scope.names []).lookup x=some c:=fun x hx=>Option.isSome_iff_exists.mp (PySem.W.cellsFrom_some _ _ _ (.inl hx))
 have cmem:∀x c,(x,c)∈cellsFrom (hp3.objs.size+1) scope.names []->(x,NameKind.cell)∈scope.names:=fun x c h=>Ydu _ _ x c h
 generalize cellsFrom (hp3.objs.size+1) scope.names []=own at *
 generalize pushCells (hp3.push { cls:=.type "dict",data:=.dict #[] }) scope.names=h₁ at *
 have I4:Inv (Yak X scope N (own++clOf X.env scope.names []) hp3.objs.size fp { s with heap:=hp3,toks:=s.toks } H3) [] (capσ src σ) H3 { s with heap:=h₁,toks:=s.toks }:=
  Ylr (s:={ s with heap:=hp3,toks:=s.toks }) (tk:=s.toks) S I3 f3 ob3 hns₁ old cok cmem chas
 have st4:tn 0 h₁:=T.keep _ _ _ st fun b _ o e=>old b o (kp0 b o e)
 have hCl:hp3.objs.size≠X.env.locals:=Nat.ne_of_gt I3.lt
 have hCc:∀x c,X.env.cells.lookup x=some c->c≠hp3.objs.size:=fun x c e=>by
  obtain⟨v,q⟩:=I3.cell x c e
  exact qm q.lt
 have hCp:∀p∈X.pn++pins,p.1≠hp3.objs.size:=fun p hp=>qm (ql (I3.pin p hp).1)
 have stat:∀{H':Hp},(∀b∈fp,H' b=none)->∀b∈fp,FpOk (Yak X scope N (own++clOf X.env scope.names []) hp3.objs.size fp { s with heap:=hp3,toks:=s.toks } H3) [] H' b:=fun {H'} hn b hb=>by
  obtain⟨e1,e2⟩:=I4.ok.exf b hb
  exact⟨hn b hb,e1,I4.ok.exfs b hb,.inl hb,e2,fun p hp=>nomatch hp⟩
 have loop:codeAny (model X.prog X.w) X.A (.compLoop (.ListComp elt [⟨tg,iter,ifs,0⟩] scope pos) 0 (.ref it) (.ref Dd) (compEnvC scope (own++clOf X.env scope.names []) hp3.objs.size X.env)) (R (.ref Dd) hp3.objs.size) { s with heap:=h₁,toks:=s.toks }:=by
  refine Yds (fun n s'=>∃i σ' H',Inv (Yak X scope N (own++clOf X.env scope.names []) hp3.objs.size fp { s with heap:=hp3,toks:=s.toks } H3) [] σ' H' s'/\tn i s'.heap/\(∀b∈fp,H' b=none)/\W i n σ' H') ?_ m0 ⟨0,_,H3,I4,st4,fun b hb=>(f3 b hb).1,w0⟩
  rintro n s3 ⟨i,σ3,H3',I3',st3,fr3,w3⟩
  rcases turn i n σ3 H3' w3 with⟨stop,qn⟩ | ⟨go,step⟩
  ·refine thn (T.done (Yak X scope N (own++clOf X.env scope.names []) hp3.objs.size fp { s with heap:=hp3,toks:=s.toks } H3) rfl rfl rfl hc i [] s3 σ3 H3' _ I3' (stat fr3) st3 stop) fun r s4 ⟨hr,I5⟩=>?_
   subst hr
   obtain⟨m,hm,_⟩:=I5.loc
   exact hR Dd hp3.objs.size s4 H3' m (Yma I3 f3 I5) hm I5.free hCl (qy I3.sz (qu _)) hCc hCp qn
  ·refine thn (T.item (Yak X scope N (own++clOf X.env scope.names []) hp3.objs.size fp { s with heap:=hp3,toks:=s.toks } H3) rfl rfl rfl hc i [] s3 σ3 H3' _ I3' (stat fr3) st3 go) fun r s4 ⟨u,hr,h4⟩=>?_
   subst hr
   refine thn h4 fun _ s5 ⟨x,H5,I5,r5,y5,st5,fr5⟩=>?_
   have I5':=I5.pinned (stat fr5) (T.obj _ _ st5)
   have un:∀{α:Type} {t:Sem α} {Q':α->Shared->Prop} {E':Value->Shared->Prop} {s':Shared},wpAny (model X.prog X.w) X.A t Q' (fun _ _=>False) s'->wpAny (model X.prog X.w) X.A t Q' E' s':=fun h=>wpAny_mono h (fun _ _ q=>q) fun _ _ f=>f.elim
   refine un (thn (hg _ _ _ _ _ _ s5 σ3 H5 x u _ I5' r5 (step x H5 y5)) fun _ s6 ⟨σ6,H6,I6,q6⟩=>?_)
   refine un (thn (hi _ _ _ _ _ _ s6 σ6 H6 _ I6 q6) fun ok s7 ⟨H7,I7,q7⟩=>?_)
   have again:∀{H8:Hp} {s8:Shared} {m':Nat},m' < n->Inv (Yak X scope N (own++clOf X.env scope.names []) hp3.objs.size fp { s with heap:=hp3,toks:=s.toks } H3) ([]++Yjv fp s5.heap) σ6 H8 s8->W (i+1) m' σ6 H8->
    ∃m,m < n/\∃i σ' H',Inv (Yak X scope N (own++clOf X.env scope.names []) hp3.objs.size fp { s with heap:=hp3,toks:=s.toks } H3) [] σ' H' s8/\tn i s8.heap/\(∀b∈fp,H' b=none)/\W i m σ' H':=fun {H8 s8 m'} hm I8 w8=>by
    refine⟨m',hm,i+1,σ6,H8,I8.unpinned,T.keep _ _ _ st5 fun b hb o e=>(I8.pin (b,o) (Qj _ (Qj _ (Ydy hb e)))).1,fun b hb=>?_,w8⟩
    obtain⟨o,e,d⟩:=T.obj _ _ st5 b hb
    exact(I8.pin (b,o) (Qj _ (Qj _ (Ydy hb e)))).2.1
   cases ok with
   | false=>
     rw[if_neg qi]at q7 ⊢
     obtain⟨m',hm,w7⟩:=q7
     exact again hm I7 w7
   | true=>
     rw[if_pos rfl]at q7 ⊢
     refine wpAny_mono (he _ _ _ _ _ ([]++Yjv fp s5.heap) [] s7 σ6 H7 _ (toE I7) q7) (fun y s8 ⟨v,H8,I8',r8,q8⟩=>?_) (fun e s8 z=>hX _ _ _ _ _ _ _ _ hCl (qy I3.sz (qu _)) hCc hCp (fun σ1 H1 s1 J=>Yma I3 f3 J) z)
     have I8:=ofE I8'
     obtain⟨xs,e8,z8,m',hm,w8⟩:=q8
     refine un (thn (Yft _ s8 σ6 H8 (.ref Dd) [v] (.ref Dd) [y] (fun _ H9=>H9=upd H8 Dd (.lst (xs++[v]))) I8 rfl (.cons r8 .nil) ⟨Dd,xs,v,rfl,rfl,e8,z8,rfl⟩) fun _ s9 ⟨_,H9,I9,_,q9⟩=>?_)
     subst q9
     exact again hm I9 w8
 exact codeAny_compStart_list loop (T.self _ _ _ _ _ st4 loop)
theorem Yyy{E1:XK}{pins:List (Addr × Obj)}{σ:St}{H:Hp}{s:Shared}{fp:List Addr}{use:Option (Value->Sem Unit)}{Q:Value->Shared->Prop}{acc:Value}(hfly:∀pins σ e s,Fly X pins σ E1 e s->X.xe e s)(hx:X.ex=[])(hst:X.stack=X.env::X.outer)(hfr:X.env.frame=some X.env.locals)(I:Inv X pins σ H s)
 (cl:List (Str × Addr)) (C:Addr) (s3 s':Shared) (H':Hp) (e:Value) (pn:List (Addr × Obj)) (hCl:C≠X.env.locals) (hCs:X.s₀.heap.objs.size<=C) (hCc:∀x c,X.env.cells.lookup x=some c->c≠C) (hCp:∀p∈X.pn++pins,p.1≠C)
 (toX:∀σ1 H1 s1,Inv (Yak X scope N cl C fp s3 H') pn σ1 H1 s1->Inv X pins σ H1 s1) (z:FlyE X scope N cl C fp s3 H' pn E1 e s') :
 notedBy (model X.prog X.w) X.A (compEnvC scope cl C X.env) (fun e s'=>compPost (model X.prog X.w) X.A X.xe use Q acc C (.error e) s') e s':=by
 obtain⟨σ1,sa,Ha,ea,T',Hb,C',rfl,Ja,n1,n2,Jb,x,n3,n4,hE⟩:=z
 have Ia:=toX _ _ _ Ja
 have Ib:=toX _ _ _ Jb
 have oe:Ofa X pins Hb ea:=Ofa.of Ia hx n1 n3
 have oT:Ofa X pins Hb T':=Ofa.of Ia hx n2 n4
 obtain⟨m,hm,_⟩:=Jb.loc
 have hm':s'.heap.Ns C m:=hm
 obtain⟨oC,es,ep,hoC,hdC,rC⟩:=id hm'
 have nf:∀b ob vs,s'.heap.get? b=some ob->ob.data=.fields vs->b≠C:=fun b ob vs e d z=>by
  rw[z,hoC]at e;cases e;rw[hdC]at d;cases d
 have neC:ea≠C/\T'≠C:=by
  obtain⟨oe,vs,oT,ts,h1,_,h3,_,_,h6,h7,_⟩:=x
  exact⟨nf _ _ _ h1 h3,nf _ _ _ h6 h7⟩
 have ff:=Ib.stack
 rw[hst]at ff
 refine Yre (env0:=X.env) (outer:=X.outer) (L:=X.env.locals) (by rw[Ib.ok.frames,hst]) hfr hfr ff x fun h1 T1 x1 z1 st1=>?_
 rw[<-hst]at st1
 have I1:=Ypp Ib st1 oe oT
 have oT1:=Yra (h':=h1) Ib hx oT z1
 have neT1:T1≠C:=by
  rcases z1 with rfl | z
  ·exact neC.2
  ·intro w;rw[w,hoC]at z;cases z
 have hCf:C∉frs X.stack:=fun hb=>by
  rcases qt (Ib.stkSub _ hb)with w | w
  ·exact hCl w
  ·obtain⟨_,o,ho,_⟩:=I.ok.funs.mem w
   exact absurd (Qd (ql ho) hCs) (Nat.lt_irrefl _)
 refine⟨m,⟨oC,es,ep,st1.keep C oC hoC (Ne.symm neC.1) (Ne.symm neC.2) hCf,hdC,rC⟩,fun h' sb cenv hcv=>?_⟩
 have I3:=I1.turned (h':=h') (t':=s'.toks) (it:=C) (fun b o hb e=>(sb.2 b hb).trans e) Jb.free hCl (.inr hCs) hCc hCp
 have x3:Exc h' ea T1 C' (rawInt X.env.locals):=by
  obtain⟨oe,vs,oT,ts,h1,h2,h3,h4,h5,h6,h7,h8⟩:=x1
  exact⟨oe,vs,oT,ts,(sb.2 _ neC.1).trans h1,h2,h3,h4,h5,(sb.2 _ neT1).trans h6,h7,h8⟩
 unfold PySem.passOn
 obtain⟨oe3,vs3,oT3,ts3,g1,g2,g3,g4,g5,g6,g7,g8⟩:=id x3
 refine wpAny_bind (wpAny_field g1 g3 g4 ?_)
 rw[if_neg (show ¬((Value.ref T1==Value.none)=true) from qi)]
 refine wpAny_bind (Ysq (base:=X.base) (l:=X.stack) x3 (fun h4 x4 st4 _=>wpAny_throw (hfly pins σ _ _ ?_)) I3.stack)
 exact⟨ea,T1,Hb,C',_,rfl,Ypp I3 st4 oe oT1,x4,oe,oT1,hE⟩
theorem Yyz{E1:XK}(hfly:∀pins σ e s,Fly X pins σ E1 e s->X.xe e s)(hx:X.ex=[])(hst:X.stack=X.env::X.outer)(hfr:X.env.frame=some X.env.locals)
 (S:CompSc X.N X.env.scope N src scope) (hc:X.calm=true) (hit:PI X tg iter wi) (hg:∀cl C fp s H,PG (Yak X scope N cl C fp s H) tg g) (hi:∀cl C fp s H,PIfs (Yak X scope N cl C fp s H) ifs ti) (he:∀cl C fp s H pn,PE (cxE X scope N cl C fp s H pn E1) elt te)
 (hs:∀x,foldedSetIterable iter X.env x=pure x:=by intro _;rfl):PE X (.ListComp elt [⟨tg,iter,ifs,0⟩] scope pos) (tLC wi src g ti te):=by
 intro pins s σ H Q I h
 rw[eval_ListComp]
 have hcl:closureFor scope X.env=pure (clOf X.env scope.names []):=Yfu fun y hy hf=>I.ok.has y.1 (S.fr y hy hf)
 refine wpAny_comprehension_free (use:=none) rfl hs hcl S.kind S.names ?_
 refine thn (hit pins s σ H _ I h) fun v s1 h1=>thn h1 fun itv s2 ⟨it,fp,tn,J,H2,e,I2,T,st2,f2,q⟩=>?_
 subst e
 refine Yss (Q:=Q) (E1:=E1) (R:=fun acc C=>compPost (model X.prog X.w) X.A X.xe none (EP X pins σ Q) acc C) S hc hg hi he I2 T st2 f2 (fun cl C Dd s3 s' H' e pn hCl hCs hCc hCp toX z=>Yyy hfly hx hst hfr I cl C s3 s' H' e pn hCl hCs hCc hCp toX z) q fun D C s' H' m I' hm hC hCl hCs hCc hCp hq=>?_
 refine⟨m,hm,fun h' sb=>?_⟩
 exact⟨.ref D,H',I'.turned (t':=s'.toks) (fun b o hb e=>(sb.2 b hb).trans e) hC hCl (.inr hCs) hCc hCp,rfl,hq⟩
theorem y7o{scope:Scope}{N:List Str}{cl:List (Str × Addr)}{C:Addr}{fp:List Addr}{s:Shared}{H:Hp}{pn:List (Addr × Obj)}{E:XK}:Yez (CXN X.prog X.w) (cxE X scope N cl C fp s H pn E) E:=by
 rintro pins σ H1 s1 e s' I ⟨ea,T,H',C',rfl,os,bare,un,hok,x,n1,n2,n3,n4,hE⟩
 have I0:Inv (cxE X scope N cl C fp s H pn E) [] σ H1 s1:=I.pins_of (fun p hp=>nomatch hp)
 have J:=I0.call' os un hok bare (fun b z=>nomatch z)
 exact⟨σ,s1,H1,ea,T,H',C',rfl,ofE I0,n1,n2,ofE J,x,n3,n4,hE⟩
end
end L2
namespace M
open PySem PySem.Spec PyProof.Rows L2
section
def sxE(K:W.Frag)(mg:Str->Option Value)(E:XK)(xn:Str)(r:Ro->Option Bool):TE:=fun σ H _=>∃ρ H0 G0 G,r ρ=some true/\SR K H0 G0 σ H G ρ/\∀C H' G',mg xn=some (.ref C)->Gr H0 G0 H' G'->E (.ref C) none H'
def sxA(K:W.Frag)(mg:Str->Option Value)(E:XK)(xn:Str)(r:Ro->Option Bool):TA:=fun σ H _=>∃ρ H0 G0 G,r ρ=some true/\SR K H0 G0 σ H G ρ/\∀C H' G',mg xn=some (.ref C)->Gr H0 G0 H' G'->E (.ref C) none H'
structure YE(X:Cx)(E:XK)(xn:Str)(e:Expr)(r:Ro->Option Bool):Prop where
 un:PE X e (sxE X.K X.mg E xn r)
structure YA(X:Cx)(E:XK)(xn:Str)(es:List Expr)(r:Ro->Option Bool):Prop where
 un:PA X es (sxA X.K X.mg E xn r)
structure YS(X:Cx)(E:XK)(xn:Str)(st:Stmt)(r:Ro->Option Bool):Prop where
 un:PS X st (sxOf X.K X.mg E xn r)
section
variable {X:Cx} {E:XK} {xn:Str} {e elt tg iter:Expr} {es:List Expr} {f fe:Ro->Option D} {r r1 r2 fr:Ro->Option Bool} {pos cpos p:Pos} {st:Stmt} {rest:List Stmt} {fs:Ro->Option Out} {scope:Scope} {N:List Str} {src:List (Option Nat)} {gl:Ro->Option (List D)} {gt:D->Ro->Option Ro}
theorem PS.nox'{t:TS}(h:PS X.nox st t):PS X st t:=fun pins s σ H D I hw=>
 wpAny_mono (h pins s σ H D (I.wish _) hw) (fun _ _ q=>q.unwish) fun _ _ z=>False.elim z
theorem Ymn{j k n:Nat}{x:Str}{ps:List Str}{fr:List D->Option Bool}{ga:Ro->Option (List D)}(px:Yez (CXN X.prog X.w) X E)(c:Okx X.prog X.w X.K X.mg X.base j n x ps fr xn)(hr:Room k X.A)(hg:Gl X x)(ha:ZA X.nox (e::es) ga)(hl:∀ρ l,ga ρ=some l->l.length=n)(hj:j<=k:=by first | exact qu _ | lia)(hdb:(x==("__debug__":Str))=false:=by decide)
 (he:starEach (e::es) X.env=(false,eval e X.env)::starEach es X.env:=by rfl) (hpl:(backTo cpos (starEach es X.env)).any (·.1)=false:=by rfl):YE X E xn (.Call (.Name x p) (e::es) [] cpos) (Yoa ga fr):=by
 obtain⟨a,fd,F,hb,hk,hm⟩:=c
 refine⟨PE.imp (Ye7 (E:=E) (F.mono hj) hr hg hm hk hb .nil px (PA.nox' ha.un) hdb he hpl) fun σ H Q ⟨ρ,H0,G0,G,e,s,h⟩=>?_⟩
 unfold Yoa at e
 obtain⟨l,h1,e⟩:=qa e
 refine tAof.at h1 s fun vs H1 G1 g1 r1 s1=>?_
 show spX X.K X.mg n fr xn (vs++[]) H1 _ E
 rw[Qf]
 exact⟨by rw[r1.length];exact hl ρ l h1,l,G1,s1.seen,r1,e,fun C H' G' hC g'=>h C H' G' hC (s1.gr.trans g')⟩
theorem Yrf(h:YE X E xn e r):ZX X E xn (.Return (some e) pos::rest) r:=⟨PSs.imp (Ydg (PS.imp (Yni h.un) (t':=sxOf X.K X.mg E xn r) fun _ _ _ z=>z) Yfs) fun _ _ _ z=>z⟩
theorem PI.nox'{t:TI}(h:PI X.nox tg iter t):PI X tg iter t:=fun pins s σ H R I hw=>
 wpAny_mono (h pins s σ H R (I.wish _) hw) (fun _ _ q=>wpAny_mono q (fun _ _ ⟨it,fp,tn,J,H',e,I',T,st,f,q⟩=>⟨it,fp,tn,J,H',e,I'.unwish,T,st,f,q⟩) fun _ _ z=>False.elim z) fun _ _ z=>False.elim z
end
end
section
end
section
abbrev TrV(τ:Type):=Ro->τ->Option Bool
def Wv(mg:Str->Option Value)(E:XK)(xn:Str)(l:Addr)(H0 G0:Hp):Prop:=∀C H1 H' G',mg xn=some (.ref C)->Off l H0 H1->G' l=none->Gr H1 G0 H' G'->E (.ref C) none H'
theorem Wv.off{mg:Str->Option Value}{E:XK}{xn:Str}{l:Addr}{H0 G0 H1:Hp}(h:Wv mg E xn l H0 G0)(f:Off l H0 H1):Wv mg E xn l H1 G0:=fun C H2 H' G' hC g gl gr=>h C H2 H' G' hC (f.trans g) gl gr
def svE{τ:Type}(Z:Hid τ)(K:W.Frag)(mg:Str->Option Value)(E:XK)(xn:Str)(l:Addr)(r:TrV τ):TE:=fun σ H _=>∃ρ t H0 G0 G,r ρ t=some true/\WZ Z K l t H0 G0 σ H G ρ/\Wv mg E xn l H0 G0
def svA{τ:Type}(Z:Hid τ)(K:W.Frag)(mg:Str->Option Value)(E:XK)(xn:Str)(l:Addr)(r:TrV τ):TA:=fun σ H _=>∃ρ t H0 G0 G,r ρ t=some true/\WZ Z K l t H0 G0 σ H G ρ/\Wv mg E xn l H0 G0
def svS{τ:Type}(Z:Hid τ)(K:W.Frag)(mg:Str->Option Value)(E:XK)(xn:Str)(l:Addr)(r:TrV τ):TS:=fun _ σ H=>∃ρ t H0 G0 G,r ρ t=some true/\WZ Z K l t H0 G0 σ H G ρ/\Wv mg E xn l H0 G0
structure YVE(X:Cx)(E:XK)(xn:Str){τ:Type}(Z:Hid τ)(l:Addr)(e:Expr)(r:TrV τ):Prop where
 un:PE X e (svE Z X.K X.mg E xn l r)
structure YVA(X:Cx)(E:XK)(xn:Str){τ:Type}(Z:Hid τ)(l:Addr)(es:List Expr)(r:TrV τ):Prop where
 un:PA X es (svA Z X.K X.mg E xn l r)
structure YVS(X:Cx)(E:XK)(xn:Str){τ:Type}(Z:Hid τ)(l:Addr)(st:Stmt)(r:TrV τ):Prop where
 un:PS X st (svS Z X.K X.mg E xn l r)
structure ZVX(X:Cx)(E:XK)(xn:Str){τ:Type}(Z:Hid τ)(l:Addr)(sts:List Stmt)(r:TrV τ):Prop where
 un:PSs X sts (svS Z X.K X.mg E xn l r)
def vNo{τ:Type}:TrV τ:=fun _ _=>some false
def vYes{τ:Type}:TrV τ:=fun _ _=>some true
def Ygo{τ:Type}(ra:TrV τ)(ga:TaV τ)(fr:List D->Option Bool):TrV τ:=fun ρ t=>(ra ρ t).bind fun b=>if b=true then some true else (ga ρ t).bind fun p=>fr p.1
def Yst{τ:Type}(f:TeV τ)(r:TrV τ):TrV τ:=fun ρ t=>(f ρ t).bind fun p=>r ρ p.2
def Yfa{τ:Type}(ga:Ro->Option (List D))(g:List D->τ->Option Bool):TrV τ:=fun ρ t=>(ga ρ).bind fun ds=>g ds t
def vAt{τ:Type}(l i:Nat)(f:TrV τ):TrV τ:=fun ρ t=>match ρ[i]? with
 | some (some (.sh (.adr l')))=>if l'=l then f ρ t else none
 | _=>none
def vIf{τ:Type}(c:Ro->τ->Option (Bool × τ))(a b:TrV τ):TrV τ:=fun ρ t=>(c ρ t).bind fun p=>if p.1=true then a ρ p.2 else b ρ p.2
def Yob{τ:Type}(f:Ro->Option Bool):Ro->τ->Option (Bool × τ):=fun ρ t=>(f ρ).map fun b=>(b,t)
def vGo{τ:Type}(r1:TrV τ)(fs:TmV τ)(r2:TrV τ):TrV τ:=fun ρ t=>(r1 ρ t).bind fun b=>if b=true then some true else (fs ρ t).bind fun
 | .nx ρ' t'=>r2 ρ' t'
 | _=>some false
theorem Yrg{τ:Type}{l i:Nat}{f:TrV τ}{ρ:Ro}{t:τ}{p:Bool}(h:vAt l i f ρ t=some p):ρ[i]?=some (some (.sh (.adr l)))/\f ρ t=some p:=by
 unfold vAt at h
 split at h
 ·rename_i l' hi
  split at h
  ·rename_i hll
   subst hll
   exact⟨hi,h⟩
  ·cases h
 ·cases h
def spVX{τ ι:Type}(Zf:ι->Hid τ)(K:W.Frag)(mg:Str->Option Value)(n:Nat)(b:Bool)(g:ι->List D->τ->Option Bool)(xn:Str):Sp:=fun vs H _ E=>vs.length=n/\∃i l vs' ds t G,vs=argV b (.ref l) vs'/\Same G H/\G l=none/\H l=some ((Zf i).rep t)/\(Zf i).side G/\RpL K G ds vs'/\g i ds t=some true/\
 ∀C H' G',mg xn=some (.ref C)->(∀x o,x≠l->H x=some o->H' x=some o)->Same G G'->Same G' H'->(∀a,a≠l->G a=none->G' a≠none->H a=none)->G' l=none->E (.ref C) none H'
def OkVX{τ ι:Type}(Zf:ι->Hid τ)(P:Program)(w:World)(K:W.Frag)(mg:Str->Option Value)(base:Heap)(k n:Nat)(b:Bool)(x:Str)(ps:List Str)(g:ι->List D->τ->Option Bool)(xn:Str):Prop:=
 ∃a fd,FnOk P w K mg base (CXN P w) k a fd ps (spVX Zf K mg n b g xn)/\Binds K fd ps []/\W.keepIn K (.ref a)=true/\mg x=some (.ref a)
def Yk7{τ:Type}(b:Bool)(n:Nat)(r:Addr->TrV τ)(ds:List D)(t:τ):Option Bool:=@ite _ (∀l:Addr,r l (Yl n (argV b (.adr l) ds)) t=some true) (Classical.propDecidable _) (some true) (@ite _ (∀l:Addr,r l (Yl n (argV b (.adr l) ds)) t=some false) (Classical.propDecidable _) (some false) none)
theorem Ysu{τ:Type}{b:Bool}{n:Nat}{r:Addr->TrV τ}{ds:List D}{t:τ}(h:Yk7 b n r ds t=some true)(l:Addr):r l (Yl n (argV b (.adr l) ds)) t=some true:=by
 unfold Yk7 at h
 by_cases hp:∀l:Addr,r l (Yl n (argV b (.adr l) ds)) t=some true
 ·exact hp l
 ·rw[@if_neg _ (Classical.propDecidable _) hp]at h
  by_cases hq:∀l:Addr,r l (Yl n (argV b (.adr l) ds)) t=some false
  ·rw[@if_pos _ (Classical.propDecidable _) hq]at h
   cases h
  ·rw[@if_neg _ (Classical.propDecidable _) hq]at h
   cases h
theorem Ymo{τ:Type}{b:Bool}{n:Nat}{r:Addr->TrV τ}{ds:List D}{t:τ}(c:Bool)(h:∀l:Addr,r l (Yl n (argV b (.adr l) ds)) t=some c):Yk7 b n r ds t=some c:=by
 unfold Yk7
 cases c with
 | true=>exact @if_pos _ (Classical.propDecidable _) h _ _ _
 | false=>
   have hn:¬∀l:Addr,r l (Yl n (argV b (.adr l) ds)) t=some true:=fun q=>by
    have:=q 0
    rw[h 0]at this
    cases this
   rw[@if_neg _ (Classical.propDecidable _) hn]
   exact @if_pos _ (Classical.propDecidable _) h _ _ _
section
variable {τ:Type} {Z:Hid τ} {X:Cx} {E:XK} {xn:Str} {l:Addr} {e:Expr} {es:List Expr} {fe:TeV τ} {ga:TaV τ} {r r1 r2:TrV τ} {pos cpos p:Pos} {st:Stmt} {rest:List Stmt} {fs:TmV τ}
theorem Wv.call{K:W.Frag}{mg:Str->Option Value}{t:τ}{H0 G0 H1 G1:Hp}{σ:L2.St}{ρ:Ro}(h:Wv mg E xn l H0 G0)(w:WZ Z K l t H0 G0 σ H1 G1 ρ):∀C H' G',mg xn=some (.ref C)->(∀x o,x≠l->H1 x=some o->H' x=some o)->Same G1 G'->Same G' H'->(∀a,a≠l->G1 a=none->G' a≠none->H1 a=none)->G' l=none->E (.ref C) none H':=fun C H' G' hC keep sm sm' nn gl=>by
 by_cases hl:H' l=none
 ·refine h C (fun a=>if a=l then none else H0 a) H' G' hC (fun a ha=>if_neg ha) gl ⟨fun a o ho=>?_,w.sr.gr.g.trans sm,sm',fun a ha ha'=>?_⟩
  ·by_cases z:a=l
   ·rw[if_pos z]at ho;cases ho
   ·rw[if_neg z]at ho;exact keep a o z (w.sr.gr.h a o ho)
  ·by_cases z:a=l
   ·exact if_pos z
   ·show(if a=l then none else H0 a)=none
    rw[if_neg z]
    by_cases q:G1 a=none
    ·exact w.sr.gr.h.free (nn a z q ha')
    ·exact w.sr.gr.n a ha q
 ·obtain⟨o',ho'⟩:=Option.ne_none_iff_exists'.mp hl
  refine h C (upd H0 l o') H' G' hC (Off.put l H0 _) gl ⟨fun a o ho=>?_,w.sr.gr.g.trans sm,sm',fun a ha ha'=>?_⟩
  ·by_cases z:a=l
   ·subst z;rw[Yq]at ho;rw[<-ho];exact ho'
   ·rw[Yn z]at ho;exact keep a o z (w.sr.gr.h a o ho)
  ·have z:a≠l:=fun z=>ha' (by rw[z];exact gl)
   rw[Yn z]
   by_cases q:G1 a=none
   ·exact w.sr.gr.h.free (nn a z q ha')
   ·exact w.sr.gr.n a ha q
theorem PA.or{t t':TA}(h:PA X es t)(h':PA X es t'):PA X es fun σ H Q=>t σ H Q\/t' σ H Q:=fun pos pins s σ H Q I z=>z.elim (h pos pins s σ H Q I) (h' pos pins s σ H Q I)
theorem PS.or{t t':TS}(h:PS X st t)(h':PS X st t'):PS X st fun D σ H=>t D σ H\/t' D σ H:=fun pins s σ H D I z=>z.elim (h pins s σ H D I) (h' pins s σ H D I)
theorem PSs.or{t t':TS}(h:PSs X rest t)(h':PSs X rest t'):PSs X rest fun D σ H=>t D σ H\/t' D σ H:=fun pins s σ H D I z=>z.elim (h pins s σ H D I) (h' pins s σ H D I)
theorem Yfb(h:YVE X E xn Z l e r)(hs:starEach (e::es) X.env=(false,eval e X.env)::starEach es X.env:=by rfl):YVA X E xn Z l (e::es) r:=
 ⟨PA.imp (Ybb h.un (t:=fun _ _ _=>False) (fun _ _ _ _ _ _ _ z=>z.elim) hs) fun _ _ _ z=>z⟩
theorem Yrh(h:ZWE X.nox Z l e fe)(hr:YVA X E xn Z l es r)(hs:starEach (e::es) X.env=(false,eval e X.env)::starEach es X.env:=by rfl):YVA X E xn Z l (e::es) (Yst fe r):=
 ⟨PA.imp (Ybb (PE.nox h.un) hr.un hs) fun σ H Q ⟨ρ,t,H0,G0,G,e,w,h⟩=>by
  obtain⟨⟨d,t1⟩,h1,e⟩:=qa e
  exact⟨ρ,t,d,t1,H0,G0,G,h1,w,fun v H' G' H1 f1 w1 s1 r1=>⟨ρ,t1,H1,G0,G',e,w1,h.off f1⟩⟩⟩
theorem Ymp{j k n:Nat}{x:Str}{ps:List Str}{fr:List D->Option Bool}(px:Yez (CXN X.prog X.w) X E)(c:Okx X.prog X.w X.K X.mg X.base j n x ps fr xn)(hr:Room k X.A)(hg:Gl X x)(ha:ZWA X.nox Z l (e::es) ga)(hra:YVA X E xn Z l (e::es) r)(hl:∀ρ t ds t',ga ρ t=some (ds,t')->ds.length=n)(hj:j<=k:=by first | exact qu _ | lia)(hdb:(x==("__debug__":Str))=false:=by decide)
 (he:starEach (e::es) X.env=(false,eval e X.env)::starEach es X.env:=by rfl) (hpl:(backTo cpos (starEach es X.env)).any (·.1)=false:=by rfl):YVE X E xn Z l (.Call (.Name x p) (e::es) [] cpos) (Ygo r ga fr):=by
 obtain⟨a,fd,F,hb,hk,hm⟩:=c
 refine⟨PE.imp (Ye7 (E:=E) (F.mono hj) hr hg hm hk hb .nil px (PA.or (PA.nox' ha.un) hra.un) hdb he hpl) fun σ H Q ⟨ρ,t,H0,G0,G,e,w,h⟩=>?_⟩
 obtain⟨b,h1,e⟩:=qa e
 cases b with
 | true=>exact .inr ⟨ρ,t,H0,G0,G,h1,w,h⟩
 | false=>
   rw[if_neg qi]at e
   obtain⟨⟨ds,t1⟩,h2,e⟩:=qa e
   refine .inl ⟨ρ,t,ds,t1,H0,G0,G,h2,w,fun vs H1 G1 Ha f1 w1 s1 r1=>?_⟩
   show spX X.K X.mg n fr xn (vs++[]) H1 _ E
   rw[Qf]
   exact⟨by rw[r1.length];exact hl ρ t ds t1 h2,ds,G1,w1.sr.seen,r1,e,fun C H' G' hC g'=>h C Ha H' G' hC f1 (Ycv g' w1.at w1.no) (w1.sr.gr.trans g')⟩
theorem Yy0{j k n:Nat}{x:Str}{ps:List Str}{m:List D->Option D}(c:Okf X.prog X.w X.K X.mg X.base j n x ps m)(hr:Room k X.A)(hg:Gl X x)(hra:YVA X E xn Z l (e::es) r)(hj:j<=k:=by first | exact qu _ | lia)(hdb:(x==("__debug__":Str))=false:=by decide)
 (he:starEach (e::es) X.env=(false,eval e X.env)::starEach es X.env:=by rfl) (hpl:(backTo cpos (starEach es X.env)).any (·.1)=false:=by rfl):YVE X E xn Z l (.Call (.Name x p) (e::es) [] cpos) r:=by
 obtain⟨a,fd,F,hb,hk,hm⟩:=c
 exact⟨PE.imp (Ye7 (E:=E0) (F.mono hj) hr hg hm hk hb .nil Yl7 hra.un hdb he hpl) fun _ _ _ z=>z⟩
theorem Yvc(h:YVE X E xn Z l e r):YVS X E xn Z l (.Return (some e) pos) r:=⟨PS.imp (Yni h.un) fun _ _ _ z=>z⟩
theorem y5n:YVS X E xn Z l st vNo:=⟨PS.imp Yw5 fun _ _ _ ⟨_,_,_,_,_,e,_⟩=>by cases e⟩
theorem Yvd(i:Nat){x:Str}{pos':Pos}(hN:X.N.Nodup)(h:YVE X E xn Z l e r)(hi:X.N[i]?=some x:=by rfl)(hx:Loc X.env.scope x:=by first | exact Or.inl rfl | exact Or.inr rfl)(hs:swapsWith e (some (.Name x pos')) pos.line X.env=pure false:=by rfl)
 (hf:X.fn x=true\/X.env.scope.names.lookup x=some .local:=by first | exact .inl rfl | exact .inr rfl):YVS X E xn Z l (.Assign [.Name x pos'] e pos) r:=⟨PS.imp (Ylk hN hi hx h.un hs hf) fun _ _ _ z=>z⟩
theorem Yri:ZVX X E xn Z l rest vNo:=⟨PSs.imp Yfs fun _ _ _ ⟨_,_,_,_,_,e,_⟩=>by cases e⟩
theorem Yf0(h:YVS X E xn Z l st r):ZVX X E xn Z l [st] r:=⟨PSs.imp (Yl3 h.un) fun _ _ _ z=>z⟩
theorem Yps(h:YVS X E xn Z l st r):ZVX X E xn Z l (st::rest) r:=⟨PSs.imp (Ydg h.un Yfs) fun _ _ _ z=>z⟩
theorem Yoc(h1:ZTS X.nox Z l st fs)(h2:YVS X E xn Z l st r1)(hr:ZVX X E xn Z l rest r2):ZVX X E xn Z l (st::rest) (vGo r1 fs r2):=by
 refine⟨PSs.imp (Ydg (PS.or (PS.nox' h1.un) h2.un) hr.un) fun D σ H ⟨ρ,t,H0,G0,G,e,w,h⟩=>?_⟩
 unfold vGo at e
 obtain⟨b,e1,e⟩:=qa e
 cases b with
 | true=>exact .inr ⟨ρ,t,H0,G0,G,e1,w,h⟩
 | false=>
   rw[if_neg qi]at e
   obtain⟨o,e2,e⟩:=qa e
   cases o with
   | nx ρ' t'=>exact .inl ⟨ρ,t,.nx ρ' t',H0,G0,G,e2,w,fun σ' H' G' H1 f1 w'=>⟨ρ',t',H1,G0,G',e,w',h.off f1⟩⟩
   | rt d t'=>cases e
   | bk ρ' t'=>cases e
   | ct ρ' t'=>cases e
theorem Ymq{c:Expr}{f:Ro->Option Bool}(h:ZT X c f):ZVT X Z l c (Yob f):=⟨PT.imp h.un fun σ H Q ⟨ρ,t,k,t',H0,G0,G,er,w,q⟩=>by
 obtain⟨b,h1,h2⟩:=qc er
 cases h2
 exact⟨ρ,k,H0,G0,G,h1,w.sr,fun H' G' g=>q H' G' H0 Off.rfl' (w.grow g) g.g⟩⟩
theorem Yod{c:Expr}{a b:List Stmt}{fc:Ro->τ->Option (Bool × τ)}(hc:ZVT X.nox Z l c fc)(ha:ZVX X E xn Z l a r1)(hb:ZVX X E xn Z l b r2):YVS X E xn Z l (.If c a b pos) (vIf fc r1 r2):=
 ⟨PS.imp (Ys5 (PT.nox hc.un) ha.un hb.un) fun D σ H ⟨ρ,t,H0,G0,G,e,w,h⟩=>by
  obtain⟨⟨k,t1⟩,h1,e⟩:=qa e
  refine⟨ρ,t,k,t1,H0,G0,G,h1,w,fun H1 G1 Ha f1 w1 s1=>?_⟩
  have e:(if k=true then r1 ρ t1 else r2 ρ t1)=some true:=e
  cases k with
  | true=>
    rw[if_pos rfl]at e
    exact iteT ⟨ρ,t1,Ha,G0,G1,e,w1,h.off f1⟩
  | false=>
    rw[if_neg qi]at e
    exact iteF ⟨ρ,t1,Ha,G0,G1,e,w1,h.off f1⟩⟩
end
end
section
section
variable {τ ι:Type} {Zf:ι->Hid τ} {P:Program} {w:World} {K:W.Frag} {mg:Str->Option Value} {base:Heap} {xn:Str} {zi:ι} {Z:Hid τ} {X:Cx} {E:XK} {l:Addr} {e a:Expr} {es:List Expr} {fe:TeV τ} {r ra rb:TrV τ} {pos cpos p q:Pos} {st:Stmt} {rest body:List Stmt} {fs:TmV τ}
theorem Yve{b:Bool}{x:Str}{st:Stmt}{f:Addr}{fd:FuncData}{qual:Str}{N ps:List Str}{k n m:Nat}{r:ι->Addr->TrV τ}(F:Fun K x qual st f fd)(S:FnScope N ps (defScope st))(hn:N.length=n)(hm:ps.length=m)
 (hb:∀(z:ι) (l:Addr) (cdv:Value) (A:Around) (outer:List Env) (s:Shared) (H:Hp) (E:XK),Room k (A.deeper (envOfC qual (defScope st) s.heap.objs.size f cdv))->ZVX (cxOf (CXN P w) P w K mg base N qual (defScope st) f cdv A outer s H E) E xn (Zf z) l (defBody st) (r z l)) :
 FnOk P w K mg base (CXN P w) (k+1) f fd ps (spVX Zf K mg m b (fun z=>Yk7 b n (r z)) xn):=by
 obtain⟨oc,od,kV,doc,pm,an,cdv,ct,osl,rfl,lk,hcd⟩:=F.ex
 refine y02 lk hcd S (fun vs H Q E h=>by rw[h.1,hm]) fun A outer s H vs Q E hr h=>?_
 obtain⟨hl,z,l,vs',ds,t,G,rfl,sm,gl,hll,sd,rr,e,q⟩:=h
 refine⟨_,(hb z l cdv A outer s H E hr).un,?_⟩
 have s0:SR K H G (start N (argV b (V.ref l) vs')) H G (Yl n (argV b (.adr l) ds)):=by
  rw[<-hn]
  exact SR.start (N:=N) sm (Yum rr)
 refine⟨_,t,H,G,G,Ysu e l,⟨s0,gl,hll,sd⟩,fun C H1 H' G' hC f1 gl' g1=>q C H' G' hC (fun x o hx ho=>g1.h _ _ (by rw[f1 x hx];exact ho)) g1.g g1.s (fun a ha h h'=>?_) gl'⟩
 have:=g1.n a h h'
 rw[f1 a ha]at this
 exact this
theorem Yvf(i:Nat){j k:Nat}{x y:Str}{ps:List Str}{fa:Ro->Option D}{g:ι->List D->τ->Option Bool}(px:Yez (CXN X.prog X.w) X E)(c:OkVX Zf X.prog X.w X.K X.mg X.base j 2 false x ps g xn)(hr:Room k X.A)(hg:Gl X x)(ha:ZE X.nox e fa)(hj:j<=k:=by first | exact qu _ | lia)
 (hi:X.N[i]?=some y:=by rfl) (hv:Vis X.env.scope y:=by first | exact Or.inl rfl | exact Or.inr (Or.inl rfl) | exact Or.inr (Or.inr rfl)) (hd:(y==("__debug__":Str))=false:=by decide) (hcd:(y==("__classdict__":Str))=false:=by decide)
 (hdb:(x==("__debug__":Str))=false:=by decide) (he:starEach [e,.Name y q] X.env=(false,eval e X.env)::starEach [.Name y q] X.env:=by rfl) (he2:starEach [.Name y q] X.env=(false,eval (.Name y q) X.env)::starEach [] X.env:=by rfl) (hpl:(backTo cpos (starEach [.Name y q] X.env)).any (·.1)=false:=by rfl) :
 YVE X E xn (Zf zi) l (.Call (.Name x p) [e,.Name y q] [] cpos) (vAt l i (Yfa (Yg fa aNil) (g zi))):=by
 obtain⟨a,fd,F,hb,hk,hm⟩:=c
 refine⟨PE.imp (Ye7 (E:=E) (F.mono hj) hr hg hm hk hb .nil px (Ybb (PE.nox ha.un) (Ybb (Yd3 hi hv hd hcd) Yd5 he2) he) hdb he hpl) fun σ H Q ⟨ρ,t,H0,G0,G,er,w,h⟩=>?_⟩
 obtain⟨hi',er⟩:=Yrg er
 obtain⟨ds,h1,h2⟩:=qa er
 obtain⟨da,h3,h4⟩:=qa (show(fa ρ).bind (fun x=>(aNil ρ).map (x::·))=some ds from h1)
 cases h4
 refine tOf.at h3 w.sr fun v H1 G1 g1 r1 s1=>?_
 obtain⟨v2,q1,q2⟩:=s1.sh i _ hi'
 rw[Rp]at q2
 subst q2
 refine⟨_,q1,?_⟩
 have w1:WZ (Zf zi) X.K l t H0 G0 σ H1 G1 ρ:=⟨s1,w.g0,w.h0,w.sd⟩
 exact⟨rfl,zi,l,[v],[da],t,G1,rfl,s1.seen,w1.no,w1.at,w1.seen,.one r1,h2,h.call w1⟩
theorem y5o{T:String}{x:Str}{rr:List V->Hp->VK->Prop}(hc:Ye6 X (.type T) rr)(h:YVA X E xn Z l (e::es) r)(hg:Gl X x)(hm:X.mg x=none)(hv:bootBuiltins x=some (.type T))(hn:x≠"__name__":=by decide)(hdb:(x==("__debug__":Str))=false:=by decide)
 (he:starEach (e::es) X.env=(false,eval e X.env)::starEach es X.env:=by rfl) (hpl:(backTo pos (starEach es X.env)).any (·.1)=false:=by rfl):YVE X E xn Z l (.Call (.Name x p) (e::es) [] pos) r:=⟨PE.imp (Yj0 hc hg hm hv h.un hn hdb he hpl) fun _ _ _ z=>z⟩
def vApp(i:Nat)(r:TrV τ):TrV τ:=fun ρ t=>(getO i ρ).bind fun _=>r ρ t
theorem Yvg(i:Nat){x:Str}{p2 apos cpos:Pos}(he:YVE X E xn Z l e r)(hN:X.N[i]?=some x:=by rfl)(hv:Vis X.env.scope x:=by first | exact Or.inl rfl | exact Or.inr (Or.inl rfl) | exact Or.inr (Or.inr rfl))
 (hd:(x==("__debug__":Str))=false:=by decide) (hcd:(x==("__classdict__":Str))=false:=by decide) (hse:swapsWith (.Call (.Attribute (.Name x p2) "append" apos) [e] [] cpos) none pos.line X.env=pure false:=by rfl)
 (hs:starEach [e] X.env=[(false,eval e X.env)]:=by rfl)
 (hfew:((backTo cpos (starEach [e] X.env)).all (fun x=>!x.1)&&(backToKw cpos (keywordEach [] X.env)).all (fun x=>x.1.isSome)&&decide ([e].length+([]:List Keyword).length+(if ([]:List Keyword).isEmpty then 0 else 1) < 30))=true:=by rfl)
 (hline:(apos.endLine==cpos.line)=true:=by rfl) (hbase:attributeBase (.Name x p2) "append" X.env (eval (.Name x p2) X.env)=eval (.Name x p2) X.env:=by rfl) :
 YVS X E xn Z l (.Expr (.Call (.Attribute (.Name x p2) "append" apos) [e] [] cpos) pos) (vApp i r):=
 ⟨PS.imp (Yoy (Ytj PySem.F.plainAttrs_list PySem.F.slot_list_append PySem.F.type_list_append Yft (Yd3 hN hv hd hcd) (Yfb (es:=[]) he hs).un hbase hfew hline hs rfl) hse) fun F σ H hx_=>by
  obtain⟨ρ,t,H0,G0,G,er,w,q⟩:=hx_
  obtain⟨xs,h1,er⟩:=qa er
  obtain⟨a,ys,ha,hH,hr,hG⟩:=Yqo w.sr h1
  exact⟨_,ha,.inl ⟨rfl,ys,SqL.of hH⟩,ρ,t,H0,G0,G,er,w,q⟩⟩
def Yhb(gt:D->Ro->Option Ro)(fs:TmV τ)(rb:TrV τ):List D->Ro->τ->Option Bool
 | [],_,_=>some false
 | d::ds,ρ,t=>(gt d ρ).bind fun ρ1=>(rb ρ1 t).bind fun b=>if b=true then some true else (fs ρ1 t).bind fun
   | .nx ρ2 t2=>Yhb gt fs rb ds ρ2 t2
   | .ct ρ2 t2=>Yhb gt fs rb ds ρ2 t2
   | _=>some false
def vFor(ra:TrV τ)(fe:TeV τ)(gt:D->Ro->Option Ro)(fs:TmV τ)(rb:TrV τ):TrV τ:=fun ρ t=>(ra ρ t).bind fun b=>if b=true then some true else (fe ρ t).bind fun p=>(rng1 [p.1]).bind fun ds=>Yhb gt fs rb ds ρ p.2
theorem y2o{tg:Expr}{gt:D->Ro->Option Ro}{pr ip:Pos}(hp:PassesOwn (model X.prog X.w) X.A X.env X.xe)(hc:X.calm=true)(hgr:Gl X "range")(hm:X.mg "range"=none)(ha:ZWE X.nox Z l a fe)(hra:YVE X E xn Z l a ra)(hg:ZG X tg gt)(hb:ZTB X.nox Z l body fs)(hrb:ZVX X E xn Z l body rb)
 (hsa:starEach [a] X.env=[(false,eval a X.env)]:=by rfl) (hs:∀x,foldedSetIterable (.Call (.Name "range" pr) [a] [] ip) X.env x=pure x:=by intro _;rfl):YVS X E xn Z l (.For tg (.Call (.Name "range" pr) [a] [] ip) body [] pos) (vFor ra fe gt fs rb):=
 ⟨PS.imp (Ys8 hp hc (Yju hgr hm (PA.or (PA.nox' (Ys ha Ya6 hsa).un) (Yfb (es:=[]) hra hsa).un) hsa) hg.un (PSs.or (PSs.nox hb.un) hrb.un) hs) fun F σ H hx_=>by
  obtain⟨ρ,t0,H0,G0,G,er,w,h⟩:=hx_
  obtain⟨b,h0,er⟩:=qa er
  cases b with
  | true=>exact .inr ⟨ρ,t0,H0,G0,G,h0,w,h⟩
  | false=>
    rw[if_neg qi]at er
    obtain⟨⟨d,t⟩,h0,er⟩:=qa er
    obtain⟨ds,h1,h2⟩:=qa er
    refine .inl ⟨ρ,t0,[d],t,H0,G0,G,by unfold Yax nilE;rw[h0];rfl,w,fun vs H1 G1 Ha fa w1 sm1 r1=>?_⟩
    obtain⟨n,he,c1,c2,rfl⟩:=Yka h1
    cases he
    obtain⟨v,rfl,rv⟩:=Yo7 r1
    rw[Rp]at rv
    subst rv
    refine⟨n,rfl,by lia,by lia,?_⟩
    have wk:Wk X.K (Itr 0 (n - 0).toNat) G0 (rngD 0 n):=Ytr (Yes (by unfold cap6;lia))
    have h:=h.off fa
    generalize rngD 0 n=ds at *
    rw[Int.sub_zero]at wk
    generalize Itr 0 n.toNat=J at *
    refine⟨fun i m σ' H'=>m=ds.length - i/\i<=ds.length/\∃ρ' t' G' Hc,Off l Ha Hc/\WZ Z X.K l t' Hc G0 σ' H' G' ρ'/\Yhb gt fs rb (ds.drop i) ρ' t'=some true,⟨_,rfl,Nat.zero_le _,ρ,t,G1,Ha,fun _ _=>rfl,w1,h2⟩,?_⟩
    rintro i m σ' H' ⟨rfl,hi,ρ',t',G',Hc,fc,w',e'⟩
    have W:=wk.2 i H' G' w'.sr.gr.g w'.sr.seen
    by_cases hlt:i < ds.length
    ·have hd:ds[i]?=some ds[i]:=qr hlt
     obtain⟨go,yl⟩:=W.1 _ hd
     rw[Ql hlt,Yhb]at e'
     obtain⟨ρ1,e1,e'⟩:=qa e'
     obtain⟨b,e2,e'⟩:=qa e'
     refine .inr ⟨go,fun σ' H'=>i+1<=ds.length/\∃ρ' t' G' Hc,Off l Ha Hc/\WZ Z X.K l t' Hc G0 σ' H' G' ρ'/\Yhb gt fs rb (ds.drop (i+1)) ρ' t'=some true,fun σ2 H2 q=>⟨ds.length - (i+1),by lia,rfl,q.1,q.2⟩,fun x H2 y=>?_⟩
     obtain⟨G2,g2,r2⟩:=yl x H2 y
     refine⟨_,ρ',ρ1,Hc,G0,G2,e1,w'.sr.grow g2,r2,fun σ3 s3=>?_⟩
     have w3:WZ Z X.K l t' Hc G0 σ3 H2 G2 ρ1:=⟨s3,w'.g0,w'.h0,w'.sd⟩
     cases b with
     | true=>exact .inr ⟨ρ1,t',Hc,G0,G2,e2,w3,h.off fc⟩
     | false=>
       rw[if_neg qi]at e'
       obtain⟨o,e3,e'⟩:=qa e'
       refine .inl ⟨ρ1,t',o,Hc,G0,G2,e3,w3,?_⟩
       cases o with
       | nx ρ2 t2=>exact fun σ4 H4 G4 Hd f4 w4=>⟨hlt,ρ2,t2,G4,Hd,fc.trans f4,w4,e'⟩
       | ct ρ2 t2=>exact fun σ4 H4 G4 Hd f4 w4=>⟨hlt,ρ2,t2,G4,Hd,fc.trans f4,w4,e'⟩
       | bk ρ2 t2=>cases e'
       | rt d t2=>cases e'
    ·have ei:i=ds.length:=by lia
     subst ei
     rw[List.drop_length,Yhb]at e'
     cases e'⟩
theorem Ykh{y m:Str}{np p1:Pos}{j:Nat}{z:Bool}{P:Program}{w:World}{K:W.Frag}{mg:Str->Option Value}{base:Heap}{N:List Str}{qual:Str}{scope:Scope}{f:Addr}{cd:Value}{A:Around}{outer:List Env}{s0:Shared}{H0:Hp}(hp:Xp K mg xn y z)(hg:Gl (cxOf (CXN P w) P w K mg base N qual scope f cd A outer s0 H0 E) xn:=by rfl)(hdb:(xn==("__debug__":Str))=false:=by decide)
 (hs:starEach [Expr.Constant (.str m) j p1] (envOfC qual scope s0.heap.objs.size f cd)=[(false,eval (Expr.Constant (.str m) j p1) (envOfC qual scope s0.heap.objs.size f cd))]:=by rfl) :
 YVS (cxOf (CXN P w) P w K mg base N qual scope f cd A outer s0 H0 E) E xn Z l (.Raise (some (.Call (.Name xn np) [.Constant (.str m) j p1] [] cpos)) none pos) vYes:=by
 obtain⟨C,_,hm,_,hc,_⟩:=hp
 exact⟨PS.imp (Yq9 hm hc hg hdb hs) fun D σ H ⟨ρ,t,H0,G0,G,_,w,h⟩=>h C H0 H G hm Off.rfl' w.no w.sr.gr⟩
end
end
section
def Yh2{τ:Type}(gt:D->Ro->Option Ro)(fe:TeV τ)(fr:TrV τ)(ρ:Ro):List D->τ->Option Bool
 | [],_=>some false
 | d::ds,t=>(gt d ρ).bind fun ρ1=>(fr ρ1 t).bind fun b=>if b=true then some true else (fe ρ1 t).bind fun p=>Yh2 gt fe fr ρ ds p.2
def Yki{τ:Type}(gl:Ro->Option (List D))(src:List (Option Nat))(gt:D->Ro->Option Ro)(fe:TeV τ)(fr:TrV τ):TrV τ:=fun ρ t=>(gl ρ).bind fun ds=>Yh2 gt fe fr (capR src ρ) ds t
def tElV{τ:Type}(Z:Hid τ)(K:W.Frag)(mg:Str->Option Value)(E:XK)(xn:Str)(l:Addr)(fe:TeV τ)(fr:TrV τ):TE:=fun σ H Q=>tWE Z K l fe σ H Q\/svE Z K mg E xn l fr σ H Q
section
variable {τ:Type} {Z:Hid τ} {X:Cx} {E:XK} {xn:Str} {l:Addr} {elt tg iter:Expr} {scope:Scope} {N:List Str} {src:List (Option Nat)} {gt:D->Ro->Option Ro} {gl:Ro->Option (List D)} {fe:TeV τ} {fr:TrV τ} {pos:Pos}
theorem Yvh{K:W.Frag}{mg:Str->Option Value}(hle:∀ρ d ρ1,gt d (capR src ρ)=some ρ1->Le (capR src ρ) ρ1){σ:L2.St}{H:Hp}{Q:VK}
 (h:svE Z K mg E xn l (Yki gl src gt fe fr) σ H Q):tLC (tIof K gl) src (gOf K gt) (tTof K tY) (tElV Z K mg E xn l fe fr) σ H Q:=by
 obtain⟨ρ,t0,H0,G0,G,er,w,k⟩:=h
 obtain⟨ds,h1,h2⟩:=qa er
 refine⟨ρ,ds,H0,G0,G,h1,w.sr,fun J H1 G1 g1 wk=>?_⟩
 have w1:=w.grow g1
 have fa1:Off l H0 H0:=Off.rfl'
 have sm1:=g1.g
 intro p hp
 have hpl:p≠l:=fun z=>by rw[z,w1.at]at hp;cases hp
 have gp:G1 p=none:=w1.sr.seen.free hp
 have noow:∀(i:Nat) l,(capR src ρ)[i]?≠some (some (B.ow l)):=fun i l h=>by
  unfold capR at h
  rw[Qa]at h
  obtain⟨o,h1,h2⟩:=qc h
  obtain⟨j,rfl,h3⟩:=qa h2
  split at h3<;>cases h3
 have nood:∀(i:Nat) t ks vs,(capR src ρ)[i]?≠some (some (B.od t ks vs)):=fun i t ks vs h=>by
  unfold capR at h
  rw[Qa]at h
  obtain⟨o,h1,h2⟩:=qc h
  obtain⟨j,rfl,h3⟩:=qa h2
  split at h3<;>cases h3
 have sc:=w1.sr.cap src
 refine⟨fun i m σ' H'=>m=ds.length - i/\i<=ds.length/\∃G' xs tt Hc,Off l H1 Hc/\WZ Z K l tt Hc G1 σ' H' G' (capR src ρ)/\H' p=some (.lst xs)/\G' p=none/\xs.length<=i/\Yh2 gt fe fr (capR src ρ) (ds.drop i) tt=some true,
  ⟨_,rfl,Nat.zero_le _,G1,[],t0,H1,Off.rfl',⟨sc.grow (Gr.hid w1.sr.seen hp _),w1.no,w1.at,w1.seen⟩,Yq,gp,Nat.zero_le _,h2⟩,?_⟩
 rintro i m σ' H' ⟨rfl,hi,G',xs,tt,Hc,fc,w',hx,gx,hl,e'⟩
 have W:=wk.2 i H' G' w'.sr.gr.g w'.sr.seen
 have hcp:Hc p=none:=by rw[fc p hpl];exact hp
 by_cases hlt:i < ds.length
 ·have hdi:ds[i]?=some ds[i]:=qr hlt
  obtain⟨go,yl⟩:=W.1 _ hdi
  rw[Ql hlt,Yh2]at e'
  obtain⟨ρ1,e1,e'⟩:=qa e'
  obtain⟨b,e2,e'⟩:=qa e'
  refine .inr ⟨go,fun x H2 y=>?_⟩
  obtain⟨G2,g2,r2⟩:=yl x H2 y
  have w2:=w'.grow g2
  have hx2:H2 p=some (.lst xs):=g2.h _ _ hx
  have gx2:G2 p=none:=Ycv g2 hx gx
  have s2b:SR K H2 G2 σ' H2 G2 (capR src ρ):=SR.mkSh (Gr.refl w2.sr.seen) w2.sr.len w2.sr.sh noow nood
  refine⟨_,capR src ρ,ρ1,H2,G2,G2,e1,s2b,r2,fun σ3 s3=>?_⟩
  refine tTof.at (b:=true) rfl s3 fun H4 G4 g4 s4=>?_
  have le:=hle ρ _ ρ1 e1
  rw[if_pos rfl]
  cases b with
  | true=>
    refine .inr ⟨ρ1,tt,H2,G2,G4,e2,⟨s4,w2.no,w2.at,w2.seen⟩,fun C Hx Hz Gz hC fx glz grz=>?_⟩
    refine k C (fun a=>if a=l then Hx l else H0 a) Hz Gz hC (fun a ha=>if_neg ha) glz ⟨fun a o ho=>?_,(w1.sr.gr.g.trans w2.sr.gr.g).trans grz.g,grz.s,fun a ha ha'=>?_⟩
    ·by_cases z:a=l
     ·subst z
      simp only[if_pos]at ho
      exact grz.h _ _ ho
     ·simp only[if_neg z]at ho
      refine grz.h _ _ ?_
      rw[fx a z]
      refine w2.sr.gr.h _ _ ?_
      rw[fc a z]
      exact w1.sr.gr.h _ _ ho
    ·have z:a≠l:=fun y=>ha' (by rw[y];exact glz)
     show(if a=l then Hx l else H0 a)=none
     rw[if_neg z]
     have step:Hc a=none->H0 a=none:=fun q=>by
      rw[fc a z]at q
      exact w1.sr.gr.h.free q
     by_cases q2:G2 a=none
     ·have h6:=grz.n a q2 ha'
      rw[fx a z]at h6
      exact step (w2.sr.gr.h.free h6)
     ·by_cases q1:G1 a=none
      ·exact step (w2.sr.gr.n a q1 q2)
      ·exact w1.sr.gr.n a ha q1
  | false=>
    rw[if_neg qi]at e'
    obtain⟨⟨v,t2⟩,e3,e'⟩:=qa e'
    refine .inl ⟨ρ1,tt,v,t2,H2,G2,G4,e3,⟨s4,w2.no,w2.at,w2.seen⟩,fun vv H5 G5 Hd fd w5 sm5 r5=>?_⟩
    have hdp:Hd p=some (.lst xs):=by rw[fd p hpl];exact hx2
    have hx5:H5 p=some (.lst xs):=w5.sr.gr.h _ _ hdp
    have gx5:G5 p=none:=Ycv w5.sr.gr hdp gx2
    have hz:=wk.1
    have smg:Same G' G5:=g2.g.trans w5.sr.gr.g
    have s6:=w5.sr.le le
    refine⟨xs,hx5,by lia,ds.length - (i+1),by lia,rfl,hlt,G5,xs++[vv],t2,fun x=>if x=l then Hd l else Hc x,fun x hx=>?_,⟨SR.mkSh ⟨fun b o q=>?_,w'.sr.gr.g.trans smg,fun b o q=>?_,fun b q q'=>?_⟩ s6.len s6.sh noow nood,w1.no,?_,w1.seen⟩,Yq,gx5,by simp;lia,e'⟩
    ·show(if x=l then Hd l else Hc x)=_
     rw[if_neg hx];exact fc x hx
    ·change (if b=l then Hd l else Hc b)=some o at q
     by_cases z:b=l
     ·rw[if_pos z]at q
      have z2:b≠p:=fun y=>hpl (by rw[<-y,z])
      rw[Yn z2,z];exact w5.sr.gr.h _ _ q
     ·rw[if_neg z]at q
      have z2:b≠p:=fun y=>by rw[y,hcp]at q;cases q
      rw[Yn z2]
      exact w5.sr.gr.h _ _ (by rw[fd b z];exact g2.h _ _ (w'.sr.gr.h _ _ q))
    ·rw[Yn (y7 q gx5)];exact w5.sr.seen b o q
    ·show(if b=l then Hd l else Hc b)=none
     by_cases z3:G' b=none
     ·by_cases z4:G2 b=none
      ·have h6:=w5.sr.gr.n b z4 q'
       have z:b≠l:=fun z=>by rw[z,w5.h0]at h6;cases h6
       rw[if_neg z]
       rw[fd b z]at h6
       exact w'.sr.gr.h.free (g2.h.free h6)
      ·have h6:=g2.n b z3 z4
       have z:b≠l:=fun z=>by rw[z,w'.at]at h6;cases h6
       rw[if_neg z]
       exact w'.sr.gr.h.free h6
     ·have h6:=w'.sr.gr.n b q z3
      have z:b≠l:=fun z=>by rw[z,w'.h0]at h6;cases h6
      rw[if_neg z];exact h6
    ·show(if l=l then Hd l else Hc l)=_
     rw[if_pos rfl];exact w5.h0
 ·have ei:i=ds.length:=by lia
  subst ei
  rw[List.drop_length,Yh2]at e'
  cases e'
theorem y5p{cl:List (Str × Addr)}{C:Addr}{fp:List Addr}{s:Shared}{H:Hp}{pn:List (Addr × Obj)}(h1:ZWE (cxE X scope N cl C fp s H pn E).nox Z l elt fe)(h2:YVE (cxE X scope N cl C fp s H pn E) E xn Z l elt fr):PE (cxE X scope N cl C fp s H pn E) elt (tElV Z X.K X.mg E xn l fe fr):=fun pins s σ H Q I h=>by
 rcases h with h | h
 ·exact PE.nox h1.un pins s σ H Q I h
 ·exact h2.un pins s σ H Q I h
theorem Yy1(hfly:∀pins σ e s,Fly X pins σ E e s->X.xe e s)(S:CompSc X.N X.env.scope N src scope)(hc:X.calm=true)(hit:ZI X.nox tg iter gl)(hg:∀cl C fp s H,ZG (Yak X scope N cl C fp s H) tg gt)(h1:∀cl C fp s H pn,ZWE (cxE X scope N cl C fp s H pn E).nox Z l elt fe)(h2:∀cl C fp s H pn,YVE (cxE X scope N cl C fp s H pn E) E xn Z l elt fr)
 (hle:∀ρ d ρ1,gt d (capR src ρ)=some ρ1->Le (capR src ρ) ρ1) (hx:X.ex=[]:=by rfl) (hst:X.stack=X.env::X.outer:=by rfl) (hfr:X.env.frame=some X.env.locals:=by rfl) (hs:∀x,foldedSetIterable iter X.env x=pure x:=by intro _;rfl):YVE X E xn Z l (.ListComp elt [⟨tg,iter,[],0⟩] scope pos) (Yki gl src gt fe fr):=
 ⟨PE.imp (Yyz hfly hx hst hfr S hc (PI.nox' hit.un) (fun cl C fp s H=>(hg cl C fp s H).un) (fun _ _ _ _ _=>Yqp) (fun cl C fp s H pn=>y5p (h1 cl C fp s H pn) (h2 cl C fp s H pn)) hs) fun _ _ _ h=>Yvh hle h⟩
end
end
section
variable {K:W.Frag}
def y2p(P:Program)(w:World)(K:W.Frag)(mg:Str->Option Value)(base:Heap)(k:Nat)(m:Str)(ps:List Str)(g:RI->List D->Int->Option Bool)(xn:Str):Prop:=
 ∃C f fd,FnOk P w K mg base (CXN P w) k f fd ps (spVX (rdH K) K mg 1 true g xn)/\Binds K fd ps []/\W.nsIn K mainGlobals "Reader"=some (some (.ref C))/\Cls K C/\Meth K C m f
section
variable {X:Cx} {E:XK} {xn:Str} {l:Addr} {z:RI} {e e1:Expr} {pos p q cpos:Pos} {sts:List Stmt} {a1 f2:Ro->Option D} {P:Program} {w:World} {mg:Str->Option Value} {base:Heap}
theorem Yjq(i:Nat){j k:Nat}{m y:Str}{ps:List Str}{g:RI->List D->Int->Option Bool}{q apos:Pos}{pl:Sem Bool}(px:Yez (CXN X.prog X.w) X E)(O:y2p X.prog X.w X.K X.mg X.base j m ps g xn)(hr:Room k X.A)(hm:m∉rks:=by decide)(hj:j<=k:=by first | exact qu _ | lia)
 (hi:X.N[i]?=some y:=by rfl) (hv:Vis X.env.scope y:=by first | exact Or.inl rfl | exact Or.inr (Or.inl rfl) | exact Or.inr (Or.inr rfl)) (hd:(y==("__debug__":Str))=false:=by decide) (hcd:(y==("__classdict__":Str))=false:=by decide)
 (ht:eval (.Call (.Attribute (.Name y q) m apos) [] [] pos) X.env=(do
  let ov <-eval (.Name y q) X.env
  standAt apos.atName
  let (f,first) <-holding [ov] (getMethod ov m pl)
  callWith pos f first (backTo pos (starEach [] X.env)) (backToKw pos (keywordEach [] X.env))):=by rfl) :
 YVE X E xn (rdH X.K z) l (.Call (.Attribute (.Name y q) m apos) [] [] pos) (vAt l i (Yfa aNil (g z))):=by
 obtain⟨C,f,fd,F,hb,hn,cl,me⟩:=O
 refine⟨PE.imp (Yqi (E:=E) (Yd3 hi hv hd hcd) cl me F (hr.mono hj) hb .nil px ht) fun σ H Q hx_=>?_⟩
 obtain⟨ρ,t,H0,G0,G,er,w,h⟩:=hx_
 obtain⟨hi',er⟩:=Yrg er
 obtain⟨ds,h1,h2⟩:=qa er
 cases h1
 obtain⟨v,q1,q2⟩:=w.sr.sh i _ hi'
 rw[Rp]at q2
 subst q2
 have hC:z.C=C:=by
  have:=w.sd.1
  rw[hn]at this
  cases this
  rfl
 have hat:H l=some (.ins C z.dx (rks.zip [z.wv,.int t])):=by rw[<-hC];exact w.at
 refine⟨_,q1,l,z.dx,_,rfl,hat,Ypj hm,?_⟩
 exact⟨rfl,z,l,[],[],t,G,rfl,w.sr.seen,w.no,w.at,w.seen,.nil,h2,h.call w⟩
theorem Yi1(i:Nat){j k:Nat}{x y:Str}{ps:List Str}{fa:Ro->Option D}{g:RI->List D->Int->Option Bool}(px:Yez (CXN X.prog X.w) X E)(c:OkVX (rdH X.K) X.prog X.w X.K X.mg X.base j 2 false x ps g xn)(hr:Room k X.A)(hg:Gl X x)(ha:ZE X.nox e fa)(hj:j<=k:=by first | exact qu _ | lia)
 (hi:X.N[i]?=some y:=by rfl) (hv:Vis X.env.scope y:=by first | exact Or.inl rfl | exact Or.inr (Or.inl rfl) | exact Or.inr (Or.inr rfl)) (hd:(y==("__debug__":Str))=false:=by decide) (hcd:(y==("__classdict__":Str))=false:=by decide)
 (hdb:(x==("__debug__":Str))=false:=by decide) (he:starEach [e,.Name y q] X.env=(false,eval e X.env)::starEach [.Name y q] X.env:=by rfl) (he2:starEach [.Name y q] X.env=(false,eval (.Name y q) X.env)::starEach [] X.env:=by rfl) (hpl:(backTo cpos (starEach [.Name y q] X.env)).any (·.1)=false:=by rfl) :
 YVE X E xn (rdH X.K z) l (.Call (.Name x p) [e,.Name y q] [] cpos) (vAt l i (Yfa (Yg fa aNil) (g z))):=Yvf (Zf:=rdH X.K) (zi:=z) i px c hr hg ha hj hi hv hd hcd hdb he he2 hpl
def Yvi(i:Nat)(f2 a1:Ro->Option D)(g:List Str->Addr->TrV Int):Ro->Option Bool:=fun ρ=>(a1 ρ).bind fun b=>(f2 [none,some (.sh b)]).bind fun
 | .lst l=>(Yk6 l).bind fun ws=>@ite _ (∀l,g ws l (ρ.set i (some (.sh (.adr l)))) 0=some true) (Classical.propDecidable _) (some true) none
 | _=>none
theorem Yvj(i:Nat){k k':Nat}{ps:List Str}{y:Str}{p1 p2 cpos:Pos}{g:List Str->Addr->TrV Int}(O:OkRd X.prog X.w X.K X.mg X.base k ps f2)(hf2:∀b d,f2 [none,some (.sh b)]=some d->∀x,f2 [some (.sh (.adr x)),some (.sh b)]=some d)
 (hr:Room k' X.A) (hg:Gl X "Reader") (h1:ZE X.nox e1 a1) (hN:X.N.Nodup) (rest:∀(z:RI) l,ZVX X E xn (rdH X.K z) l sts (g z.ws l)) (hk:k+1<=k':=by first | exact qu _ | lia)
 (hy:X.N[i]?=some y:=by rfl) (hx:Loc X.env.scope y:=by first | exact Or.inl rfl | exact Or.inr rfl) (hse:swapsWith (.Call (.Name "Reader" p2) [e1] [] cpos) (some (.Name y p1)) pos.line X.env=pure false:=by rfl) (hf:X.fn y=true\/X.env.scope.names.lookup y=some .local:=by first | exact .inl rfl | exact .inr rfl)
 (hs1:starEach [e1] X.env=(false,eval e1 X.env)::starEach [] X.env:=by rfl) (hpl:(backTo cpos (starEach [] X.env)).any (·.1)=false:=by rfl) :
 ZX X E xn (.Assign [.Name y p1] (.Call (.Name "Reader" p2) [e1] [] cpos) pos::sts) (Yvi i f2 a1 g):=by
 obtain⟨C,f,fd,hC,hm,mk,F,hb⟩:=O
 have hrest:PSs X sts fun F σ H=>∃z l,svS (rdH X.K z) X.K X.mg E xn l (g z.ws l) F σ H:=fun pins s σ H D I h=>by
  obtain⟨z,l,h⟩:=h
  exact(rest z l).un pins s σ H D I h
 refine⟨PSs.imp (Ydg (Ylk hN hy hx (Yte (E:=E0) mk F (hr.mono hk) hg hm hb .nil Yl7 (Ybb (PE.nox h1.un) Yd5 hs1) (by decide) hs1 hpl) hse hf) hrest) fun F σ H hx_=>?_⟩
 obtain⟨ρ,H0,G0,G,e,s,c⟩:=hx_
 unfold Yvi at e
 obtain⟨b,q1,e⟩:=qa e
 obtain⟨d2,q2,e⟩:=qa e
 split at e
 case h_2=>cases e
 rename_i L
 obtain⟨ws,q3,e⟩:=qa e
 have q4:∀l,g ws l (ρ.set i (some (.sh (.adr l)))) 0=some true:=by
  by_cases hq:∀l,g ws l (ρ.set i (some (.sh (.adr l)))) 0=some true
  ·exact hq
  ·rw[@if_neg _ (Classical.propDecidable _) hq]at e
   cases e
 cases Ygg q3
 refine tOf.at q1 s fun v1 Ha Ga ga ra sa=>?_
 intro x dx hx0 hdx hne
 have gax:Ga x=none:=sa.seen.free hx0
 have smc:Same Ga (upd (upd Ha dx (.own x)) x (.ins C dx [])):=fun a o ho=>by
  have h1:a≠x:=fun z=>by rw[z,gax]at ho;cases ho
  have h2:a≠dx:=fun z=>by rw[z,sa.seen.free hdx]at ho;cases ho
  rw[Yn h1,Yn h2]
  exact sa.seen a o ho
 refine⟨rfl,x,C,dx,v1,b,.lst (ws.map D.str),Ga,rfl,hC,Yq,gax,smc,ra,hf2 b _ q2 x,fun y1 H' G' keep hx' gx' g1 g2 g3 r1=>⟨rfl,?_⟩⟩
 have hHa:Same H Ha:=ga.h
 have hHx:H x=none:=hHa.free hx0
 have hHdx:H dx=none:=hHa.free hdx
 have smH:Same H H':=fun a o ho=>by
  have n1:a≠x:=fun z=>by rw[z,hHx]at ho;cases ho
  have n2:a≠dx:=fun z=>by rw[z,hHdx]at ho;cases ho
  exact keep a o n1 (by rw[Yn n1,Yn n2];exact hHa a o ho)
 have gr:Gr H G H' G':=⟨smH,ga.g.trans g1,g2,fun a ha ha'=>by
  cases z:Ga a with
  | none=>
    have h3:=g3 a z ha'
    have n1:a≠x:=fun y=>ha' (by rw[y];exact gx')
    rw[Yn n1]at h3
    by_cases n2:a=dx
    ·rw[n2];exact hHdx
    ·rw[Yn n2]at h3
     exact hHa.free h3
  | some o=>exact ga.n a ha (by rw[z];exact fun y=>nomatch y)⟩
 have s2:=(s.grow gr).set_sh i (d:=.adr x) (v:=.ref x) (by rw[Rp])
 have hH0x:H0 x=none:=s.gr.h.free hHx
 have hG0x:G0 x=none:=s2.gr.g.free gx'
 have s3:=s2.hideI hx' gx'
 obtain⟨Hb,s4,hbx,back⟩:=s3.rebaseW gx' Yq
 refine⟨⟨C,dx,y1,ws⟩,x,_,0,Hb,G',G',q4 x,⟨s4,gx',hbx,hC,r1⟩,fun C2 H5 H4 G4 hC2 f5 gl5 g5=>?_⟩
 have g6:=(back H5 [] H4 G4 [] f5 (SR.mkSh g5 rfl (fun i d e=>(by simp at e)) (fun i l e=>(by simp at e)) (fun i t ks vs e=>(by simp at e)))).gr
 refine c C2 H4 G4 hC2 ⟨fun a o ho=>g6.h a o ?_,g6.g,g6.s,fun a ha ha'=>?_⟩
 ·have n1:a≠x:=fun z=>by rw[z,hH0x]at ho;cases ho
  show(if a=x then H5 x else upd H0 x _ a)=some o
  rw[if_neg n1,Yn n1]
  exact ho
 ·have h6:(if a=x then H5 x else upd H0 x (.ins C dx (rks.zip [y1,.int 0])) a)=none:=g6.n a ha ha'
  by_cases z:a=x
  ·rw[z];exact hH0x
  ·rw[if_neg z,Yn z]at h6
   exact h6
theorem y7p{x q:Str}{st:Stmt}{k n:Nat}{N ps:List Str}{r:RI->Addr->TrV Int}(F:Mq K "Reader" x q st)(S:FnScope N ps (defScope st))(hb:∀{z:RI} {l:Addr} {f:Addr} {cdv:Value} {A:Around} {outer:List Env} {s:Shared} {H:Hp} {E:XK},Room k (A.deeper (envOfC q (defScope st) s.heap.objs.size f cdv))->ZVX (cxOf (CXN P w) P w K mg base N q (defScope st) f cdv A outer s H E) E xn (rdH K z) l (defBody st) (r z l))(hn:N.length=n:=by rfl)(hm:ps.length=1:=by rfl)
 (B:Bnm x q st ps:=by(intro _ _ _ _ _ _ us hl;obtain⟨_,rfl⟩:=len1 hl;rfl)):y2p P w K mg base (k+1) x ps (fun z=>Yk7 true n (r z)) xn:=by
 obtain⟨C,f,fd,a,cl,me,fu⟩:=F
 exact⟨C,f,fd,Yve fu S hn hm fun _ _ _ _ _ _ _ _ hr=>hb hr,fu.binds B,a,cl,me⟩
theorem Yvk{k n:Nat}{bb:Bool}{x q:Str}{ps:List Str}{st:Stmt}{a:Addr}{fd:FuncData}(F:Fun K x q st a fd)(b:Binds K fd ps [])(hm:mg x=some (.ref a)) :
 OkVX (rdH K) P w K mg base k n bb x ps (fun _ _ _=>none) xn:=by
 have no:∀vs H Q E,¬spVX (rdH K) K mg n bb (fun _ _ _=>none) xn vs H Q E:=fun vs H Q E h=>by
  obtain⟨_,z,l,vs',ds,t,G,_,_,_,_,_,_,e,_⟩:=h
  cases e
 exact⟨a,fd,⟨fun vs H Q E h=>absurd h (no vs H Q E),fun A outer s H args us vs Q E _ _ _ _ h=>absurd h (no vs H Q E)⟩,b,F.kp,hm⟩
end
end
section
def Yy2(gl:Ro->Option (List D))(g:List D->List Int->Option (D × List Int)):Ro->Option D:=fun ρ=>(gl ρ).bind fun L=>(Ygm L).bind fun t=>(g [] t).map (·.1)
theorem Yvl{X:Cx}{e:Expr}{gl:Ro->Option (List D)}{g:List D->List Int->Option (D × List Int)}{p cpos:Pos}{j k:Nat}{x:Str}{ps:List Str}(c:OkT X.prog X.w X.K X.mg X.base j 1 x ps g)(hr:Room k X.A)(hg:Gl X x)(h:ZF X e gl)(hj:j<=k:=by first | exact qu _ | lia)
 (hdb:(x==("__debug__":Str))=false:=by decide) (he:starEach [e] X.env=(false,eval e X.env)::starEach [] X.env:=by rfl) (hpl:(backTo cpos (starEach [] X.env)).any (·.1)=false:=by rfl) :
 ZE X (.Call (.Name x p) [e] [] cpos) (Yy2 gl g):=by
 obtain⟨a,fd,F,hb,hk,hm⟩:=c
 refine⟨PE.imp (Ye7 (E:=E0) (F.mono hj) hr hg hm hk hb .nil Yl7 (Ybb h.un Yd5 he) hdb he hpl) fun σ H Q hx_=>?_⟩
 obtain⟨ρ,d,H0,G0,G,er,s,kk⟩:=hx_
 obtain⟨L,q1,er⟩:=qa er
 obtain⟨t,q2,er⟩:=qa er
 obtain⟨⟨d',t'⟩,q3,rfl⟩:=qc er
 refine⟨ρ,L,H0,G0,G,q1,s,fun l xs H' G' gr hl gl' hl' rl=>?_⟩
 cases Yls q2
 cases Yqq rl
 refine⟨rfl,(),l,[],[],t,d',t',G',rfl,gr.s,gl',hl',trivial,.nil,q3,fun v H2 G2 keep hl2 sm sm' nn rd=>kk v H2 G2 ⟨fun b o ho=>?_,gr.g.trans sm,sm',fun b hb hb'=>?_⟩ rd⟩
 ·have n1:b≠l:=fun z=>by rw[z,hl]at ho;cases ho
  exact keep b o n1 (gr.h b o ho)
 ·by_cases z:G' b=none
  ·exact gr.h.free (nn b z hb')
  ·exact gr.n b hb z
end
section
variable {K:W.Frag}
def mulS:D->D->Option D
 | .str z,.int n=>if z=Str.ofString "9"/\n=30 then some (.str (Str.ofString "999999999999999999999999999999"))else none
 | _,_=>none
theorem nines:MulOk (Str.ofString "9") 30/\Txt.mul (Str.ofString "9") 30=Str.ofString "999999999999999999999999999999":=⟨by unfold MulOk;decide +kernel,by decide +kernel⟩
theorem y2q{X:Cx}:OpR X (binaryOp .Mult) (fun x y H Q=>x=.str (Str.ofString "9")/\y=.int 30/\Q (.str (Str.ofString "999999999999999999999999999999")) H):=by
 intro pins s σ H x y v u Q I rx ry h
 obtain⟨rfl,rfl,q⟩:=h
 obtain⟨t,rfl⟩:=rx
 obtain⟨t',rfl⟩:=ry
 refine SB.mul nines.1 fun t' k=>⟨.str _,H,I.tok k,⟨_,rfl⟩,?_⟩
 rw[nines.2]
 exact q
theorem Yy3:Sem2 K (fun x y H Q=>x=.str (Str.ofString "9")/\y=.int 30/\Q (.str (Str.ofString "999999999999999999999999999999")) H) mulS:=by
 intro x y dx dy d H G Q e sm rx ry q
 unfold mulS at e
 split at e
 ·split at e
  ·rename_i hz
   obtain⟨rfl,rfl⟩:=hz
   cases e
   rw[Ct]at rx
   have ry:y=.int 30:=by
    rw[Ct]at ry
    exact ry
   exact⟨rx.1,ry,q _ H G (Gr.refl sm) (by rw[Rp];exact⟨rfl,Ykf _⟩)⟩
  ·cases e
 ·cases e
theorem Yy4{X:Cx}{a b:Expr}{fa fb:Ro->Option D}{pos:Pos}(ha:ZC X a fa)(hb:ZC X b fb):ZE X (.BinOp a .Mult b pos) (b2 fa fb mulS):=⟨Yj7 y2q Yy3 ha.un hb.un⟩
end
end M
namespace Lw
open PySem PySem.Spec PyProof.Rows L2 M
def top(i:Nat):Stmt:=PySem.Challenge.pw_duskbook_k60_paper_texts_refused.main.body.getD i (.Pass ⟨0,0,0,0⟩)
def ktab:List (Addr × List Str):=[(153,[]),(154,[(Str.ofString "road"),(Str.ofString "road")]),(155,[(Str.ofString "road")]),(156,[(Str.ofString "road"),(Str.ofString "road")]),(157,[(Str.ofString "places")]),(158,[(Str.ofString "source"),(Str.ofString "places"),(Str.ofString "places")]),(159,[(Str.ofString "plan rows")]),(160,[(Str.ofString "sum rows")]),(161,[(Str.ofString "beacons"),(Str.ofString "if rows")]),(163,[(Str.ofString "beacon"),(Str.ofString "source"),(Str.ofString "truth")]),(164,[(Str.ofString "beacon"),(Str.ofString "beacons"),(Str.ofString "truth")]),(165,[(Str.ofString "beacon"),(Str.ofString "beacons")])]
def Ybc:List Str:=[(Str.ofString "broken"),(Str.ofString "clash"),(Str.ofString "cross"),(Str.ofString "late"),(Str.ofString "odd"),(Str.ofString "lone"),(Str.ofString "plan"),(Str.ofString "sums"),(Str.ofString "rows")]
def Ycx:List Str:=[(Str.ofString "plan rows"),(Str.ofString "sum rows"),(Str.ofString "if rows")]
def y0:List Str:=[(Str.ofString "road"),(Str.ofString "places"),(Str.ofString "beacons")]
def Yab:List Str:=[(Str.ofString "+"),(Str.ofString "-")]
def gt_PAPERS:List (Str × Addr):=[((Str.ofString "broken"),153),((Str.ofString "clash"),154),((Str.ofString "cross"),155),((Str.ofString "late"),156),((Str.ofString "odd"),157),((Str.ofString "lone"),158),((Str.ofString "plan"),159),((Str.ofString "sums"),160),((Str.ofString "rows"),161)]
def gt_ROWS:List (Str × Addr):=[((Str.ofString "plan rows"),163),((Str.ofString "sum rows"),164),((Str.ofString "if rows"),165)]
def gt_SEVERAL:List (Str × Str):=[((Str.ofString "road"),(Str.ofString "saying")),((Str.ofString "places"),(Str.ofString "place")),((Str.ofString "beacons"),(Str.ofString "beacon"))]
def gt_TRUTHS_BY_MARK:List (Str × Bool):=[((Str.ofString "+"),true),((Str.ofString "-"),false)]
def gt_TRUTHS_BY_WORD:List (Str × Bool):=[((Str.ofString "yes"),true),((Str.ofString "no"),false)]
set_option maxHeartbeats 4000000
def Fq(K:W.Frag)(mg:Str->Option Value)(x:Str)(i:Nat):Prop:=∃a fd,Fun K x x (top i) a fd/\mg x=some (.ref a)
def Fk(K:W.Frag)(x:Str)(i:Nat):Prop:=∃a fd,W.nsIn K mainGlobals x=some (some (.ref a))/\Fun K x x (top i) a fd
theorem Fk.on{K:W.Frag}{h:Heap}{mg:Str->Option Value}{x:Str}{i:Nat}(F:Fk K x i)(X:K.In h)(G:h.Ns mainGlobals mg):Fq K mg x i:=by
 obtain⟨a,fd,n,f⟩:=F
 exact⟨a,fd,f,W.mg_of X G n⟩
theorem fk_mk{K:W.Frag}{x:Str}{i:Nat}{f:Addr}{oc:Value}{od an:Option Addr}{osl:Array (Option Value)}{kV doc pm cdv ct:Value}(a:W.nsIn K mainGlobals x=some (some (.ref f)))(l:K.lookup f=some ⟨oc,od,.func (W.fnOf x x (defArgs (top i)) (defBody (top i)) (defScope (top i)) .none kV doc pm an cdv ct),osl⟩)(c:W.codeIn K cdv x=true)(k:W.keepIn K (.ref f)=true):Fk K x i:=⟨_,_,a,Yql l c k⟩
theorem fns{N ps:List Str}{sc:Scope}(a:sc.kind=.function:=by rfl)(b:sc.isCoroutine=false:=by rfl)(c:sc.isGenerator=false:=by rfl)(d:N.Nodup:=by decide +kernel)(e:N.take ps.length=ps:=by rfl)(f:∀x∈ps,sc.names.lookup x=some .local\/sc.names.lookup x=some .cell:=by decide +kernel)(g:∀y∈sc.names,y.2≠.free:=by decide +kernel):FnScope N ps sc:=⟨a,b,c,d,e,f,g⟩
def Bnd(x:Str)(i:Nat)(ps:List Str):Prop:=∀(kV doc pm:Value) (an:Option Addr) (cdv ct:Value) (us:List Value),us.length=ps.length->bindArgs (W.fnOf x x (defArgs (top i)) (defBody (top i)) (defScope (top i)) .none kV doc pm an cdv ct) ⟨us,[]⟩=pure (ps.zip us)
theorem okfn{P:Program}{w:World}{K:W.Frag}{mg:Str->Option Value}{base:Heap}{x:Str}{i k n m:Nat}{N ps:List Str}{fb:Ro->Option Out}(F:Fq K mg x i)(S:FnScope N ps (defScope (top i)))(hb:∀{f:Addr} {cdv:Value} {A:Around} {outer:List Env} {s:Shared} {H:Hp} {E:XK},Room k (A.deeper (envOfC x (defScope (top i)) s.heap.objs.size f cdv))->ZB (cxOf CX0 P w K mg base N x (defScope (top i)) f cdv A outer s H E).nox (defBody (top i)) fb)(hn:N.length=n:=by rfl)(hm:ps.length=m:=by rfl)(B:Bnd x i ps:=by(intro _ _ _ _ _ _ us hl;first | (obtain⟨_,rfl⟩:=len1 hl;rfl) | (obtain⟨_,_,rfl⟩:=len2 hl;rfl) | (obtain⟨_,_,_,rfl⟩:=len3 hl;rfl) | (obtain⟨_,_,_,_,rfl⟩:=len4 hl;rfl) | (obtain⟨_,_,_,_,_,rfl⟩:=len5 hl;rfl) | (obtain⟨_,_,_,_,_,_,rfl⟩:=len6 hl;rfl) | (obtain⟨_,_,_,_,_,_,_,rfl⟩:=len7 hl;rfl))):Okf P w K mg base (k+1) m x ps (runB m n fb):=by
 obtain⟨a,fd,f,h⟩:=F
 exact y46 f (f.binds B) h (Ylu (k:=k) f S hn hm fun _ _ _ _ _ _ hr=>hb hr)
theorem okfx{P:Program}{w:World}{K:W.Frag}{mg:Str->Option Value}{base:Heap}{x xn:Str}{i k n m:Nat}{N ps:List Str}{r:Ro->Option Bool}(F:Fq K mg x i)(S:FnScope N ps (defScope (top i)))(hb:∀{f:Addr} {cdv:Value} {A:Around} {outer:List Env} {s:Shared} {H:Hp} {E:XK},Room k (A.deeper (envOfC x (defScope (top i)) s.heap.objs.size f cdv))->ZX (cxOf (CXN P w) P w K mg base N x (defScope (top i)) f cdv A outer s H E) E xn (defBody (top i)) r)(hn:N.length=n:=by rfl)(hm:ps.length=m:=by rfl)(B:Bnd x i ps:=by(intro _ _ _ _ _ _ us hl;first | (obtain⟨_,rfl⟩:=len1 hl;rfl) | (obtain⟨_,_,rfl⟩:=len2 hl;rfl) | (obtain⟨_,_,_,rfl⟩:=len3 hl;rfl) | (obtain⟨_,_,_,_,rfl⟩:=len4 hl;rfl) | (obtain⟨_,_,_,_,_,rfl⟩:=len5 hl;rfl) | (obtain⟨_,_,_,_,_,_,rfl⟩:=len6 hl;rfl) | (obtain⟨_,_,_,_,_,_,_,rfl⟩:=len7 hl;rfl))):Okx P w K mg base (k+1) m x ps (runX m n r) xn:=by
 obtain⟨a,fd,f,h⟩:=F
 exact⟨a,fd,Ysp (k:=k) f S hn hm fun _ _ _ _ _ _ hr=>hb hr,f.binds B,f.kp,h⟩
theorem okft{P:Program}{w:World}{K:W.Frag}{mg:Str->Option Value}{base:Heap}{x:Str}{i k n m:Nat}{N ps:List Str}{g:Addr->TmM}(F:Fq K mg x i)(S:FnScope N ps (defScope (top i)))(hb:∀{l:Addr} {f:Addr} {cdv:Value} {A:Around} {outer:List Env} {s:Shared} {H:Hp} {E:XK},Room k (A.deeper (envOfC x (defScope (top i)) s.heap.objs.size f cdv))->ZTB (cxOf CX0 P w K mg base N x (defScope (top i)) f cdv A outer s H E).nox tpH l (defBody (top i)) (g l))(hn:N.length=n:=by rfl)(hm:ps.length=m:=by rfl)(B:Bnd x i ps:=by(intro _ _ _ _ _ _ us hl;first | (obtain⟨_,rfl⟩:=len1 hl;rfl) | (obtain⟨_,_,rfl⟩:=len2 hl;rfl))):OkT P w K mg base (k+1) m x ps (runT n g):=by
 obtain⟨a,fd,f,h⟩:=F
 exact⟨a,fd,Yun (Zf:=fun _:Unit=>tpH) (g:=fun _=>g) (b:=true) (k:=k) f S hn hm fun _ _ _ _ _ _ _ _ hr=>hb hr,f.binds B,f.kp,h⟩
theorem okfv{P:Program}{w:World}{K:W.Frag}{mg:Str->Option Value}{base:Heap}{x:Str}{i k n:Nat}{N ps:List Str}{g:RI->Addr->TmV Int}(F:Fq K mg x i)(S:FnScope N ps (defScope (top i)))(hb:∀{z:RI} {l:Addr} {f:Addr} {cdv:Value} {A:Around} {outer:List Env} {s:Shared} {H:Hp} {E:XK},Room k (A.deeper (envOfC x (defScope (top i)) s.heap.objs.size f cdv))->ZTB (cxOf CX0 P w K mg base N x (defScope (top i)) f cdv A outer s H E).nox (rdH K z) l (defBody (top i)) (g z l))(hn:N.length=n:=by rfl)(hm:ps.length=2:=by rfl)(B:Bnd x i ps:=by(intro _ _ _ _ _ _ us hl;obtain⟨_,_,rfl⟩:=len2 hl;rfl)):OkV (rdH K) P w K mg base (k+1) 2 false x ps (fun z=>runV false n (g z)):=by
 obtain⟨a,fd,f,h⟩:=F
 exact⟨a,fd,Yun (k:=k) f S hn hm fun _ _ _ _ _ _ _ _ hr=>hb hr,f.binds B,f.kp,h⟩
theorem okv0{P:Program}{w:World}{K:W.Frag}{mg:Str->Option Value}{base:Heap}{x:Str}{i k:Nat}{ps:List Str}{g:RI->List D->Int->Option (D × Int)}(F:Fq K mg x i)(h0:g=fun _ _ _=>none)(hm:ps.length=2:=by rfl)(B:Bnd x i ps:=by(intro _ _ _ _ _ _ us hl;obtain⟨_,_,rfl⟩:=len2 hl;rfl)):OkV (rdH K) P w K mg base k 2 false x ps g:=by
 obtain⟨a,fd,f,h⟩:=F
 rw[h0]
 exact Yyn f (f.binds B) h
theorem y5q{P:Program}{w:World}{K:W.Frag}{mg:Str->Option Value}{base:Heap}{x xn:Str}{i k n:Nat}{N ps:List Str}{r:RI->Addr->TrV Int}(F:Fq K mg x i)(S:FnScope N ps (defScope (top i)))(hb:∀{z:RI} {l:Addr} {f:Addr} {cdv:Value} {A:Around} {outer:List Env} {s:Shared} {H:Hp} {E:XK},Room k (A.deeper (envOfC x (defScope (top i)) s.heap.objs.size f cdv))->ZVX (cxOf (CXN P w) P w K mg base N x (defScope (top i)) f cdv A outer s H E) E xn (rdH K z) l (defBody (top i)) (r z l))(hn:N.length=n:=by rfl)(hm:ps.length=2:=by rfl)(B:Bnd x i ps:=by(intro _ _ _ _ _ _ us hl;obtain⟨_,_,rfl⟩:=len2 hl;rfl)):OkVX (rdH K) P w K mg base (k+1) 2 false x ps (fun z=>Yk7 false n (r z)) xn:=by
 obtain⟨a,fd,f,h⟩:=F
 exact⟨a,fd,Yve (k:=k) f S hn hm fun _ _ _ _ _ _ _ _ hr=>hb hr,f.binds B,f.kp,h⟩
theorem y5r{P:Program}{w:World}{K:W.Frag}{mg:Str->Option Value}{base:Heap}{x xn:Str}{i k:Nat}{ps:List Str}{g:RI->List D->Int->Option Bool}(F:Fq K mg x i)(h0:g=fun _ _ _=>none)(hm:ps.length=2:=by rfl)(B:Bnd x i ps:=by(intro _ _ _ _ _ _ us hl;obtain⟨_,_,rfl⟩:=len2 hl;rfl)):OkVX (rdH K) P w K mg base k 2 false x ps g xn:=by
 obtain⟨a,fd,f,h⟩:=F
 rw[h0]
 exact Yvk f (f.binds B) h
theorem aL1{f0:Ro->Option D}:∀ρ l,Yg f0 aNil ρ=some l->l.length=1:=Ynr fun _ _ h=>Yxl h
theorem aL2{f0 f1:Ro->Option D}:∀ρ l,Yg f0 (Yg f1 aNil) ρ=some l->l.length=2:=Ynr aL1
structure Bl(K:W.Frag)(w:World)(mg:Str->Option Value):Prop where
 Len:mg "len"=none
 Range:mg "range"=none
 List:mg "list"=none
 Tuple:mg "tuple"=none
 Int:mg "int"=none
 Bool:mg "bool"=none
 Str:mg "str"=none
 Any:mg "any"=none
 All:mg "all"=none
 Isinstance:mg "isinstance"=none
 Reversed:mg "reversed"=none
 Valueerror:mg "ValueError"=none
 g_BEACON_COUNT:GI mg "BEACON_COUNT" 60
 g_FIGURES:GS mg "FIGURES" "0123456789"
 g_MOST_FIGURES:GI mg "MOST_FIGURES" 3
 g_MOST_NUMBER:GI mg "MOST_NUMBER" 200
 g_PAPERS:GDA K w mg "PAPERS" gt_PAPERS
 g_ROWS:GDA K w mg "ROWS" gt_ROWS
 g_SEVERAL:GD K w mg "SEVERAL" gt_SEVERAL
 g_TRUTHS_BY_MARK:GDB K w mg "TRUTHS_BY_MARK" gt_TRUTHS_BY_MARK
 g_TRUTHS_BY_WORD:GDB K w mg "TRUTHS_BY_WORD" gt_TRUTHS_BY_WORD
 k_PAPERS:GK K w mg "PAPERS" Ybc
 k_ROWS:GK K w mg "ROWS" Ycx
 k_SEVERAL:GK K w mg "SEVERAL" y0
 k_TRUTHS_BY_MARK:GK K w mg "TRUTHS_BY_MARK" Yab
 kts:KTs K ktab
 f12:Fq K mg "is_beacon" 12
 f17:Fq K mg "number_read" 17
 f18:Fq K mg "beacon_read" 18
 f19:Fq K mg "saying_read" 19
 f27:Fq K mg "place_read" 27
 f28:Fq K mg "checked" 28
 f29:Fq K mg "thing_read" 29
 r_is_at_end:Mq K "Reader" "is_at_end" "Reader.is_at_end" (inClass (top 26) 1)
 r_taken:Mq K "Reader" "taken" "Reader.taken" (inClass (top 26) 2)
 f31:Fq K mg "parts_read" 31
 f30:Fq K mg "part_read" 30
 r_init:Iqr K (inClass (top 26) 0)
 f32:Fq K mg "paper_read" 32
 f34:Fq K mg "_law_cell" 34
 f35:Fq K mg "_law_mixed" 35
 f36:Fq K mg "_law_next" 36
 f37:Fq K mg "_law_many" 37
 f38:Fq K mg "_law_any_road" 38
 f39:Fq K mg "_law_any_numbers" 39
 f40:Fq K mg "_law_any_rows" 40
 f41:Fq K mg "_law_any" 41
 f42:Fq K mg "_law_number_words" 42
 f43:Fq K mg "_law_road_words" 43
 f44:Fq K mg "_law_free_word" 44
 f45:Fq K mg "_law_rows_words" 45
 f46:Fq K mg "_law_paper_words" 46
 f47:Fq K mg "_law_faulty" 47
 f48:Fq K mg "_law_far_beacon" 48
 f49:Fq K mg "_law_kinds" 49
 cR:∀C,W.nsIn K mainGlobals "Reader"=some (some (.ref C))->mg "Reader"=some (.ref C)
 n_words:Nq K "Reader" "words"
 n_place:Nq K "Reader" "place"
 x_NoPaper_NoPaper:Xp K mg "NoPaper" "NoPaper" true
 x_NoPaper_DuskError:Xp K mg "NoPaper" "DuskError" true
 x_NoPaper_NoneSettled:Xp K mg "NoPaper" "NoneSettled" false
 x_NoPaper_NoLight:Xp K mg "NoPaper" "NoLight" false
 x_NoPaper_NoHands:Xp K mg "NoPaper" "NoHands" false
 x_NoPaper_NoBook:Xp K mg "NoPaper" "NoBook" false
 x_NoPaper_Over:Xp K mg "NoPaper" "Over" false
 x_NoPaper_NoTable:Xp K mg "NoPaper" "NoTable" false
 x_NoPaper_NoPage:Xp K mg "NoPaper" "NoPage" false
section
variable {P:Program} {w:World} {K:W.Frag} {mg:Str->Option Value} {base:Heap}
theorem Yoe:FnScope ["thing"] ["thing"] (defScope (top 12)):=fns
def Yc9:Ro->Option Out:=(sRet (andV (mB (b1 (getC 0) (isiD "int"))) (andV (notV (mB (b1 (getC 0) (isiD "bool")))) (mB (ch3 (kD (.int 0)) (getC 0) (kD (.int 60)) leI ltI)))))
def Yb6:List D->Option D:=runB 1 1 Yc9
theorem Yof(bl:Bl K w mg):Okf P w K mg base 1 1 "is_beacon" ["thing"] Yb6:=by
 refine okfn bl.f12 Yoe fun hr=>?_
 exact(Yy (y8 (Yt7 (Yt8 (Yd 0) rfl rfl bl.Isinstance bl.Int boot_int (y1p)) (Yt7 (y1v (Yt8 (Yd 0) rfl rfl bl.Isinstance bl.Bool boot_bool (Yxn))) (Yxw (Yt9 y0u Yiu y3t Yiu (Yb Yh) (Yd 0) (Yb (Ymh bl.g_BEACON_COUNT rfl))))))))
theorem Yk8:FnScope ["word"] ["word"] (defScope (top 17)):=fns
theorem cs_number_read_0:CompSc ["word"] (defScope (top 17)) ["sign"] [none] (fsc [(".0",.local),("sign",.local),("FIGURES",.globalImplicit)]):=Yfv (by decide +kernel)
def Ydo:Ro->Option D:=(mB (b2 (getC 0) (kD (.str "0123456789")) inS))
@[simp] def Ykj:Ro->Option Out:=(sRet (cC (Yg (getC 0) aNil) intS))
@[simp] def Ykk:Ro->Option Out:=(sSeq (sIf (andT (b2 (cC (Yg (getC 0) aNil) lenS) (kD (.int 1)) gtI) (b2 (b2 (getC 0) (kD (.int 0)) ixS) (kD (.str "0")) (eqM false))) (sRet (kD .non)) sNil) Ykj)
def Ya8:Ro->Option Out:=(sSeq (sIf (orT (notT (ch3 (kD (.int 1)) (cC (Yg (getC 0) aNil) lenS) (kD (.int 3)) leI leI)) (notT (b1 (cC (Yg (lF (Yns (b1 (getV 0) Yq5) [none] (gSet 0) tY (Ydo))) aNil) allC) truD))) (sRet (kD .non)) sNil) Ykk)
def Ybv:List D->Option D:=runB 1 1 Ya8
theorem Ygp(bl:Bl K w mg):Okf P w K mg base 1 1 "number_read" ["word"] Ybv:=by
 refine okfn bl.f17 Yk8 fun hr=>?_
 exact(Yo (Ybo (Yeh (Yjd (Ypb (Yua y0u Yiu y0u Yiu (Yb Yh) (Yb (Ybz Yja Yq4 rfl bl.Len PySem.boot_len (Yx (Yd 0) y6))) (Yb (Ymh bl.g_MOST_FIGURES rfl)))) (Yfx (Ypb (Ypa (Yb (Ybz (Ytx rfl) y1q rfl bl.All boot_all (Yx (Yb (Yaz (Ymf cs_number_read_0 rfl (y2i (Yp 0)) (fun _ _ _ _ _=>(Ycw 0 cs_number_read_0.nd)) (fun _ _ _ _ _=>Ype) (fun _ _ _ _ _=>(y2g (Yd 0) (Yb (Yyj bl.g_FIGURES rfl)))) (Yiv (i:=0) rfl)))) y6)))))))) (Yy (y8 Yc8)) Ya1) (Yo (Ybo (Yeh (Yiw (Yt6 (Yb (Ybz Yja Yq4 rfl bl.Len PySem.boot_len (Yx (Yd 0) y6))) (Yb Yh)) (Ygf (Yay hr.units (Yb (Ypk (Yd 0) (Yb Yh) (fun _ _=>rfl))) (Yb Yi))))) (Yy (y8 Yc8)) Ya1) (Yy (y8 (Yaw Yur Yyf rfl bl.Int boot_int (Yx (Yd 0) y6))))))
theorem sc_beacon_read:FnScope ["word","number"] ["word"] (defScope (top 18)):=fns
def Ycy:Ro->Option Out:=(sSeq (sSet 1 (cC (Yg (getV 0) aNil) Ybv)) (sRet (ifV (b1 (cC (Yg (getV 1) aNil) Yb6) truD) (getV 1) (kD .non))))
def Yap:List D->Option D:=runB 1 2 Ycy
theorem Yeu(bl:Bl K w mg):Okf P w K mg base 2 1 "beacon_read" ["word"] Yap:=by
 refine okfn bl.f18 sc_beacon_read fun hr=>?_
 exact(Yo (Yco 1 sc_beacon_read.nd (Yt (Ygp bl) hr rfl (Yc (Yp 0) Yj) aL1)) (Yy (y8 (Yzz (Ypa (Yb (Yt (Yof bl) hr rfl (Yc (Yp 1) Yj) aL1))) (Yp 1) Yc8))))
theorem sc_saying_read:FnScope ["word","beacon"] ["word"] (defScope (top 19)):=fns
@[simp] def Ykl:Ro->Option Out:=(sRet (dTup (Yg (getV 1) (Yg (b1 (b2 (getC 0) (kD (.int 0)) ixS) (Yn7 gt_TRUTHS_BY_MARK)) aNil))))
@[simp] def Ykm:Ro->Option Out:=(sSeq (sIf (orT (b2 (getC 1) (kD .non) (isN false)) (b1 (b2 (getC 0) (kD (.int 0)) ixS) (inG true Yab))) (sRet (kD .non)) sNil) Ykl)
def Ycc:Ro->Option Out:=(sSeq (sSet 1 (cC (Yg (b1 (getV 0) (cutS 1)) aNil) Yap)) Ykm)
def Ybh:List D->Option D:=runB 1 2 Ycc
theorem Ygq(bl:Bl K w mg):Okf P w K mg base 3 1 "saying_read" ["word"] Ybh:=by
 refine okfn bl.f19 sc_saying_read fun hr=>?_
 exact(Yo (Yco 1 sc_saying_read.nd (Yt (Yeu bl) hr rfl (Yc (Yyi (Yp 0)) Yj) aL1)) (Yo (Ybo (Yeh (Yjd (Ykc (Yd 1) (Yb Yc8)) (Yfx (Ydh bl.k_TRUTHS_BY_MARK rfl (Yb (Ypk (Yd 0) (Yb Yh) (fun _ _=>rfl))))))) (Yy (y8 Yc8)) Ya1) (Yy (y8 (Ykd (Yc (Yp 1) (Yc (Ysm bl.g_TRUTHS_BY_MARK rfl (Yb (Ypk (Yd 0) (Yb Yh) (fun _ _=>rfl)))) Yj)))))))
theorem sc_place_read:FnScope ["word","number"] ["word"] (defScope (top 27)):=fns
def Ydm:Ro->Option Out:=(sSeq (sSet 1 (cC (Yg (getV 0) aNil) Ybv)) (sRet (ifV (orT (b2 (getC 1) (kD .non) (isN false)) (b2 (getC 1) (kD (.int 200)) gtI)) (kD .non) (getV 1))))
def Yaf:List D->Option D:=runB 1 2 Ydm
theorem Ycd(bl:Bl K w mg):Okf P w K mg base 2 1 "place_read" ["word"] Yaf:=by
 refine okfn bl.f27 sc_place_read fun hr=>?_
 exact(Yo (Yco 1 sc_place_read.nd (Yt (Ygp bl) hr rfl (Yc (Yp 0) Yj) aL1)) (Yy (y8 (Yzz (Yeh (Yjd (Ykc (Yd 1) (Yb Yc8)) (Yfx (Yt6 (Yd 1) (Yb (Ymh bl.g_MOST_NUMBER rfl)))))) Yc8 (Yp 1)))))
theorem Ylx:FnScope ["thing"] ["thing"] (defScope (top 28)):=fns
def Yog:Ro->Option Out:=(sSeq (sIf (b2 (getC 0) (kD .non) (isN false)) nS sNil) (sRet (getV 0)))
def Yb7:List D->Option D:=runB 1 1 Yog
theorem Yd2(bl:Bl K w mg):Okf P w K mg base 1 1 "checked" ["thing"] Yb7:=by
 refine okfn bl.f28 Ylx fun hr=>?_
 exact(Yo (Ybo (Ykc (Yd 0) (Yb Yc8)) (Yy Yfy) Ya1) (Yy (y8 (Yp 0))))
def Yly:Ro->Option Bool:=(xIf (b2 (getC 0) (kD .non) (isN false)) xYes xNo)
def Ycz:List D->Option Bool:=runX 1 1 Yly
theorem Yea(bl:Bl K w mg):Okx P w K mg base 1 1 "checked" ["thing"] Ycz "NoPaper":=by
 refine okfx bl.f28 Ylx fun hr=>?_
 exact(Yu5 (Ykc (Yd 0) (Yb Yc8)) (Yys bl.x_NoPaper_NoPaper) y5m)
theorem Yh3:FnScope ["form","word"] ["form","word"] (defScope (top 29)):=fns
@[simp] def Yk9:Ro->Option Out:=(sRet (cC (Yg (cC (Yg (getV 1) aNil) Yap) aNil) Yb7))
@[simp] def Yla:Ro->Option Out:=(sSeq (sIf (b2 (getC 0) (kD (.str "place")) (eqM false)) (sRet (cC (Yg (cC (Yg (getV 1) aNil) Yaf) aNil) Yb7)) sNil) Yk9)
@[simp] def Ylb:Ro->Option Out:=(sSeq (sIf (b2 (getC 0) (kD (.str "truth")) (eqM false)) (sRet (cC (Yg (b1 (getC 1) (Ysl gt_TRUTHS_BY_WORD)) aNil) Yb7)) sNil) Yla)
@[simp] def Ylc:Ro->Option Out:=(sSeq (sIf (b2 (getC 0) (kD (.str "saying")) (eqM false)) (sRet (cC (Yg (cC (Yg (getV 1) aNil) Ybh) aNil) Yb7)) sNil) Ylb)
def Yb8:Ro->Option Out:=(sSeq (sIf (andT (b2 (getC 0) (kD (.str "source")) (eqM false)) (b2 (getC 1) (kD (.str "none")) (eqM false))) (sRet (kD .non)) sNil) Ylc)
def y4:List D->Option D:=runB 2 2 Yb8
theorem Ydw(bl:Bl K w mg):Okf P w K mg base 4 2 "thing_read" ["form","word"] y4:=by
 refine okfn bl.f29 Yh3 fun hr=>?_
 exact(Yo (Ybo (Yeh (Yiw (Yay hr.units (Yd 0) (Yb Yi)) (Ygf (Yay hr.units (Yd 1) (Yb Yi))))) (Yy (y8 Yc8)) Ya1) (Yo (Ybo (Yay hr.units (Yd 0) (Yb Yi)) (Yy (y8 (Yt (Yd2 bl) hr rfl (Yc (Yt (Ygq bl) hr rfl (Yc (Yp 1) Yj) aL1) Yj) aL1))) Ya1) (Yo (Ybo (Yay hr.units (Yd 0) (Yb Yi)) (Yy (y8 (Yt (Yd2 bl) hr rfl (Yc (Yn8 bl.g_TRUTHS_BY_WORD rfl (Yd 1)) Yj) aL1))) Ya1) (Yo (Ybo (Yay hr.units (Yd 0) (Yb Yi)) (Yy (y8 (Yt (Yd2 bl) hr rfl (Yc (Yt (Ycd bl) hr rfl (Yc (Yp 1) Yj) aL1) Yj) aL1))) Ya1) (Yy (y8 (Yt (Yd2 bl) hr rfl (Yc (Yt (Yeu bl) hr rfl (Yc (Yp 1) Yj) aL1) Yj) aL1)))))))
def Ybw:Ro->Option Bool:=(xIf (andT (b2 (getC 0) (kD (.str "source")) (eqM false)) (b2 (getC 1) (kD (.str "none")) (eqM false))) xNo (xIf (b2 (getC 0) (kD (.str "saying")) (eqM false)) (Yoa (Yg (cC (Yg (getV 1) aNil) Ybh) aNil) Ycz) (xIf (b2 (getC 0) (kD (.str "truth")) (eqM false)) (Yoa (Yg (b1 (getC 1) (Ysl gt_TRUTHS_BY_WORD)) aNil) Ycz) (xIf (b2 (getC 0) (kD (.str "place")) (eqM false)) (Yoa (Yg (cC (Yg (getV 1) aNil) Yaf) aNil) Ycz) (Yoa (Yg (cC (Yg (getV 1) aNil) Yap) aNil) Ycz)))))
def Yr:List D->Option Bool:=runX 2 2 Ybw
theorem Ygr(bl:Bl K w mg):Okx P w K mg base 4 2 "thing_read" ["form","word"] Yr "NoPaper":=by
 refine okfx bl.f29 Yh3 fun hr=>?_
 exact(Yu5 (Yeh (Yiw (Yay hr.units (Yd 0) (Yb Yi)) (Ygf (Yay hr.units (Yd 1) (Yb Yi))))) y5m (Yu5 (Yay hr.units (Yd 0) (Yb Yi)) (Yrf (Ymn Yi0 (Yea bl) hr rfl (Yc (Yt (Ygq bl) hr rfl (Yc (Yp 1) Yj) aL1) Yj) aL1)) (Yu5 (Yay hr.units (Yd 0) (Yb Yi)) (Yrf (Ymn Yi0 (Yea bl) hr rfl (Yc (Yn8 bl.g_TRUTHS_BY_WORD rfl (Yd 1)) Yj) aL1)) (Yu5 (Yay hr.units (Yd 0) (Yb Yi)) (Yrf (Ymn Yi0 (Yea bl) hr rfl (Yc (Yt (Ycd bl) hr rfl (Yc (Yp 1) Yj) aL1) Yj) aL1)) (Yrf (Ymn Yi0 (Yea bl) hr rfl (Yc (Yt (Yeu bl) hr rfl (Yc (Yp 1) Yj) aL1) Yj) aL1))))))
theorem Yhc:FnScope ["self"] ["self"] (defScope (inClass (top 26) 1)):=fns
def Yc0(ws:List Str)(l:Addr):TmV Int:=(retZ (rdD ws) l 0 (mB (b2 (b1 (getV 0) (fldD "Reader" "place")) (cC (Yg (b1 (getV 0) (fldD "Reader" "words")) aNil) lenC) (eqM false))))
def Yae(ws:List Str):List D->Int->Option (D × Int):=runV true 1 (Yc0 ws)
theorem Ybx(bl:Bl K w mg):Okm P w K mg base 1 "Reader" "is_at_end" ["self"] (spV (rdH K) K 1 true fun z=>Yae z.ws):=by
 refine okmv (g:=fun z=>Yc0 z.ws) bl.r_is_at_end Yhc fun {z l} _ _ _ _ _ _ _ hr=>?_
 exact(Yaj (Yq7 0 (Ynw hr.units (Yb (Ymj bl.n_place.cf (Yp 0))) (Yb (Ybz Yb5 Yg5 rfl bl.Len PySem.boot_len (Yx (Yb (Ymj bl.n_words.cf (Yp 0))) y6))))))
theorem Yf1:FnScope ["self"] ["self"] (defScope (inClass (top 26) 2)):=fns
def Yfg(ws:List Str)(l:Addr):TmV Int:=(retZ (rdD ws) l 0 (b2 (b1 (getV 0) (fldD "Reader" "words")) (b2 (b1 (getV 0) (fldD "Reader" "place")) (kD (.int 1)) subI) ixD))
def Yfh(ws:List Str)(l:Addr):TmV Int:=(seqW (incR l 0) (Yfg ws l))
def Yev(ws:List Str)(l:Addr):TmV Int:=(seqW (ifE (blE (y3 l 0 (Yau aNil (Yae ws)))) (Ydl nS) nilW) (Yfh ws l))
def Yz(ws:List Str):List D->Int->Option (D × Int):=runV true 1 (Yev ws)
theorem Yag(bl:Bl K w mg):Okm P w K mg base 2 "Reader" "taken" ["self"] (spV (rdH K) K 1 true fun z=>Yz z.ws):=by
 refine okmv (g:=fun z=>Yev z.ws) bl.r_taken Yf1 fun {z l} _ _ _ _ _ _ _ hr=>?_
 exact(Yad (Yup (Ymk (Ybu 0 (Ybx bl) hr)) (Yaj (Ya7 Yfy)) Yd6) (Yad (y2j 0 bl.n_place.cf) (Yaj (Yq7 0 (y9 (Yb (Ymj bl.n_words.cf (Yp 0))) (Yb (Yt5 (Yb (Ymj bl.n_place.cf (Yp 0))) (Yb Yh))))))))
def Yc1(ws:List Str)(l:Addr):TrV Int:=(vIf (blE (y3 l 0 (Yau aNil (Yae ws)))) vYes vNo)
def Yao(ws:List Str):List D->Int->Option Bool:=Yk7 true 1 (Yc1 ws)
theorem Ycl(bl:Bl K w mg):y2p P w K mg base 2 "taken" ["self"] (fun z=>Yao z.ws) "NoPaper":=by
 refine y7p (r:=fun z=>Yc1 z.ws) bl.r_taken Yf1 fun {z l} _ _ _ _ _ _ _ hr=>?_
 exact(Yps (Yod (Ymk (Ybu 0 (Ybx bl) hr)) (Yf0 (Ykh bl.x_NoPaper_NoPaper)) Yri))
theorem Yh4:FnScope ["forms","reader"] ["forms","reader"] (defScope (top 31)):=fns
theorem cs_parts_read_0:CompSc ["forms","reader"] (defScope (top 31)) ["form","reader"] [none,some 1] (fsc [(".0",.local),("form",.local),("part_read",.globalImplicit),("reader",.free)]):=Yfv (by decide +kernel)
def Yah(ws:List Str)(rec:List D->Int->Option (D × Int))(l:Addr):TeV Int:=(y3 l 1 (Yau (Yg (getV 0) aNil) rec))
def Ya2(ws:List Str)(rec:List D->Int->Option (D × Int))(rx:List D->Int->Option Bool)(l:Addr):TrV Int:=(vAt l 1 (Yfa (Yg (getV 0) aNil) rx))
def Yf2(ws:List Str)(rec:List D->Int->Option (D × Int))(l:Addr):TmV Int:=(retE (tupE (Yq8 (b1 (getV 0) (tabD ktab)) [none,some 1] (gSet 0) (Yah ws rec l))))
theorem sc_part_read:FnScope ["form","reader","parts","count"] ["form","reader"] (defScope (top 30)):=fns
def Yai(ws:List Str)(rec:List D->Int->Option (D × Int))(l:Addr):TmV Int:=(ifW (fun ρ _=>(b1 (getC 0) (inG false y0)) ρ) (appE 2 (Yfr (Yax (Ycp (b1 (getC 0) (Yme gt_SEVERAL))) (Yax (y3 l 1 (Yau aNil (Yz ws))) nilE)) y4)) (appE 2 (y3 l 1 (Yau (Yg (b1 (getC 0) (Yd9 gt_ROWS)) aNil) rec))))
def Ydx(ws:List Str)(rec:List D->Int->Option (D × Int))(l:Addr):TmV Int:=(Ydl (sRet (cC (Yg (getC 2) aNil) tupC)))
def Yh5(ws:List Str)(rec:List D->Int->Option (D × Int))(l:Addr):TmV Int:=(seqW (forE (Yfr (Yax (Yfr (Yax (y3 l 1 (Yau aNil (Yz ws))) nilE) Yaf) nilE) Yb7) (gSet 3) (Yai ws rec l)) (Ydx ws rec l))
def Yh6(ws:List Str)(rec:List D->Int->Option (D × Int))(l:Addr):TmV Int:=(seqW (Ydl (sOwn 2 (dLst aNil))) (Yh5 ws rec l))
def Ya0(ws:List Str)(rec:List D->Int->Option (D × Int))(rx:List D->Int->Option Bool)(l:Addr):TrV Int:=(vIf (Yob (b1 (getC 0) (inG false y0))) (vApp 2 (Ygo (Yst (Ycp (b1 (getC 0) (Yme gt_SEVERAL))) (vAt l 1 (Yfa aNil (Yao ws)))) (Yax (Ycp (b1 (getC 0) (Yme gt_SEVERAL))) (Yax (y3 l 1 (Yau aNil (Yz ws))) nilE)) Yr)) (vApp 2 (vAt l 1 (Yfa (Yg (b1 (getC 0) (Yd9 gt_ROWS)) aNil) rx))))
def Yda(ws:List Str)(rec:List D->Int->Option (D × Int))(l:Addr):TmV Int:=(seqW (ifW (fun ρ _=>(andT (b1 (getC 0) (inG true y0)) (b1 (getC 0) (inG true Ycx))) ρ) (retE (Yfr (Yax (Ycp (getV 0)) (Yax (y3 l 1 (Yau aNil (Yz ws))) nilE)) y4)) nilW) (Yh6 ws rec l))
mutual
def Ye:Nat->List Str->List D->Int->Option (D × Int)
 | 0=>fun _ _ _=>none
 | k+1=>fun ws=>runV false 4 (Yda ws (Yk k ws))
def Yk:Nat->List Str->List D->Int->Option (D × Int)
 | 0=>fun _ _ _=>none
 | k+1=>fun ws=>runV false 2 (Yf2 ws (Ye k ws))
end
def Ya9:List Str->List D->Int->Option (D × Int):=Yk 6
theorem Ymr(bl:Bl K w mg){k j:Nat}(rc:OkV (rdH K) P w K mg base k 2 false "parts_read" ["forms","reader"] fun z=>Yk j z.ws)(hk:5<=k):OkV (rdH K) P w K mg base (k+1) 2 false "part_read" ["form","reader"] fun z=>Ye (j+1) z.ws:=by
 unfold Ye
 refine okfv (g:=fun z=>Yda z.ws (Yk j z.ws)) bl.f30 sc_part_read fun {z l} _ _ _ _ _ _ _ hr=>?_
 exact(Yad (Yff (Yeh (Yiw (Ydh bl.k_SEVERAL rfl (Yd 0)) (Ygf (Ydh bl.k_ROWS rfl (Yd 0))))) (Yaj (Yd7 (Yci (Ydw bl) hr rfl (Ys (Yal (Yp 0)) (Ys (Ybu 1 (Yag bl) hr) Ya6)) (wLc (wLc wL0))))) Yd6) (Yad (Ya7 (Ya5 2 sc_part_read.nd (Yan Yj))) (Yad (Ypm PassesOwn.never rfl rfl bl.Range (Yci (Yd2 bl) hr rfl (Ys (Yci (Ycd bl) hr rfl (Ys (Ybu 1 (Yag bl) hr) Ya6) (wLc wL0)) Ya6) (wLc wL0)) (Ycw 3 sc_part_read.nd) (Yaj (Yff (Ypo bl.k_SEVERAL rfl (Yd 0)) (Yaj (Yiy 2 (Yci (Ydw bl) hr rfl (Ys (Yal (Yhy bl.g_SEVERAL rfl (Yd 0))) (Ys (Ybu 1 (Yag bl) hr) Ya6)) (wLc (wLc wL0))))) (Yaj (Yiy 2 (Yd0 (z:=z) (g:=fun z=>Yk j z.ws) 1 rc hr rfl (Ydz bl.g_ROWS rfl (Yd 0)))))))) (Yaj (Ya7 (y8 (Yaw Yct Yo8 rfl bl.Tuple boot_tuple (Yx (Yd 2) y6))))))))
theorem Yld(bl:Bl K w mg){k j:Nat}(rc:OkV (rdH K) P w K mg base k 2 false "part_read" ["form","reader"] fun z=>Ye j z.ws)(hk:5<=k):OkV (rdH K) P w K mg base (k+1) 2 false "parts_read" ["forms","reader"] fun z=>Yk (j+1) z.ws:=by
 unfold Yk
 refine okfv (g:=fun z=>Yf2 z.ws (Ye j z.ws)) bl.f31 Yh4 fun {z l} _ _ _ _ _ _ _ hr=>?_
 exact(Yaj (Yd7 (Yq0 (Yuu cs_parts_read_0 rfl (Yut bl.kts (Yp 0)) (fun _ _ _ _ _=>(Ycw 0 cs_parts_read_0.nd)) (fun _ _ _ _ _=>(Yd0 (z:=z) (g:=fun z=>Ye j z.ws) 1 rc hr rfl (Yp 0))) (Yiv (i:=0) rfl)) rfl bl.Tuple)))
theorem Yh7(bl:Bl K w mg):∀j,(OkV (rdH K) P w K mg base (5+j) 2 false "part_read" ["form","reader"] fun z=>Ye j z.ws)/\(OkV (rdH K) P w K mg base (5+j) 2 false "parts_read" ["forms","reader"] fun z=>Yk j z.ws)
 | 0=>⟨okv0 bl.f30 (by unfold Ye;rfl),okv0 bl.f31 (by unfold Yk;rfl)⟩
 | j+1=>⟨Ymr bl (Yh7 bl j).2 (Nat.le_add_right _ _),Yld bl (Yh7 bl j).1 (Nat.le_add_right _ _)⟩
theorem Yh8(bl:Bl K w mg):OkV (rdH K) P w K mg base (5+6) 2 false "parts_read" ["forms","reader"] fun z=>Ya9 z.ws:=(Yh7 bl 6).2
def Ybq(ws:List Str)(rec:List D->Int->Option (D × Int))(rx:List D->Int->Option Bool)(l:Addr):TrV Int:=(vGo (vIf (Yob (andT (b1 (getC 0) (inG true y0)) (b1 (getC 0) (inG true Ycx)))) (Ygo (Yst (Ycp (getV 0)) (vAt l 1 (Yfa aNil (Yao ws)))) (Yax (Ycp (getV 0)) (Yax (y3 l 1 (Yau aNil (Yz ws))) nilE)) Yr) vNo) (ifW (fun ρ _=>(andT (b1 (getC 0) (inG true y0)) (b1 (getC 0) (inG true Ycx))) ρ) (retE (Yfr (Yax (Ycp (getV 0)) (Yax (y3 l 1 (Yau aNil (Yz ws))) nilE)) y4)) nilW) (vGo vNo (Ydl (sOwn 2 (dLst aNil))) (vFor (Ygo (vAt l 1 (Yfa aNil (Yao ws))) (Yax (Yfr (Yax (y3 l 1 (Yau aNil (Yz ws))) nilE) Yaf) nilE) Ycz) (Yfr (Yax (Yfr (Yax (y3 l 1 (Yau aNil (Yz ws))) nilE) Yaf) nilE) Yb7) (gSet 3) (Yai ws rec l) (Ya0 ws rec rx l))))
def Yc2(ws:List Str)(rec:List D->Int->Option (D × Int))(rx:List D->Int->Option Bool)(l:Addr):TrV Int:=(Yki (b1 (getV 0) (tabD ktab)) [none,some 1] (gSet 0) (Yah ws rec l) (Ya2 ws rec rx l))
mutual
def Yw:Nat->List Str->List D->Int->Option Bool
 | 0=>fun _ _ _=>none
 | k+1=>fun ws=>Yk7 false 4 (Ybq ws (Yk k ws) (Yu k ws))
def Yu:Nat->List Str->List D->Int->Option Bool
 | 0=>fun _ _ _=>none
 | k+1=>fun ws=>Yk7 false 2 (Yc2 ws (Ye k ws) (Yw k ws))
end
def Ycr:List Str->List D->Int->Option Bool:=Yu 6
theorem Yle(bl:Bl K w mg){k j:Nat}(rc:OkV (rdH K) P w K mg base k 2 false "parts_read" ["forms","reader"] fun z=>Yk j z.ws)(rcx:OkVX (rdH K) P w K mg base k 2 false "parts_read" ["forms","reader"] (fun z=>Yu j z.ws) "NoPaper")(hk:5<=k):OkVX (rdH K) P w K mg base (k+1) 2 false "part_read" ["form","reader"] (fun z=>Yw (j+1) z.ws) "NoPaper":=by
 unfold Yw
 refine y5q (r:=fun z=>Ybq z.ws (Yk j z.ws) (Yu j z.ws)) bl.f30 sc_part_read fun {z l} _ _ _ _ _ _ _ hr=>?_
 exact(Yoc (Yff (Yeh (Yiw (Ydh bl.k_SEVERAL rfl (Yd 0)) (Ygf (Ydh bl.k_ROWS rfl (Yd 0))))) (Yaj (Yd7 (Yci (Ydw bl) hr rfl (Ys (Yal (Yp 0)) (Ys (Ybu 1 (Yag bl) hr) Ya6)) (wLc (wLc wL0))))) Yd6) (Yod (Ymq (Yeh (Yiw (Ydh bl.k_SEVERAL rfl (Yd 0)) (Ygf (Ydh bl.k_ROWS rfl (Yd 0)))))) (Yf0 (Yvc (Ymp Yi0 (Ygr bl) hr rfl (Ys (Yal (Yp 0)) (Ys (Ybu 1 (Yag bl) hr) Ya6)) (Yrh (Yal (Yp 0)) (Yfb (Yjq 1 Yi0 (Ycl bl) hr))) (wLc (wLc wL0))))) Yri) (Yoc (Ya7 (Ya5 2 sc_part_read.nd (Yan Yj))) y5n (Yps (y2o PassesOwn.leaving rfl rfl bl.Range (Yci (Yd2 bl) hr rfl (Ys (Yci (Ycd bl) hr rfl (Ys (Ybu 1 (Yag bl) hr) Ya6) (wLc wL0)) Ya6) (wLc wL0)) (Ymp Yi0 (Yea bl) hr rfl (Ys (Yci (Ycd bl) hr rfl (Ys (Ybu 1 (Yag bl) hr) Ya6) (wLc wL0)) Ya6) (Yfb (Yy0 (Ycd bl) hr rfl (Yfb (Yjq 1 Yi0 (Ycl bl) hr)))) (wLc wL0)) (Ycw 3 sc_part_read.nd) (Yaj (Yff (Ypo bl.k_SEVERAL rfl (Yd 0)) (Yaj (Yiy 2 (Yci (Ydw bl) hr rfl (Ys (Yal (Yhy bl.g_SEVERAL rfl (Yd 0))) (Ys (Ybu 1 (Yag bl) hr) Ya6)) (wLc (wLc wL0))))) (Yaj (Yiy 2 (Yd0 (z:=z) (g:=fun z=>Yk j z.ws) 1 rc hr rfl (Ydz bl.g_ROWS rfl (Yd 0))))))) (Yf0 (Yod (Ymq (Ypo bl.k_SEVERAL rfl (Yd 0))) (Yf0 (Yvg 2 (Ymp Yi0 (Ygr bl) hr rfl (Ys (Yal (Yhy bl.g_SEVERAL rfl (Yd 0))) (Ys (Ybu 1 (Yag bl) hr) Ya6)) (Yrh (Yal (Yhy bl.g_SEVERAL rfl (Yd 0))) (Yfb (Yjq 1 Yi0 (Ycl bl) hr))) (wLc (wLc wL0))))) (Yf0 (Yvg 2 (Yi1 (z:=z) (g:=fun z=>Yu j z.ws) 1 Yi0 rcx hr rfl (Ydz bl.g_ROWS rfl (Yd 0)))))))))))
theorem Ykn(bl:Bl K w mg){k j:Nat}(rc:OkV (rdH K) P w K mg base k 2 false "part_read" ["form","reader"] fun z=>Ye j z.ws)(rcx:OkVX (rdH K) P w K mg base k 2 false "part_read" ["form","reader"] (fun z=>Yw j z.ws) "NoPaper")(hk:5<=k):OkVX (rdH K) P w K mg base (k+1) 2 false "parts_read" ["forms","reader"] (fun z=>Yu (j+1) z.ws) "NoPaper":=by
 unfold Yu
 refine y5q (r:=fun z=>Yc2 z.ws (Ye j z.ws) (Yw j z.ws)) bl.f31 Yh4 fun {z l} _ _ _ _ _ _ _ hr=>?_
 exact(Yf0 (Yvc (y5o Yct (Yfb (Yy1 (fun _ _ _ _ h=>Ysr h) cs_parts_read_0 rfl (Yut bl.kts (Yp 0)) (fun _ _ _ _ _=>(Ycw 0 cs_parts_read_0.nd)) (fun _ _ _ _ _ _=>(Yd0 (z:=z) (g:=fun z=>Ye j z.ws) 1 rc hr rfl (Yp 0))) (fun _ _ _ _ _ _=>(Yi1 (z:=z) (g:=fun z=>Yw j z.ws) 1 y7o rcx hr rfl (Yp 0))) (Yiv (i:=0) rfl))) rfl bl.Tuple boot_tuple)))
theorem Yko(bl:Bl K w mg):∀j,(OkVX (rdH K) P w K mg base (5+j) 2 false "part_read" ["form","reader"] (fun z=>Yw j z.ws) "NoPaper")/\(OkVX (rdH K) P w K mg base (5+j) 2 false "parts_read" ["forms","reader"] (fun z=>Yu j z.ws) "NoPaper")
 | 0=>⟨y5r bl.f30 (by unfold Yw;rfl),y5r bl.f31 (by unfold Yu;rfl)⟩
 | j+1=>⟨Yle bl (Yh7 bl j).2 (Yko bl j).2 (Nat.le_add_right _ _),Ykn bl (Yh7 bl j).1 (Yko bl j).1 (Nat.le_add_right _ _)⟩
theorem Ylf(bl:Bl K w mg):OkVX (rdH K) P w K mg base (5+6) 2 false "parts_read" ["forms","reader"] (fun z=>Ycr z.ws) "NoPaper":=(Yko bl 6).2
theorem Yjl:FnScope ["self","text"] ["self","text"] (defScope (inClass (top 26) 0)):=fns
def Yat:Ro->Option D:=(b1 (getV 1) (Yq2 (Str.ofString " ")))
theorem Yfi(bl:Bl K w mg):OkRd P w K mg base 1 ["self","text"] Yat:=by
 refine okir bl.r_init bl.cR Yjl bl.n_words.cf bl.n_place.cf fun hr=>?_
 exact(Ydg (Yzo (pv 0) (zuE (Yuq (Yp 1))) rfl) (Yl3 (Yzo (pv 0) Yqh rfl)))
theorem sc_paper_read:FnScope ["text","reader","word","parts"] ["text"] (defScope (top 32)):=fns
def Ygs(ws:List Str)(l:Addr):TmV Int:=(Ydl (sRet (b2 (dTup (Yg (getV 2) aNil)) (getC 3) Yt4)))
def Ygt(ws:List Str)(l:Addr):TmV Int:=(seqW (ifE (notE (blE (y3 l 1 (Yau aNil (Yae ws))))) (Ydl nS) nilW) (Ygs ws l))
def Ygu(ws:List Str)(l:Addr):TmV Int:=(seqW (setE 3 (y3 l 1 (Yau (Yg (b1 (getC 2) (Yd9 gt_PAPERS)) aNil) (Ya9 ws)))) (Ygt ws l))
def Ygv(ws:List Str)(l:Addr):TmV Int:=(seqW (Ydl (sIf (b1 (getC 2) (inG true Ybc)) nS sNil)) (Ygu ws l))
def Ydi(ws:List Str)(l:Addr):TmV Int:=(seqW (setE 2 (y3 l 1 (Yau aNil (Yz ws)))) (Ygv ws l))
def Yce(ws:List Str)(l:Addr):TrV Int:=(vGo (vAt l 1 (Yfa aNil (Yao ws))) (setE 2 (y3 l 1 (Yau aNil (Yz ws)))) (vGo (vIf (Yob (b1 (getC 2) (inG true Ybc))) vYes vNo) (Ydl (sIf (b1 (getC 2) (inG true Ybc)) nS sNil)) (vGo (vAt l 1 (Yfa (Yg (b1 (getC 2) (Yd9 gt_PAPERS)) aNil) (Ycr ws))) (setE 3 (y3 l 1 (Yau (Yg (b1 (getC 2) (Yd9 gt_PAPERS)) aNil) (Ya9 ws)))) (vIf (notE (blE (y3 l 1 (Yau aNil (Yae ws))))) vYes vNo))))
def Yf3:Ro->Option Out:=(Yyl 1 Yat (getV 0) Ydi)
def Yel:List D->Option D:=runB 1 4 Yf3
theorem Yms(bl:Bl K w mg):Okf P w K mg base 12 1 "paper_read" ["text"] Yel:=by
 refine okfn bl.f32 sc_paper_read fun hr=>?_
 exact(Ysn 1 (Yfi bl) (fun _ _ h _=>h) hr rfl (Yp 0) sc_paper_read.nd (fun z l=>(Yad (Yd8 2 sc_paper_read.nd (Ybu 1 (Yag bl) hr)) (Yad (Ya7 (Ybo (Ydh bl.k_PAPERS rfl (Yd 2)) (Yy Yfy) Ya1)) (Yad (Yd8 3 sc_paper_read.nd (Yd0 (z:=z) (g:=fun z=>Ya9 z.ws) 1 (Yh8 bl) hr rfl (Ydz bl.g_PAPERS rfl (Yd 2)))) (Yad (Yup (Yuo (Ymk (Ybu 1 (Ybx bl) hr))) (Yaj (Ya7 Yfy)) Yd6) (Yaj (Ya7 (y8 (Yxx (Yb (Ykd (Yc (Yp 2) Yj))) (Yd 3)))))))))))
def Ymt:Ro->Option Bool:=(Yvi 1 Yat (getV 0) Yce)
def y2:List D->Option Bool:=runX 1 4 Ymt
theorem Ygw(bl:Bl K w mg):Okx P w K mg base 12 1 "paper_read" ["text"] y2 "NoPaper":=by
 refine okfx bl.f32 sc_paper_read fun hr=>?_
 exact(Yvj 1 (Yfi bl) (fun _ _ h _=>h) hr rfl (Yp 0) sc_paper_read.nd (fun z l=>(Yoc (Yd8 2 sc_paper_read.nd (Ybu 1 (Yag bl) hr)) (Yvd 2 sc_paper_read.nd (Yjq 1 Yi0 (Ycl bl) hr)) (Yoc (Ya7 (Ybo (Ydh bl.k_PAPERS rfl (Yd 2)) (Yy Yfy) Ya1)) (Yod (Ymq (Ydh bl.k_PAPERS rfl (Yd 2))) (Yf0 (Ykh bl.x_NoPaper_NoPaper)) Yri) (Yoc (Yd8 3 sc_paper_read.nd (Yd0 (z:=z) (g:=fun z=>Ya9 z.ws) 1 (Yh8 bl) hr rfl (Ydz bl.g_PAPERS rfl (Yd 2)))) (Yvd 3 sc_paper_read.nd (Yi1 (z:=z) (g:=fun z=>Ycr z.ws) 1 Yi0 (Ylf bl) hr rfl (Ydz bl.g_PAPERS rfl (Yd 2)))) (Yps (Yod (Yuo (Ymk (Ybu 1 (Ybx bl) hr))) (Yf0 (Ykh bl.x_NoPaper_NoPaper)) Yri)))))))
theorem Ypt:FnScope ["script","k"] ["script","k"] (defScope (top 34)):=fns
def Yi2:Ro->Option Out:=(sSeq (sIf (b2 (getC 1) (cC (Yg (getC 0) aNil) lenC) ltI) (sRet (b2 (getC 0) (getC 1) ixD)) sNil) (sRet (kD (.int 0))))
def Ydb:List D->Option D:=runB 2 2 Yi2
theorem Yhd(bl:Bl K w mg):Okf P w K mg base 1 2 "_law_cell" ["script","k"] Ydb:=by
 refine okfn bl.f34 Ypt fun hr=>?_
 exact(Yo (Ybo (Yzy (Yd 1) (Yb (Ybz Yb5 Yg5 rfl bl.Len PySem.boot_len (Yx (Yd 0) y6)))) (Yy (y8 (y9 (Yd 0) (Yd 1)))) Ya1) (Yy (y8 Yh)))
theorem Yoh:FnScope ["cell","by"] ["cell","by"] (defScope (top 35)):=fns
def Ykp:Ro->Option Out:=(sRet (b2 (b2 (b2 (getC 0) (kD (.int 2305843009213693951)) modI) (getC 1) mulI) (kD (.int 2305843009213693951)) modI))
def Ydc:List D->Option D:=runB 2 2 Ykp
theorem Yjf(bl:Bl K w mg):Okf P w K mg base 1 2 "_law_mixed" ["cell","by"] Ydc:=by
 refine okfn bl.f35 Yoh fun hr=>?_
 exact(Yy (y8 (Yav (Yb (Yfw (Yb (Yav (Yd 0) (Yb Yh))) (Yd 1))) (Yb Yh))))
theorem Ypu:FnScope ["tape"] ["tape"] (defScope (top 36)):=fns
def Yoi(l:Addr):TmM:=(Ydl (sRet (kD (.int 0))))
def Yi3(l:Addr):TmM:=(seqW (ifW (Yyc l 0 (b2 (cC (Yg (getC 0) aNil) lenC) (kD (.int 0)) gtI)) (retE (Yfr (Yax (popE l 0) (Yax (Ycp (kD (.int 2049848353892358983))) nilE)) Ydc)) nilW) (Yoi l))
def Yb1:List D->List Int->Option (D × List Int):=runT 1 Yi3
theorem Yeb(bl:Bl K w mg):OkT P w K mg base 2 1 "_law_next" ["tape"] Yb1:=by
 refine okft bl.f36 Ypu fun hr=>?_
 exact(Yad (y2d 0 (Yt6 (Yb (Ybz Yb5 Yg5 rfl bl.Len PySem.boot_len (Yx (Yd 0) y6))) (Yb Yh)) (Yaj (Yd7 (Yci (Yjf bl) hr rfl (Ys (y2e 0) (Ys (Yal Yh) Ya6)) (wLc (wLc wL0))))) Yd6) (Yaj (Ya7 (y8 Yh))))
theorem sc_law_many:FnScope ["tape","most","left"] ["tape","most"] (defScope (top 37)):=fns
def Yjg(l:Addr):TmM:=(Ydl (sRet (b2 (getC 2) (kD (.int 6)) modI)))
def Yjh(l:Addr):TmM:=(seqW (Ydl (sIf (b2 (b2 (b2 (getC 2) (kD (.int 6)) divI) (kD (.int 8)) modI) (kD (.int 1)) (eqM false)) (sRet (b2 (kD (.int 60)) (b2 (b2 (getC 2) (kD (.int 48)) divI) (b2 (getC 1) (kD (.int 59)) subI) modI) addI)) sNil)) (Yjg l))
def Ylz(l:Addr):TmM:=(seqW (setE 2 (y3 l 0 (Yau aNil Yb1))) (Yjh l))
def Ye3:List D->List Int->Option (D × List Int):=runT 3 Ylz
theorem Yhe(bl:Bl K w mg):OkT P w K mg base 3 2 "_law_many" ["tape","most"] Ye3:=by
 refine okft bl.f37 sc_law_many fun hr=>?_
 exact(Yad (Yd8 2 sc_law_many.nd (Yar 0 (Yeb bl) hr rfl Yj aL0)) (Yad (Ya7 (Ybo (Yay hr.units (Yb (Yav (Yb (Ych (Yd 2) (Yb Yh))) (Yb Yh))) (Yb Yh)) (Yy (y8 (Ymg (Yb Yh) (Yb (Yav (Yb (Ych (Yd 2) (Yb Yh))) (Yb (Yt5 (Yd 1) (Yb Yh)))))))) Ya1)) (Yaj (Ya7 (y8 (Yav (Yd 2) (Yb Yh)))))))
theorem sc_law_any_road:FnScope ["tape","road","k","left"] ["tape"] (defScope (top 38)):=fns
def Ydd(l:Addr):TmM:=(seqW (setE 3 (binE (y3 l 0 (Yau aNil Yb1)) (Ycp (b2 (b2 (kD (.int 7919)) (getC 2) mulI) (getC 2) mulI)) addI)) (Ydl (sMut 1 (dTup (Yg (b2 (getC 3) (kD (.int 60)) modI) (Yg (mB (b2 (b2 (b2 (getC 3) (kD (.int 60)) divI) (kD (.int 2)) modI) (kD (.int 1)) (eqM false))) aNil))) appD)))
def Yfj(l:Addr):TmM:=(Ydl (sRet (cC (Yg (getC 1) aNil) tupC)))
def Yfk(l:Addr):TmM:=(seqW (forE (y3 l 0 (Yau (Yg (kD (.int 200)) aNil) Ye3)) (gSet 2) (Ydd l)) (Yfj l))
def Ygx(l:Addr):TmM:=(seqW (Ydl (sOwn 1 (dLst aNil))) (Yfk l))
def Ybj:List D->List Int->Option (D × List Int):=runT 4 Ygx
theorem Yec(bl:Bl K w mg):OkT P w K mg base 4 1 "_law_any_road" ["tape"] Ybj:=by
 refine okft bl.f38 sc_law_any_road fun hr=>?_
 exact(Yad (Ya7 (Ya5 1 sc_law_any_road.nd (Yan Yj))) (Yad (Ypm PassesOwn.never rfl rfl bl.Range (Yar 0 (Yhe bl) hr rfl (Yc Yh Yj) aL1) (Ycw 2 sc_law_any_road.nd) (Yad (Yd8 3 sc_law_any_road.nd (Ypl (Yar 0 (Yeb bl) hr rfl Yj aL0) (Yal (Yfw (Yb (Yfw (Yb Yh) (Yd 2))) (Yd 2))))) (Yaj (Ya7 (Ye2 1 (Ykd (Yc (Yav (Yd 3) (Yb Yh)) (Yc (Ynw hr.units (Yb (Yav (Yb (Ych (Yd 3) (Yb Yh))) (Yb Yh))) (Yb Yh)) Yj)))))))) (Yaj (Ya7 (y8 (Yaw Yct Yo8 rfl bl.Tuple boot_tuple (Yx (Yd 1) y6)))))))
theorem Yh9:FnScope ["tape","most"] ["tape","most"] (defScope (top 39)):=fns
theorem cs_law_any_numbers_0:CompSc ["tape","most"] (defScope (top 39)) ["k","tape","most"] [none,some 0,some 1] (fsc [(".0",.local),("k",.local),("_law_next",.globalImplicit),("most",.free),("tape",.free)]):=Yfv (by decide +kernel)
def Ydt(l:Addr):Te:=(binE (binE (y3 l 1 (Yau aNil Yb1)) (Ycp (b2 (b2 (kD (.int 7919)) (getC 0) mulI) (getC 0) mulI)) addI) (Ycp (getV 2)) modI)
def Ye4(l:Addr):TmM:=(retE (tupE (Yn3 (y3 l 0 (Yau (Yg (kD (.int 200)) aNil) Ye3)) [none,some 0,some 1] (gSet 0) (Ydt l))))
def Yaq:List D->List Int->Option (D × List Int):=runT 2 Ye4
theorem Ya4(bl:Bl K w mg):OkT P w K mg base 4 2 "_law_any_numbers" ["tape","most"] Yaq:=by
 refine okft bl.f39 Yh9 fun hr=>?_
 exact(Yaj (Yd7 (Yq0 (Yx9 cs_law_any_numbers_0 rfl rfl bl.Range (Yar 0 (Yhe bl) hr rfl (Yc Yh Yj) aL1) (fun _ _ _ _ _=>(Ycw 0 cs_law_any_numbers_0.nd)) (fun _ _ _ _ _=>(y2b (Ypl (Yar 1 (Yeb bl) hr rfl Yj aL0) (Yal (Yfw (Yb (Yfw (Yb Yh) (Yd 0))) (Yd 0)))) (Yal (Yp 2)))) (Yiv (i:=0) rfl)) rfl bl.Tuple)))
theorem sc_law_any_rows:FnScope ["tape","word","rows","k","left"] ["tape","word"] (defScope (top 40)):=fns
def Yba(l:Addr):TmM:=(seqW (setE 4 (binE (y3 l 0 (Yau aNil Yb1)) (Ycp (b2 (b2 (kD (.int 7919)) (getC 3) mulI) (getC 3) mulI)) addI)) (ifW (fun ρ _=>(b2 (getC 1) (kD (.str "plan")) (eqM false)) ρ) (Ydl (sMut 2 (dTup (Yg (b2 (getC 4) (kD (.int 60)) modI) (Yg (b2 (lF (dLst (Yg (kD .non) (Yg (b2 (b2 (getC 4) (kD (.int 60)) divI) (kD (.int 60)) modI) aNil)))) (b2 (b2 (getC 4) (kD (.int 3600)) divI) (kD (.int 2)) modI) ixD) (Yg (mB (b2 (b2 (b2 (getC 4) (kD (.int 7200)) divI) (kD (.int 2)) modI) (kD (.int 1)) (eqM false))) aNil)))) appD)) (ifW (fun ρ _=>(b2 (getC 1) (kD (.str "sums")) (eqM false)) ρ) (appE 2 (tupE (Yax (Ycp (b2 (getC 4) (kD (.int 60)) modI)) (Yax (y3 l 0 (Yau (Yg (kD (.int 60)) aNil) Yaq)) (Yax (Ycp (mB (b2 (b2 (b2 (getC 4) (kD (.int 7200)) divI) (kD (.int 2)) modI) (kD (.int 1)) (eqM false)))) nilE))))) (appE 2 (tupE (Yax (Ycp (b2 (getC 4) (kD (.int 60)) modI)) (Yax (y3 l 0 (Yau (Yg (kD (.int 60)) aNil) Yaq)) nilE)))))))
def Yfl(l:Addr):TmM:=(Ydl (sRet (cC (Yg (getC 2) aNil) tupC)))
def Yfm(l:Addr):TmM:=(seqW (forE (y3 l 0 (Yau (Yg (kD (.int 66)) aNil) Ye3)) (gSet 3) (Yba l)) (Yfl l))
def Ygy(l:Addr):TmM:=(seqW (Ydl (sOwn 2 (dLst aNil))) (Yfm l))
def Ycj:List D->List Int->Option (D × List Int):=runT 5 Ygy
theorem Yf4(bl:Bl K w mg):OkT P w K mg base 5 2 "_law_any_rows" ["tape","word"] Ycj:=by
 refine okft bl.f40 sc_law_any_rows fun hr=>?_
 exact(Yad (Ya7 (Ya5 2 sc_law_any_rows.nd (Yan Yj))) (Yad (Ypm PassesOwn.never rfl rfl bl.Range (Yar 0 (Yhe bl) hr rfl (Yc Yh Yj) aL1) (Ycw 3 sc_law_any_rows.nd) (Yad (Yd8 4 sc_law_any_rows.nd (Ypl (Yar 0 (Yeb bl) hr rfl Yj aL0) (Yal (Yfw (Yb (Yfw (Yb Yh) (Yd 3))) (Yd 3))))) (Yaj (Yff (Yay hr.units (Yd 1) (Yb Yi)) (Yaj (Ya7 (Ye2 2 (Ykd (Yc (Yav (Yd 4) (Yb Yh)) (Yc (y9 (Yb (Yaz (Yan (Yc Yc8 (Yc (Yav (Yb (Ych (Yd 4) (Yb Yh))) (Yb Yh)) Yj))))) (Yb (Yav (Yb (Ych (Yd 4) (Yb Yh))) (Yb Yh)))) (Yc (Ynw hr.units (Yb (Yav (Yb (Ych (Yd 4) (Yb Yh))) (Yb Yh))) (Yb Yh)) Yj))))))) (Yaj (Yff (Yay hr.units (Yd 1) (Yb Yi)) (Yaj (Yiy 2 (Yfz (Ys (Yal (Yav (Yd 4) (Yb Yh))) (Ys (Yar 0 (Ya4 bl) hr rfl (Yc Yh Yj) aL1) (Ys (Yal (Ynw hr.units (Yb (Yav (Yb (Ych (Yd 4) (Yb Yh))) (Yb Yh))) (Yb Yh))) Ya6)))))) (Yaj (Yiy 2 (Yfz (Ys (Yal (Yav (Yd 4) (Yb Yh))) (Ys (Yar 0 (Ya4 bl) hr rfl (Yc Yh Yj) aL1) Ya6))))))))))) (Yaj (Ya7 (y8 (Yaw Yct Yo8 rfl bl.Tuple boot_tuple (Yx (Yd 2) y6)))))))
theorem sc_law_any:FnScope ["tape","left","word","road","places","numbers"] ["tape"] (defScope (top 41)):=fns
def Ykq(l:Addr):TmM:=(Ydl (sRet (dTup (Yg (getV 2) aNil))))
def Yhf(l:Addr):TmM:=(seqW (ifW (fun ρ _=>(b2 (getC 2) (kD (.str "rows")) (eqM false)) ρ) (seqW (setE 5 (y3 l 0 (Yau (Yg (kD (.int 60)) aNil) Yaq))) (retE (tupE (Yax (Ycp (getV 2)) (Yax (Ycp (getV 5)) (Yax (y3 l 0 (Yau (Yg (getV 2) aNil) Ycj)) nilE)))))) nilW) (Ykq l))
def Yfc(l:Addr):TmM:=(seqW (ifW (fun ρ _=>(orT (b2 (getC 2) (kD (.str "plan")) (eqM false)) (b2 (getC 2) (kD (.str "sums")) (eqM false))) ρ) (retE (tupE (Yax (Ycp (getV 2)) (Yax (y3 l 0 (Yau (Yg (getV 2) aNil) Ycj)) nilE)))) nilW) (Yhf l))
def Yhg(l:Addr):TmM:=(seqW (ifW (fun ρ _=>(b2 (getC 2) (kD (.str "lone")) (eqM false)) ρ) (seqW (setE 4 (y3 l 0 (Yau (Yg (kD (.int 201)) aNil) Yaq))) (retE (tupE (Yax (Ycp (getV 2)) (Yax (Ycp (b2 (lF (dLst (Yg (kD .non) (Yg (b2 (b2 (getC 1) (kD (.int 9)) divI) (kD (.int 60)) modI) aNil)))) (b2 (b2 (getC 1) (kD (.int 540)) divI) (kD (.int 2)) modI) ixD)) (Yax (Ycp (getV 4)) (Yax (y3 l 0 (Yau (Yg (kD (.int 201)) aNil) Yaq)) nilE))))))) nilW) (Yfc l))
def Yhh(l:Addr):TmM:=(seqW (ifW (fun ρ _=>(b2 (getC 2) (kD (.str "odd")) (eqM false)) ρ) (retE (tupE (Yax (Ycp (getV 2)) (Yax (y3 l 0 (Yau (Yg (kD (.int 201)) aNil) Yaq)) nilE)))) nilW) (Yhg l))
def Yhi(l:Addr):TmM:=(seqW (ifW (fun ρ _=>(b2 (getC 2) (kD (.str "cross")) (eqM false)) ρ) (retE (tupE (Yax (Ycp (getV 2)) (Yax (y3 l 0 (Yau aNil Ybj)) nilE)))) nilW) (Yhh l))
def Yed(l:Addr):TmM:=(seqW (ifW (fun ρ _=>(orT (b2 (getC 2) (kD (.str "clash")) (eqM false)) (b2 (getC 2) (kD (.str "late")) (eqM false))) ρ) (seqW (setE 3 (y3 l 0 (Yau aNil Ybj))) (retE (tupE (Yax (Ycp (getV 2)) (Yax (Ycp (getV 3)) (Yax (y3 l 0 (Yau aNil Ybj)) nilE)))))) nilW) (Yhi l))
def Ykr(l:Addr):TmM:=(seqW (Ydl (sSet 2 (b2 (lF (dLst (Yg (kD (.str "broken")) (Yg (kD (.str "clash")) (Yg (kD (.str "cross")) (Yg (kD (.str "late")) (Yg (kD (.str "odd")) (Yg (kD (.str "lone")) (Yg (kD (.str "plan")) (Yg (kD (.str "sums")) (Yg (kD (.str "rows")) aNil))))))))))) (b2 (getC 1) (kD (.int 9)) modI) ixD))) (Yed l))
def Yks(l:Addr):TmM:=(seqW (setE 1 (y3 l 0 (Yau aNil Yb1))) (Ykr l))
def Yf5:List D->List Int->Option (D × List Int):=runT 6 Yks
theorem Ysv(bl:Bl K w mg):OkT P w K mg base 6 1 "_law_any" ["tape"] Yf5:=by
 refine okft bl.f41 sc_law_any fun hr=>?_
 exact(Yad (Yd8 1 sc_law_any.nd (Yar 0 (Yeb bl) hr rfl Yj aL0)) (Yad (Ya7 (Yco 2 sc_law_any.nd (y9 (Yb (Yaz (Yan (Yc Yi (Yc Yi (Yc Yi (Yc Yi (Yc Yi (Yc Yi (Yc Yi (Yc Yi (Yc Yi Yj)))))))))))) (Yb (Yav (Yd 1) (Yb Yh)))))) (Yad (Yff (Yeh (Yjd (Yay hr.units (Yd 2) (Yb Yi)) (Yfx (Yay hr.units (Yd 2) (Yb Yi))))) (Yad (Yd8 3 sc_law_any.nd (Yar 0 (Yec bl) hr rfl Yj aL0)) (Yaj (Yd7 (Yfz (Ys (Yal (Yp 2)) (Ys (Yal (Yp 3)) (Ys (Yar 0 (Yec bl) hr rfl Yj aL0) Ya6))))))) Yd6) (Yad (Yff (Yay hr.units (Yd 2) (Yb Yi)) (Yaj (Yd7 (Yfz (Ys (Yal (Yp 2)) (Ys (Yar 0 (Yec bl) hr rfl Yj aL0) Ya6))))) Yd6) (Yad (Yff (Yay hr.units (Yd 2) (Yb Yi)) (Yaj (Yd7 (Yfz (Ys (Yal (Yp 2)) (Ys (Yar 0 (Ya4 bl) hr rfl (Yc Yh Yj) aL1) Ya6))))) Yd6) (Yad (Yff (Yay hr.units (Yd 2) (Yb Yi)) (Yad (Yd8 4 sc_law_any.nd (Yar 0 (Ya4 bl) hr rfl (Yc Yh Yj) aL1)) (Yaj (Yd7 (Yfz (Ys (Yal (Yp 2)) (Ys (Yal (y9 (Yb (Yaz (Yan (Yc Yc8 (Yc (Yav (Yb (Ych (Yd 1) (Yb Yh))) (Yb Yh)) Yj))))) (Yb (Yav (Yb (Ych (Yd 1) (Yb Yh))) (Yb Yh))))) (Ys (Yal (Yp 4)) (Ys (Yar 0 (Ya4 bl) hr rfl (Yc Yh Yj) aL1) Ya6)))))))) Yd6) (Yad (Yff (Yeh (Yjd (Yay hr.units (Yd 2) (Yb Yi)) (Yfx (Yay hr.units (Yd 2) (Yb Yi))))) (Yaj (Yd7 (Yfz (Ys (Yal (Yp 2)) (Ys (Yar 0 (Yf4 bl) hr rfl (Yc (Yp 2) Yj) aL1) Ya6))))) Yd6) (Yad (Yff (Yay hr.units (Yd 2) (Yb Yi)) (Yad (Yd8 5 sc_law_any.nd (Yar 0 (Ya4 bl) hr rfl (Yc Yh Yj) aL1)) (Yaj (Yd7 (Yfz (Ys (Yal (Yp 2)) (Ys (Yal (Yp 5)) (Ys (Yar 0 (Yf4 bl) hr rfl (Yc (Yp 2) Yj) aL1) Ya6))))))) Yd6) (Yaj (Ya7 (y8 (Ykd (Yc (Yp 2) Yj)))))))))))))
theorem Yhj:FnScope ["numbers"] ["numbers"] (defScope (top 42)):=fns
theorem cs_law_number_words_0:CompSc ["numbers"] (defScope (top 42)) ["number"] [none] (fsc [(".0",.local),("number",.local),("str",.globalImplicit)]):=Yfv (by decide +kernel)
def Yb9:Ro->Option D:=(cC (Yg (getC 0) aNil) strC)
def Yem:Ro->Option Out:=(sRet (lF (b2 (lF (dLst (Yg (cC (Yg (cC (Yg (getC 0) aNil) lenC) aNil) strC) aNil))) (lF (Yns (b1 (getV 0) Ycg) [none] (gSet 0) tY (Yb9))) catD)))
def Yam:List D->Option D:=runB 1 1 Yem
theorem Ybd(bl:Bl K w mg):Okf P w K mg base 1 1 "_law_number_words" ["numbers"] Yam:=by
 refine okfn bl.f42 Yhj fun hr=>?_
 exact(Yy (y8 (Yaz (Ybi (Yb (Yaz (Yan (Yc (Yaw Ybp Yei rfl bl.Str boot_str (Yx (Yb (Ybz Yb5 Yg5 rfl bl.Len PySem.boot_len (Yx (Yd 0) y6))) y6)) Yj)))) (Yb (Yaz (Ymf cs_law_number_words_0 rfl (Ypd (Yp 0)) (fun _ _ _ _ _=>(Ycw 0 cs_law_number_words_0.nd)) (fun _ _ _ _ _=>Ype) (fun _ _ _ _ _=>(Yaw Ybp Yei rfl bl.Str boot_str (Yx (Yd 0) y6))) (Yiv (i:=0) rfl))))))))
theorem Yi4:FnScope ["road"] ["road"] (defScope (top 43)):=fns
theorem cs_law_road_words_0:CompSc ["road"] (defScope (top 43)) ["saying"] [none] (fsc [(".0",.local),("saying",.local),("int",.globalImplicit),("str",.globalImplicit)]):=Yfv (by decide +kernel)
def Ycq:Ro->Option D:=(b2 (b2 (lF (dLst (Yg (kD (.str "-")) (Yg (kD (.str "+")) aNil)))) (cC (Yg (b2 (getC 0) (kD (.int 1)) ixD) aNil) intC) ixD) (cC (Yg (b2 (getC 0) (kD (.int 0)) ixD) aNil) strC) addS)
def Yfn:Ro->Option Out:=(sRet (lF (b2 (lF (dLst (Yg (cC (Yg (cC (Yg (getC 0) aNil) lenC) aNil) strC) aNil))) (lF (Yns (b1 (getV 0) Ycg) [none] (gSet 0) tY (Ycq))) catD)))
def Ybf:List D->Option D:=runB 1 1 Yfn
theorem Yde(bl:Bl K w mg):Okf P w K mg base 1 1 "_law_road_words" ["road"] Ybf:=by
 refine okfn bl.f43 Yi4 fun hr=>?_
 exact(Yy (y8 (Yaz (Ybi (Yb (Yaz (Yan (Yc (Yaw Ybp Yei rfl bl.Str boot_str (Yx (Yb (Ybz Yb5 Yg5 rfl bl.Len PySem.boot_len (Yx (Yd 0) y6))) y6)) Yj)))) (Yb (Yaz (Ymf cs_law_road_words_0 rfl (Ypd (Yp 0)) (fun _ _ _ _ _=>(Ycw 0 cs_law_road_words_0.nd)) (fun _ _ _ _ _=>Ype) (fun _ _ _ _ _=>(Yaa (Yb (y9 (Yb (Yaz (Yan (Yc Yi (Yc Yi Yj))))) (Yb (Yaw Yjw Yo9 rfl bl.Int boot_int (Yx (Yb (y9 (Yd 0) (Yb Yh))) y6))))) (Yb (Yaw Ybp Yei rfl bl.Str boot_str (Yx (Yb (y9 (Yd 0) (Yb Yh))) y6))))) (Yiv (i:=0) rfl))))))))
theorem Yjm:FnScope ["beacon"] ["beacon"] (defScope (top 44)):=fns
def Yee:Ro->Option Out:=(sSeq (sIf (b2 (getC 0) (kD .non) (isN false)) (sRet (kD (.str "none"))) sNil) (sRet (cC (Yg (getC 0) aNil) strC)))
def Yca:List D->Option D:=runB 1 1 Yee
theorem Yfo(bl:Bl K w mg):Okf P w K mg base 1 1 "_law_free_word" ["beacon"] Yca:=by
 refine okfn bl.f44 Yjm fun hr=>?_
 exact(Yo (Ybo (Ykc (Yd 0) (Yb Yc8)) (Yy (y8 Yi)) Ya1) (Yy (y8 (Yaw Ybp Yei rfl bl.Str boot_str (Yx (Yd 0) y6)))))
theorem sc_law_rows_words:FnScope ["word","rows","words","row"] ["word","rows"] (defScope (top 45)):=fns
def Ybe:Ro->Option Out:=(sSeq (sMut 2 (cC (Yg (b2 (getC 3) (kD (.int 0)) ixD) aNil) strC) appD) (sSeq (sIf (b2 (getC 0) (kD (.str "plan")) (eqM false)) (sOwn 2 (b2 (getC 2) (lF (dLst (Yg (cC (Yg (b2 (getC 3) (kD (.int 1)) ixD) aNil) Yca) (Yg (b2 (lF (dLst (Yg (kD (.str "no")) (Yg (kD (.str "yes")) aNil)))) (cC (Yg (b2 (getC 3) (kD (.int 2)) ixD) aNil) intC) ixD) aNil)))) catD)) (sOwn 2 (b2 (getC 2) (cC (Yg (b2 (getC 3) (kD (.int 1)) ixD) aNil) Yam) catD))) (sIf (b2 (getC 0) (kD (.str "sums")) (eqM false)) (sMut 2 (b2 (lF (dLst (Yg (kD (.str "no")) (Yg (kD (.str "yes")) aNil)))) (cC (Yg (b2 (getC 3) (kD (.int 2)) ixD) aNil) intC) ixD) appD) sNil)))
@[simp] def Yia:Ro->Option Out:=(wF [2] (sRet (getV 2)))
@[simp] def Yib:Ro->Option Out:=(sSeq (sFor (b1 (getV 1) Ycg) (gSet 3) Ybe) Yia)
def Yfp:Ro->Option Out:=(sSeq (sOwn 2 (dLst (Yg (cC (Yg (cC (Yg (getC 1) aNil) lenC) aNil) strC) aNil))) Yib)
def Yb0:List D->Option D:=runB 2 4 Yfp
theorem Ye5(bl:Bl K w mg):Okf P w K mg base 2 2 "_law_rows_words" ["word","rows"] Yb0:=by
 refine okfn bl.f45 sc_law_rows_words fun hr=>?_
 exact(Yo (Ya5 2 sc_law_rows_words.nd (Yan (Yc (Yaw Ybp Yei rfl bl.Str boot_str (Yx (Yb (Ybz Yb5 Yg5 rfl bl.Len PySem.boot_len (Yx (Yd 1) y6))) y6)) Yj))) (Yo (y1w PassesOwn.never rfl (Ypd (Yp 1)) (Ycw 3 sc_law_rows_words.nd) (Yo (Ye2 2 (Yaw Ybp Yei rfl bl.Str boot_str (Yx (Yb (y9 (Yd 3) (Yb Yh))) y6))) (Yo (Ybo (Yay hr.units (Yd 0) (Yb Yi)) (Yy (Ya5 2 sc_law_rows_words.nd (Ybi (Yd 2) (Yb (Yaz (Yan (Yc (Yt (Yfo bl) hr rfl (Yc (y9 (Yd 3) (Yb Yh)) Yj) aL1) (Yc (y9 (Yb (Yaz (Yan (Yc Yi (Yc Yi Yj))))) (Yb (Yaw Yjw Yo9 rfl bl.Int boot_int (Yx (Yb (y9 (Yd 3) (Yb Yh))) y6)))) Yj)))))))) (Yy (Ya5 2 sc_law_rows_words.nd (Ybi (Yd 2) (Yb (Yt (Ybd bl) hr rfl (Yc (y9 (Yd 3) (Yb Yh)) Yj) aL1)))))) (Yy (Ybo (Yay hr.units (Yd 0) (Yb Yi)) (Yy (Ye2 2 (y9 (Yb (Yaz (Yan (Yc Yi (Yc Yi Yj))))) (Yb (Yaw Yjw Yo9 rfl bl.Int boot_int (Yx (Yb (y9 (Yd 3) (Yb Yh))) y6)))))) Ya1))))) (Yy (Ypc [2] (y8 (Yp 2))))))
theorem sc_law_paper_words:FnScope ["paper","word","words"] ["paper"] (defScope (top 46)):=fns
@[simp] def Yhk:Ro->Option Out:=(wF [2] (sRet (getV 2)))
@[simp] def Yhl:Ro->Option Out:=(sSeq (sIf (b2 (getC 1) (kD (.str "rows")) (eqM false)) (sOwn 2 (b2 (lF (b2 (getC 2) (cC (Yg (b2 (getC 0) (kD (.int 1)) ixD) aNil) Yam) catD)) (cC (Yg (getV 1) (Yg (b2 (getC 0) (kD (.int 2)) ixD) aNil)) Yb0) catD)) sNil) Yhk)
@[simp] def Yhm:Ro->Option Out:=(sSeq (sIf (orT (b2 (getC 1) (kD (.str "plan")) (eqM false)) (b2 (getC 1) (kD (.str "sums")) (eqM false))) (sOwn 2 (b2 (getC 2) (cC (Yg (getV 1) (Yg (b2 (getC 0) (kD (.int 1)) ixD) aNil)) Yb0) catD)) sNil) Yhl)
@[simp] def Yhn:Ro->Option Out:=(sSeq (sIf (b2 (getC 1) (kD (.str "lone")) (eqM false)) (sSeq (sMut 2 (cC (Yg (b2 (getC 0) (kD (.int 1)) ixD) aNil) Yca) appD) (sOwn 2 (b2 (lF (b2 (getC 2) (cC (Yg (b2 (getC 0) (kD (.int 2)) ixD) aNil) Yam) catD)) (cC (Yg (b2 (getC 0) (kD (.int 3)) ixD) aNil) Yam) catD))) sNil) Yhm)
@[simp] def Yho:Ro->Option Out:=(sSeq (sIf (b2 (getC 1) (kD (.str "odd")) (eqM false)) (sOwn 2 (b2 (getC 2) (cC (Yg (b2 (getC 0) (kD (.int 1)) ixD) aNil) Yam) catD)) sNil) Yhn)
@[simp] def Yhp:Ro->Option Out:=(sSeq (sIf (b2 (getC 1) (kD (.str "cross")) (eqM false)) (sOwn 2 (b2 (getC 2) (cC (Yg (b2 (getC 0) (kD (.int 1)) ixD) aNil) Ybf) catD)) sNil) Yho)
@[simp] def Yhq:Ro->Option Out:=(sSeq (sIf (orT (b2 (getC 1) (kD (.str "clash")) (eqM false)) (b2 (getC 1) (kD (.str "late")) (eqM false))) (sOwn 2 (b2 (lF (b2 (getC 2) (cC (Yg (b2 (getC 0) (kD (.int 1)) ixD) aNil) Ybf) catD)) (cC (Yg (b2 (getC 0) (kD (.int 2)) ixD) aNil) Ybf) catD)) sNil) Yhp)
@[simp] def Yhr:Ro->Option Out:=(sSeq (sOwn 2 (dLst (Yg (getV 1) aNil))) Yhq)
def Yac:Ro->Option Out:=(sSeq (sSet 1 (b2 (getC 0) (kD (.int 0)) ixD)) Yhr)
def Ycf:List D->Option D:=runB 1 3 Yac
theorem Yic(bl:Bl K w mg):Okf P w K mg base 3 1 "_law_paper_words" ["paper"] Ycf:=by
 refine okfn bl.f46 sc_law_paper_words fun hr=>?_
 exact(Yo (Yco 1 sc_law_paper_words.nd (y9 (Yd 0) (Yb Yh))) (Yo (Ya5 2 sc_law_paper_words.nd (Yan (Yc (Yp 1) Yj))) (Yo (Ybo (Yeh (Yjd (Yay hr.units (Yd 1) (Yb Yi)) (Yfx (Yay hr.units (Yd 1) (Yb Yi))))) (Yy (Ya5 2 sc_law_paper_words.nd (Ybi (Yb (Yaz (Ybi (Yd 2) (Yb (Yt (Yde bl) hr rfl (Yc (y9 (Yd 0) (Yb Yh)) Yj) aL1))))) (Yb (Yt (Yde bl) hr rfl (Yc (y9 (Yd 0) (Yb Yh)) Yj) aL1))))) Ya1) (Yo (Ybo (Yay hr.units (Yd 1) (Yb Yi)) (Yy (Ya5 2 sc_law_paper_words.nd (Ybi (Yd 2) (Yb (Yt (Yde bl) hr rfl (Yc (y9 (Yd 0) (Yb Yh)) Yj) aL1))))) Ya1) (Yo (Ybo (Yay hr.units (Yd 1) (Yb Yi)) (Yy (Ya5 2 sc_law_paper_words.nd (Ybi (Yd 2) (Yb (Yt (Ybd bl) hr rfl (Yc (y9 (Yd 0) (Yb Yh)) Yj) aL1))))) Ya1) (Yo (Ybo (Yay hr.units (Yd 1) (Yb Yi)) (Yo (Ye2 2 (Yt (Yfo bl) hr rfl (Yc (y9 (Yd 0) (Yb Yh)) Yj) aL1)) (Yy (Ya5 2 sc_law_paper_words.nd (Ybi (Yb (Yaz (Ybi (Yd 2) (Yb (Yt (Ybd bl) hr rfl (Yc (y9 (Yd 0) (Yb Yh)) Yj) aL1))))) (Yb (Yt (Ybd bl) hr rfl (Yc (y9 (Yd 0) (Yb Yh)) Yj) aL1)))))) Ya1) (Yo (Ybo (Yeh (Yjd (Yay hr.units (Yd 1) (Yb Yi)) (Yfx (Yay hr.units (Yd 1) (Yb Yi))))) (Yy (Ya5 2 sc_law_paper_words.nd (Ybi (Yd 2) (Yb (Yt (Ye5 bl) hr rfl (Yc (Yp 1) (Yc (y9 (Yd 0) (Yb Yh)) Yj)) aL2))))) Ya1) (Yo (Ybo (Yay hr.units (Yd 1) (Yb Yi)) (Yy (Ya5 2 sc_law_paper_words.nd (Ybi (Yb (Yaz (Ybi (Yd 2) (Yb (Yt (Ybd bl) hr rfl (Yc (y9 (Yd 0) (Yb Yh)) Yj) aL1))))) (Yb (Yt (Ye5 bl) hr rfl (Yc (Yp 1) (Yc (y9 (Yd 0) (Yb Yh)) Yj)) aL2))))) Ya1) (Yy (Ypc [2] (y8 (Yp 2))))))))))))
theorem sc_law_faulty:FnScope ["words","pick","way","at","some"] ["words","pick"] (defScope (top 47)):=fns
@[simp] def Yck:Ro->Option Out:=(sRet (b2 (b2 (lF (dLst (Yg (kD (.str " ")) (Yg (kD (.str "\n")) (Yg (kD (.str "\t")) aNil))))) (b2 (b2 (getC 1) (kD (.int 4096)) divI) (kD (.int 3)) modI) ixD) (cC (Yg (getC 0) aNil) (Yg8 (Str.ofString " "))) addS))
@[simp] def Ybk:Ro->Option Out:=(sSeq (sIf (b2 (getC 2) (kD (.int 6)) (eqM false)) (sRet (b2 (cC (Yg (getC 0) aNil) (Yg8 (Str.ofString " "))) (b2 (lF (dLst (Yg (kD (.str "\n")) (Yg (kD (.str " ")) (Yg (kD (.str "\t")) (Yg (kD (.str "\n0")) aNil)))))) (b2 (b2 (getC 1) (kD (.int 4096)) divI) (kD (.int 4)) modI) ixD) addS)) sNil) Yck)
@[simp] def Ybl:Ro->Option Out:=(sSeq (sIf (b2 (getC 2) (kD (.int 5)) (eqM false)) (sRet (cC (Yg (lF (b2 (getC 0) (lF (dLst (Yg (b2 (lF (dLst (Yg (kD (.str "0")) (Yg (kD (.str "broken")) (Yg (kD (.str "none")) (Yg (kD (.str "+1")) aNil)))))) (b2 (b2 (getC 1) (kD (.int 4096)) divI) (kD (.int 4)) modI) ixD) aNil))) catD)) aNil) (Yg8 (Str.ofString " ")))) sNil) Ybk)
@[simp] def Ybm:Ro->Option Out:=(sSeq (sIf (b2 (getC 2) (kD (.int 4)) (eqM false)) (sRet (cC (Yg (lF (slF (getC 0) none (some (getC 3)))) aNil) (Yg8 (Str.ofString " ")))) sNil) Ybl)
@[simp] def Yb2:Ro->Option Out:=(sSeq (sIf (b2 (getC 2) (kD (.int 4)) ltI) (sRet (cC (Yg (lF (b2 (lF (b2 (lF (slF (getC 0) none (some (getC 3)))) (lF (dLst (Yg (b2 (getC 4) (b2 (b2 (getC 1) (kD (.int 4096)) divI) (kD (.int 16)) modI) ixD) aNil))) catD)) (lF (slF (getC 0) (some (b2 (getC 3) (kD (.int 1)) addI)) none)) catD)) aNil) (Yg8 (Str.ofString " ")))) sNil) Ybm)
@[simp] def Ygz:Ro->Option Out:=(sSeq (sOwn 4 (b2 (getC 4) (lF (dLst (Yg (kD (.str "Yes")) (Yg (kD (.str "Broken")) (Yg (kD (.str "1\t")) (Yg (b2 (kD (.str "9")) (kD (.int 30)) mulS) aNil)))))) catD)) Yb2)
@[simp] def Yg0:Ro->Option Out:=(sSeq (sOwn 4 (dLst (Yg (kD (.str "")) (Yg (kD (.str "x")) (Yg (kD (.str "201")) (Yg (kD (.str "07")) (Yg (kD (.str "00")) (Yg (kD (.str "+60")) (Yg (kD (.str "-07")) (Yg (kD (.str "1_0")) (Yg (kD (.str "1000")) (Yg (kD (.str "+")) (Yg (kD (.str "--1")) (Yg (kD (.str "None")) aNil)))))))))))))) Ygz)
@[simp] def Yg1:Ro->Option Out:=(sSeq (sSet 3 (b2 (b2 (getC 1) (kD (.int 8)) divI) (cC (Yg (getC 0) aNil) lenC) modI)) Yg0)
def Yf6:Ro->Option Out:=(sSeq (sSet 2 (b2 (getC 1) (kD (.int 8)) modI)) Yg1)
def Ycs:List D->Option D:=runB 2 5 Yf6
theorem Ymu(bl:Bl K w mg):Okf P w K mg base 1 2 "_law_faulty" ["words","pick"] Ycs:=by
 refine okfn bl.f47 sc_law_faulty fun hr=>?_
 exact(Yo (Yco 2 sc_law_faulty.nd (Yav (Yd 1) (Yb Yh))) (Yo (Yco 3 sc_law_faulty.nd (Yav (Yb (Ych (Yd 1) (Yb Yh))) (Yb (Ybz Yb5 Yg5 rfl bl.Len PySem.boot_len (Yx (Yd 0) y6))))) (Yo (Ya5 4 sc_law_faulty.nd (Yan (Yc Yi (Yc Yi (Yc Yi (Yc Yi (Yc Yi (Yc Yi (Yc Yi (Yc Yi (Yc Yi (Yc Yi (Yc Yi (Yc Yi Yj)))))))))))))) (Yo (Ya5 4 sc_law_faulty.nd (Ybi (Yd 4) (Yb (Yaz (Yan (Yc Yi (Yc Yi (Yc Yi (Yc (Yy4 (Yb Yi) (Yb Yh)) Yj))))))))) (Yo (Ybo (Yzy (Yd 2) (Yb Yh)) (Yy (y8 (Ygh (Yx (Yb (Yaz (Ybi (Yb (Yaz (Ybi (Yb (Yaz (Yhx (fl:=none) (fh:=(some (getC 3))) (Yd 0) Yqs (Yqt (Yd 3))))) (Yb (Yaz (Yan (Yc (y9 (Yd 4) (Yb (Yav (Yb (Ych (Yd 1) (Yb Yh))) (Yb Yh)))) Yj))))))) (Yb (Yaz (Yhx (fl:=(some (b2 (getC 3) (kD (.int 1)) addI))) (fh:=none) (Yd 0) (Yqt (Yb (Ymg (Yd 3) (Yb Yh)))) Yqs)))))) y6)))) Ya1) (Yo (Ybo (Yay hr.units (Yd 2) (Yb Yh)) (Yy (y8 (Ygh (Yx (Yb (Yaz (Yhx (fl:=none) (fh:=(some (getC 3))) (Yd 0) Yqs (Yqt (Yd 3))))) y6)))) Ya1) (Yo (Ybo (Yay hr.units (Yd 2) (Yb Yh)) (Yy (y8 (Ygh (Yx (Yb (Yaz (Ybi (Yd 0) (Yb (Yaz (Yan (Yc (y9 (Yb (Yaz (Yan (Yc Yi (Yc Yi (Yc Yi (Yc Yi Yj))))))) (Yb (Yav (Yb (Ych (Yd 1) (Yb Yh))) (Yb Yh)))) Yj))))))) y6)))) Ya1) (Yo (Ybo (Yay hr.units (Yd 2) (Yb Yh)) (Yy (y8 (Yaa (Yb (Ygh (Yx (Yd 0) y6))) (Yb (y9 (Yb (Yaz (Yan (Yc Yi (Yc Yi (Yc Yi (Yc Yi Yj))))))) (Yb (Yav (Yb (Ych (Yd 1) (Yb Yh))) (Yb Yh)))))))) Ya1) (Yy (y8 (Yaa (Yb (y9 (Yb (Yaz (Yan (Yc Yi (Yc Yi (Yc Yi Yj)))))) (Yb (Yav (Yb (Ych (Yd 1) (Yb Yh))) (Yb Yh))))) (Yb (Ygh (Yx (Yd 0) y6))))))))))))))
theorem sc_law_far_beacon:FnScope ["pick","far","some"] ["pick"] (defScope (top 48)):=fns
@[simp] def Yid:Ro->Option Out:=(sRet (b2 (lF (b2 (getC 2) (lF (dLst (Yg (b2 (b2 (kD (.str "lone ")) (getC 1) addS) (kD (.str " 0 0")) addS) (Yg (b2 (b2 (kD (.str "plan 1 ")) (getC 1) addS) (kD (.str " 3 no")) addS) aNil)))) catD)) (b2 (getC 0) (kD (.int 16)) modI) ixD))
@[simp] def Yie:Ro->Option Out:=(sSeq (sOwn 2 (b2 (getC 2) (lF (dLst (Yg (b2 (kD (.str "cross 1 +")) (getC 1) addS) (Yg (b2 (kD (.str "clash 0 1 -")) (getC 1) addS) (Yg (b2 (b2 (kD (.str "late 1 -")) (getC 1) addS) (kD (.str " 0")) addS) (Yg (b2 (kD (.str "cross 2 -0 +")) (getC 1) addS) aNil)))))) catD)) Yid)
@[simp] def Yif:Ro->Option Out:=(sSeq (sOwn 2 (b2 (getC 2) (lF (dLst (Yg (b2 (b2 (kD (.str "sums 1 ")) (getC 1) addS) (kD (.str " 0 yes")) addS) (Yg (b2 (b2 (kD (.str "sums 1 5 1 ")) (getC 1) addS) (kD (.str " no")) addS) (Yg (b2 (b2 (kD (.str "lone ")) (getC 1) addS) (kD (.str " 0 1 0")) addS) aNil))))) catD)) Yie)
@[simp] def Yig:Ro->Option Out:=(sSeq (sOwn 2 (b2 (getC 2) (lF (dLst (Yg (b2 (b2 (kD (.str "plan 1 ")) (getC 1) addS) (kD (.str " none yes")) addS) (Yg (b2 (b2 (kD (.str "plan 1 5 ")) (getC 1) addS) (kD (.str " no")) addS) (Yg (b2 (b2 (kD (.str "plan 2 4 none yes ")) (getC 1) addS) (kD (.str " 3 yes")) addS) aNil))))) catD)) Yif)
@[simp] def Yih:Ro->Option Out:=(sSeq (sOwn 2 (dLst (Yg (b2 (b2 (kD (.str "rows 1 ")) (getC 1) addS) (kD (.str " 0")) addS) (Yg (b2 (b2 (kD (.str "rows 0 1 ")) (getC 1) addS) (kD (.str " 0")) addS) (Yg (b2 (kD (.str "rows 0 1 5 1 ")) (getC 1) addS) (Yg (b2 (kD (.str "rows 0 1 5 2 4 ")) (getC 1) addS) aNil)))))) Yig)
def Ydp:Ro->Option Out:=(sSeq (sSet 1 (cC (Yg (b2 (kD (.int 60)) (b2 (b2 (getC 0) (kD (.int 16)) divI) (kD (.int 141)) modI) addI) aNil) strC)) Yih)
def Ycm:List D->Option D:=runB 1 3 Ydp
theorem Yi5(bl:Bl K w mg):Okf P w K mg base 1 1 "_law_far_beacon" ["pick"] Ycm:=by
 refine okfn bl.f48 sc_law_far_beacon fun hr=>?_
 exact(Yo (Yco 1 sc_law_far_beacon.nd (Yaw Ybp Yei rfl bl.Str boot_str (Yx (Yb (Ymg (Yb Yh) (Yb (Yav (Yb (Ych (Yd 0) (Yb Yh))) (Yb Yh))))) y6))) (Yo (Ya5 2 sc_law_far_beacon.nd (Yan (Yc (Yaa (Yb (Yaa (Yb Yi) (Yd 1))) (Yb Yi)) (Yc (Yaa (Yb (Yaa (Yb Yi) (Yd 1))) (Yb Yi)) (Yc (Yaa (Yb Yi) (Yd 1)) (Yc (Yaa (Yb Yi) (Yd 1)) Yj)))))) (Yo (Ya5 2 sc_law_far_beacon.nd (Ybi (Yd 2) (Yb (Yaz (Yan (Yc (Yaa (Yb (Yaa (Yb Yi) (Yd 1))) (Yb Yi)) (Yc (Yaa (Yb (Yaa (Yb Yi) (Yd 1))) (Yb Yi)) (Yc (Yaa (Yb (Yaa (Yb Yi) (Yd 1))) (Yb Yi)) Yj)))))))) (Yo (Ya5 2 sc_law_far_beacon.nd (Ybi (Yd 2) (Yb (Yaz (Yan (Yc (Yaa (Yb (Yaa (Yb Yi) (Yd 1))) (Yb Yi)) (Yc (Yaa (Yb (Yaa (Yb Yi) (Yd 1))) (Yb Yi)) (Yc (Yaa (Yb (Yaa (Yb Yi) (Yd 1))) (Yb Yi)) Yj)))))))) (Yo (Ya5 2 sc_law_far_beacon.nd (Ybi (Yd 2) (Yb (Yaz (Yan (Yc (Yaa (Yb Yi) (Yd 1)) (Yc (Yaa (Yb Yi) (Yd 1)) (Yc (Yaa (Yb (Yaa (Yb Yi) (Yd 1))) (Yb Yi)) (Yc (Yaa (Yb Yi) (Yd 1)) Yj))))))))) (Yy (y8 (y9 (Yb (Yaz (Ybi (Yd 2) (Yb (Yaz (Yan (Yc (Yaa (Yb (Yaa (Yb Yi) (Yd 1))) (Yb Yi)) (Yc (Yaa (Yb (Yaa (Yb Yi) (Yd 1))) (Yb Yi)) Yj)))))))) (Yb (Yav (Yd 0) (Yb Yh)))))))))))
theorem sc_law_kinds:FnScope ["written","kinds","e","some","more"] ["written"] (defScope (top 49)):=fns
def Yf7(ea:Addr):Ro->Option Out:=(sSeq (sOwn 3 (dLst (Yg (isX 2 ea false) (Yg (isX 2 ea false) (Yg (isX 2 ea false) (Yg (isX 2 ea false) aNil)))))) (sSeq (sOwn 4 (dLst (Yg (isX 2 ea false) (Yg (isX 2 ea false) (Yg (isX 2 ea false) aNil))))) (sOwn 1 (dLst (Yg (isX 2 ea true) (Yg (isX 2 ea true) (Yg (orV (cC (Yg (getC 3) aNil) anyC) (cC (Yg (getC 4) aNil) anyC)) aNil)))))))
def Yen:Ro->Option Out
 | [a0,_,_,_,_]=>some (.nx [a0,some (.ow [.bl true,.bl true,.bl false]),none,some (.ow [.bl false,.bl false,.bl false,.bl false]),some (.ow [.bl false,.bl false,.bl false])])
 | _=>none
theorem Ymv:∀ea ρ out,Yen ρ=some out->∃ρ3,Yf7 ea (ρ.set 2 (some (.sh (.adr ea))))=some (.nx ρ3)/\out=.nx (ρ3.set 2 none):=by
 intro ea ρ out h
 unfold Yen at h
 split at h
 ·cases h
  exact⟨_,by simp[Yf7,isX];rfl,rfl⟩
 ·cases h
@[simp] def Ymw:Ro->Option Out:=(wF [1] (sRet (getV 1)))
@[simp] def Ymx:Ro->Option Out:=(sSeq (tryF (Yg (getV 0) aNil) y2 Yen) Ymw)
def Yhs:Ro->Option Out:=(sSeq (sOwn 1 (dLst aNil)) Ymx)
def Yfd:List D->Option D:=runB 1 5 Yhs
theorem Yoj(bl:Bl K w mg):Okf P w K mg base 13 1 "_law_kinds" ["written"] Yfd:=by
 refine okfn bl.f49 sc_law_kinds fun hr=>?_
 exact(Yo (Ya5 1 sc_law_kinds.nd (Yan Yj)) (Yo (Yyu 2 (gs:=Yf7) (Ygw bl) bl.x_NoPaper_DuskError hr rfl rfl (Yc (Yp 0) Yj) aL1 sc_law_kinds.nd (fun ea ob hob=>(Yo (Ya5 3 sc_law_kinds.nd (Yan (Yc (Yek 2 bl.x_NoPaper_NoBook hob bl.Isinstance) (Yc (Yek 2 bl.x_NoPaper_NoHands hob bl.Isinstance) (Yc (Yek 2 bl.x_NoPaper_NoLight hob bl.Isinstance) (Yc (Yek 2 bl.x_NoPaper_NoneSettled hob bl.Isinstance) Yj)))))) (Yo (Ya5 4 sc_law_kinds.nd (Yan (Yc (Yek 2 bl.x_NoPaper_NoPage hob bl.Isinstance) (Yc (Yek 2 bl.x_NoPaper_NoTable hob bl.Isinstance) (Yc (Yek 2 bl.x_NoPaper_Over hob bl.Isinstance) Yj))))) (Yy (Ya5 1 sc_law_kinds.nd (Yan (Yc (Yyv 2 bl.x_NoPaper_NoPaper hob bl.Isinstance bl.Valueerror) (Yc (Yek 2 bl.x_NoPaper_NoPaper hob bl.Isinstance) (Yc (y5d (Ybz (Ylw bl.x_NoPaper_NoPaper hob) Ytz rfl bl.Any boot_any (Yx (Yd 3) y6)) (y1u (Ybz (Ylw bl.x_NoPaper_NoPaper hob) Ytz rfl bl.Any boot_any (Yx (Yd 4) y6)))) Yj))))))))) Ymv) (Yy (Ypc [1] (y8 (Yp 1))))))
theorem sc_law:FnScope ["script","pick","paper","words","written","refused"] ["script"] (defScope (top 50)):=fns
def Yvm:Ro->Option Out:=(sRet (mB (b2 (cC (Yg (cC (Yg (getC 3) aNil) (Yg8 (Str.ofString " "))) aNil) Yel) (getC 2) (eqM false))))
def Yvn:Ro->Option Out:=(sSeq (sIf (orT (notT (b1 (getC 5) truD)) (b2 (cC (Yg (getV 4) aNil) Yfd) (lF (dLst (Yg (kD (.bl true)) (Yg (kD (.bl true)) (Yg (kD (.bl false)) aNil))))) (eqM true))) (sRet (kD (.bl false))) sNil) Yvm)
def Yvo:Ro->Option Out:=(sSeq (tryF (Yg (getV 4) aNil) y2 (sSet 5 (kD (.bl true)))) Yvn)
def Ypv:Ro->Option Out:=(sSeq (sSet 5 (kD (.bl false))) Yvo)
def Yvp:Ro->Option Out:=(sSeq (sIf (b2 (b2 (b2 (cC (Yg (getV 0) (Yg (kD (.int 1)) aNil)) Ydb) (kD (.int 8)) divI) (kD (.int 4)) modI) (kD (.int 1)) (eqM false)) (sSet 4 (cC (Yg (getV 1) aNil) Ycm)) sNil) Ypv)
def Yvq:Ro->Option Out:=(sSeq (sSet 4 (cC (Yg (getV 3) (Yg (b2 (getC 1) (b2 (b2 (cC (Yg (getV 0) (Yg (kD (.int 1)) aNil)) Ydb) (kD (.int 8)) modI) (kD (.int 4096)) mulI) addI) aNil)) Ycs)) Yvp)
def Yvr:Ro->Option Out:=(sSeq (sSet 3 (cC (Yg (getV 2) aNil) Ycf)) Yvq)
def Yvs:Ro->Option Out:=(sSeq (sSet 2 (Yy2 (revF (lF (slF (getC 0) (some (kD (.int 2))) none))) Yf5)) Yvr)
def y2r:Ro->Option Out:=(sSeq (sSet 1 (cC (Yg (cC (Yg (getV 0) (Yg (kD (.int 0)) aNil)) Ydb) (Yg (kD (.int 1442695040888963407)) aNil)) Ydc)) Yvs)
def Ypw:List D->Option D:=runB 1 6 y2r
theorem y5s(bl:Bl K w mg){a:Addr}{fd:FuncData}(F:Fun K "law" "law" (top 50) a fd):FnOk P w K mg base CX0 14 a fd ["script"] (spOf K 1 Ypw):=by
 refine Ylu (k:=13) F sc_law rfl rfl fun cdv A outer s H E hr=>?_
 exact(Yo (Yco 1 sc_law.nd (Yt (Yjf bl) hr rfl (Yc (Yt (Yhd bl) hr rfl (Yc (Yp 0) (Yc Yh Yj)) aL2) (Yc Yh Yj)) aL2)) (Yo (Yco 2 sc_law.nd (Yvl (Ysv bl) hr rfl (Ypf rfl rfl bl.List rfl bl.Reversed (Yb (Yaz (Yhx (fl:=(some (kD (.int 2)))) (fh:=none) (Yd 0) (Yqt (Yb Yh)) Yqs)))))) (Yo (Yco 3 sc_law.nd (Yt (Yic bl) hr rfl (Yc (Yp 2) Yj) aL1)) (Yo (Yco 4 sc_law.nd (Yt (Ymu bl) hr rfl (Yc (Yp 3) (Yc (Ymg (Yd 1) (Yb (Yfw (Yb (Yav (Yb (Yt (Yhd bl) hr rfl (Yc (Yp 0) (Yc Yh Yj)) aL2)) (Yb Yh))) (Yb Yh)))) Yj)) aL2)) (Yo (Ybo (Yay hr.units (Yb (Yav (Yb (Ych (Yb (Yt (Yhd bl) hr rfl (Yc (Yp 0) (Yc Yh Yj)) aL2)) (Yb Yh))) (Yb Yh))) (Yb Yh)) (Yy (Yco 4 sc_law.nd (Yt (Yi5 bl) hr rfl (Yc (Yp 1) Yj) aL1))) Ya1) (Yo (Yco 5 sc_law.nd Ylt) (Yo (Yyt (Ygw bl) bl.x_NoPaper_NoPaper hr rfl rfl (Yc (Yp 4) Yj) aL1 (fun ea ob hob=>(Yy (Yco 5 sc_law.nd Ylt)))) (Yo (Ybo (Yeh (Yjd (Ypb (Ypa (Yd 5))) (Yfx (y5c hr.units (Yb (Yt (Yoj bl) hr rfl (Yc (Yp 4) Yj) aL1)) (Yb (Yaz (Yan (Yc Ylt (Yc Ylt (Yc Ylt Yj)))))))))) (Yy (y8 Ylt)) Ya1) (Yy (y8 (Ynw hr.units (Yb (Yt (Yms bl) hr rfl (Yc (Ygh (Yx (Yd 3) y6)) Yj) aL1)) (Yd 2))))))))))))
end
abbrev Ymy:Nat:=14
theorem all_mk{l:W.OpenLaw}{w:World}{K:W.Frag}{h:Heap}{mg:Str->Option Value}{fa vg:Addr}(X:K.In h)(G:h.Ns mainGlobals mg)(hfa:mg "law"=some (.ref fa))
 {vz vk:Option Addr} {v0:Array (Option Value)} {v3 vm vn vo uw vp:Value}
 (F_is_beacon:Fk K "is_beacon" 12)
 (F_number_read:Fk K "number_read" 17)
 (F_beacon_read:Fk K "beacon_read" 18)
 (F_saying_read:Fk K "saying_read" 19)
 (F_place_read:Fk K "place_read" 27)
 (F_checked:Fk K "checked" 28)
 (F_thing_read:Fk K "thing_read" 29)
 (F_Reader_is_at_end:Mq K "Reader" "is_at_end" "Reader.is_at_end" (inClass (top 26) 1))
 (F_Reader_taken:Mq K "Reader" "taken" "Reader.taken" (inClass (top 26) 2))
 (F_parts_read:Fk K "parts_read" 31)
 (F_part_read:Fk K "part_read" 30)
 (F_Reader___init:Iqr K (inClass (top 26) 0))
 (F_paper_read:Fk K "paper_read" 32)
 (F_law_cell:Fk K "_law_cell" 34)
 (F_law_mixed:Fk K "_law_mixed" 35)
 (F_law_next:Fk K "_law_next" 36)
 (F_law_many:Fk K "_law_many" 37)
 (F_law_any_road:Fk K "_law_any_road" 38)
 (F_law_any_numbers:Fk K "_law_any_numbers" 39)
 (F_law_any_rows:Fk K "_law_any_rows" 40)
 (F_law_any:Fk K "_law_any" 41)
 (F_law_number_words:Fk K "_law_number_words" 42)
 (F_law_road_words:Fk K "_law_road_words" 43)
 (F_law_free_word:Fk K "_law_free_word" 44)
 (F_law_rows_words:Fk K "_law_rows_words" 45)
 (F_law_paper_words:Fk K "_law_paper_words" 46)
 (F_law_faulty:Fk K "_law_faulty" 47)
 (F_law_far_beacon:Fk K "_law_far_beacon" 48)
 (F_law_kinds:Fk K "_law_kinds" 49)
 (v4:W.nsIn K mainGlobals "law"=some (some (.ref vg))) (v5:K.lookup vg=some ⟨v3,vz,.func (W.fnOf "law" "law" (defArgs (top 50)) (defBody (top 50)) (defScope (top 50)) .none vm vn vo vk uw vp),v0⟩) (v6:W.codeIn K uw "law"=true) (v7:W.keepIn K (.ref vg)=true)
 (N_words:Nq K "Reader" "words")
 (N_place:Nq K "Reader" "place")
 (X_NoPaper_NoPaper:Xk K "NoPaper" "NoPaper" true)
 (X_NoPaper_DuskError:Xk K "NoPaper" "DuskError" true)
 (X_NoPaper_NoneSettled:Xk K "NoPaper" "NoneSettled" false)
 (X_NoPaper_NoLight:Xk K "NoPaper" "NoLight" false)
 (X_NoPaper_NoHands:Xk K "NoPaper" "NoHands" false)
 (X_NoPaper_NoBook:Xk K "NoPaper" "NoBook" false)
 (X_NoPaper_Over:Xk K "NoPaper" "Over" false)
 (X_NoPaper_NoTable:Xk K "NoPaper" "NoTable" false)
 (X_NoPaper_NoPage:Xk K "NoPaper" "NoPage" false)
 {gn_153:_} (gq_153:K.lookup 153=some ⟨.type "tuple",none,.seq #[] gn_153,#[]⟩)
 {gn_154:_} {gt_154_0 gt_154_1:_} (gq_154:K.lookup 154=some ⟨.type "tuple",none,.seq #[.str "road" gt_154_0,.str "road" gt_154_1] gn_154,#[]⟩)
 {gn_155:_} {gt_155_0:_} (gq_155:K.lookup 155=some ⟨.type "tuple",none,.seq #[.str "road" gt_155_0] gn_155,#[]⟩)
 {gn_156:_} {gt_156_0 gt_156_1:_} (gq_156:K.lookup 156=some ⟨.type "tuple",none,.seq #[.str "road" gt_156_0,.str "road" gt_156_1] gn_156,#[]⟩)
 {gn_157:_} {gt_157_0:_} (gq_157:K.lookup 157=some ⟨.type "tuple",none,.seq #[.str "places" gt_157_0] gn_157,#[]⟩)
 {gn_158:_} {gt_158_0 gt_158_1 gt_158_2:_} (gq_158:K.lookup 158=some ⟨.type "tuple",none,.seq #[.str "source" gt_158_0,.str "places" gt_158_1,.str "places" gt_158_2] gn_158,#[]⟩)
 {gn_159:_} {gt_159_0:_} (gq_159:K.lookup 159=some ⟨.type "tuple",none,.seq #[.str "plan rows" gt_159_0] gn_159,#[]⟩)
 {gn_160:_} {gt_160_0:_} (gq_160:K.lookup 160=some ⟨.type "tuple",none,.seq #[.str "sum rows" gt_160_0] gn_160,#[]⟩)
 {gn_161:_} {gt_161_0 gt_161_1:_} (gq_161:K.lookup 161=some ⟨.type "tuple",none,.seq #[.str "beacons" gt_161_0,.str "if rows" gt_161_1] gn_161,#[]⟩)
 {gn_163:_} {gt_163_0 gt_163_1 gt_163_2:_} (gq_163:K.lookup 163=some ⟨.type "tuple",none,.seq #[.str "beacon" gt_163_0,.str "source" gt_163_1,.str "truth" gt_163_2] gn_163,#[]⟩)
 {gn_164:_} {gt_164_0 gt_164_1 gt_164_2:_} (gq_164:K.lookup 164=some ⟨.type "tuple",none,.seq #[.str "beacon" gt_164_0,.str "beacons" gt_164_1,.str "truth" gt_164_2] gn_164,#[]⟩)
 {gn_165:_} {gt_165_0 gt_165_1:_} (gq_165:K.lookup 165=some ⟨.type "tuple",none,.seq #[.str "beacon" gt_165_0,.str "beacons" gt_165_1] gn_165,#[]⟩)
 {uk:Tok} (ul:W.nsIn K mainGlobals "BEACON_COUNT"=some (some (.int 60 uk)))
 {vh:Tok} (vi:W.nsIn K mainGlobals "FIGURES"=some (some (.str "0123456789" vh)))
 {um:Tok} (uo:W.nsIn K mainGlobals "MOST_FIGURES"=some (some (.int 3 um)))
 {ur:Tok} (ut:W.nsIn K mainGlobals "MOST_NUMBER"=some (some (.int 200 ur)))
 {vq:_} {u3 u4 u5 u6 u7 u8 u9 vc vd:_} (uu:W.nsIn K mainGlobals "PAPERS"=some (some (.ref 152))) (uv:K.lookup 152=some ⟨.type "dict",none,.dict #[⟨PyData.keyHash w.params (Str.ofString "broken"),.str "broken" u3,.ref 153⟩,⟨PyData.keyHash w.params (Str.ofString "clash"),.str "clash" u4,.ref 154⟩,⟨PyData.keyHash w.params (Str.ofString "cross"),.str "cross" u5,.ref 155⟩,⟨PyData.keyHash w.params (Str.ofString "late"),.str "late" u6,.ref 156⟩,⟨PyData.keyHash w.params (Str.ofString "odd"),.str "odd" u7,.ref 157⟩,⟨PyData.keyHash w.params (Str.ofString "lone"),.str "lone" u8,.ref 158⟩,⟨PyData.keyHash w.params (Str.ofString "plan"),.str "plan" u9,.ref 159⟩,⟨PyData.keyHash w.params (Str.ofString "sums"),.str "sums" vc,.ref 160⟩,⟨PyData.keyHash w.params (Str.ofString "rows"),.str "rows" vd,.ref 161⟩] vq,#[]⟩)
 {vy:_} {vr vt vw:_} (ve:W.nsIn K mainGlobals "ROWS"=some (some (.ref 162))) (vf:K.lookup 162=some ⟨.type "dict",none,.dict #[⟨PyData.keyHash w.params (Str.ofString "plan rows"),.str "plan rows" vr,.ref 163⟩,⟨PyData.keyHash w.params (Str.ofString "sum rows"),.str "sum rows" vt,.ref 164⟩,⟨PyData.keyHash w.params (Str.ofString "if rows"),.str "if rows" vw,.ref 165⟩] vy,#[]⟩)
 {vj:_} {ux uy uz u0 u1 u2:_} (up:W.nsIn K mainGlobals "SEVERAL"=some (some (.ref 166))) (uq:K.lookup 166=some ⟨.type "dict",none,.dict #[⟨PyData.keyHash w.params (Str.ofString "road"),.str "road" ux,.str "saying" uy⟩,⟨PyData.keyHash w.params (Str.ofString "places"),.str "places" uz,.str "place" u0⟩,⟨PyData.keyHash w.params (Str.ofString "beacons"),.str "beacons" u1,.str "beacon" u2⟩] vj,#[]⟩)
 {ug:_} {uc ud:_} (ua:W.nsIn K mainGlobals "TRUTHS_BY_MARK"=some (some (.ref 131))) (ub:K.lookup 131=some ⟨.type "dict",none,.dict #[⟨PyData.keyHash w.params (Str.ofString "+"),.str "+" uc,.bool true⟩,⟨PyData.keyHash w.params (Str.ofString "-"),.str "-" ud,.bool false⟩] ug,#[]⟩)
 {uh:_} {ue uf:_} (ui:W.nsIn K mainGlobals "TRUTHS_BY_WORD"=some (some (.ref 151))) (uj:K.lookup 151=some ⟨.type "dict",none,.dict #[⟨PyData.keyHash w.params (Str.ofString "yes"),.str "yes" ue,.bool true⟩,⟨PyData.keyHash w.params (Str.ofString "no"),.str "no" uf,.bool false⟩] uh,#[]⟩)
 (z_len:W.nsIn K mainGlobals "len"=some none)
 (z_range:W.nsIn K mainGlobals "range"=some none)
 (z_list:W.nsIn K mainGlobals "list"=some none)
 (z_tuple:W.nsIn K mainGlobals "tuple"=some none)
 (z_int:W.nsIn K mainGlobals "int"=some none)
 (z_bool:W.nsIn K mainGlobals "bool"=some none)
 (z_str:W.nsIn K mainGlobals "str"=some none)
 (z_any:W.nsIn K mainGlobals "any"=some none)
 (z_all:W.nsIn K mainGlobals "all"=some none)
 (z_isinstance:W.nsIn K mainGlobals "isinstance"=some none)
 (z_reversed:W.nsIn K mainGlobals "reversed"=some none)
 (z_ValueError:W.nsIn K mainGlobals "ValueError"=some none)
 : ∃fd:FuncData,(∀(s:Shared) (v:Value),BindsTo s fd ⟨[v],[]⟩ [("script",v)])/\∀base:Heap,K.In base->base.Ns mainGlobals mg->FnOk l.prog w K mg base CX0 Ymy fa fd ["script"] (spOf K 1 Ypw):=by
 have e:=hfa.symm.trans (W.mg_of X G v4)
 cases e
 have bl:Bl K w mg:=⟨W.mg_none_of X G z_len,W.mg_none_of X G z_range,W.mg_none_of X G z_list,W.mg_none_of X G z_tuple,W.mg_none_of X G z_int,W.mg_none_of X G z_bool,W.mg_none_of X G z_str,W.mg_none_of X G z_any,W.mg_none_of X G z_all,W.mg_none_of X G z_isinstance,W.mg_none_of X G z_reversed,W.mg_none_of X G z_ValueError,⟨_,W.mg_of X G ul⟩,⟨by decide +kernel,_,W.mg_of X G vi⟩,⟨_,W.mg_of X G uo⟩,⟨_,W.mg_of X G ut⟩,⟨_,_,_,_,W.mg_of X G uu,uv,⟨rfl,rfl,rfl⟩,rfl,(.cons ⟨rfl,⟨_,rfl⟩,rfl⟩ (.cons ⟨rfl,⟨_,rfl⟩,rfl⟩ (.cons ⟨rfl,⟨_,rfl⟩,rfl⟩ (.cons ⟨rfl,⟨_,rfl⟩,rfl⟩ (.cons ⟨rfl,⟨_,rfl⟩,rfl⟩ (.cons ⟨rfl,⟨_,rfl⟩,rfl⟩ (.cons ⟨rfl,⟨_,rfl⟩,rfl⟩ (.cons ⟨rfl,⟨_,rfl⟩,rfl⟩ (.cons ⟨rfl,⟨_,rfl⟩,rfl⟩ .nil)))))))))⟩,⟨_,_,_,_,W.mg_of X G ve,vf,⟨rfl,rfl,rfl⟩,rfl,(.cons ⟨rfl,⟨_,rfl⟩,rfl⟩ (.cons ⟨rfl,⟨_,rfl⟩,rfl⟩ (.cons ⟨rfl,⟨_,rfl⟩,rfl⟩ .nil)))⟩,⟨_,_,_,_,W.mg_of X G up,uq,⟨rfl,rfl,rfl⟩,rfl,(.cons ⟨rfl,⟨_,rfl⟩,⟨_,rfl⟩,by decide +kernel⟩ (.cons ⟨rfl,⟨_,rfl⟩,⟨_,rfl⟩,by decide +kernel⟩ (.cons ⟨rfl,⟨_,rfl⟩,⟨_,rfl⟩,by decide +kernel⟩ .nil)))⟩,⟨_,_,_,_,W.mg_of X G ua,by decide,ub,⟨rfl,rfl,rfl⟩,rfl,(.cons ⟨rfl,⟨_,rfl⟩,rfl⟩ (.cons ⟨rfl,⟨_,rfl⟩,rfl⟩ .nil))⟩,⟨_,_,_,_,W.mg_of X G ui,by decide,uj,⟨rfl,rfl,rfl⟩,rfl,(.cons ⟨rfl,⟨_,rfl⟩,rfl⟩ (.cons ⟨rfl,⟨_,rfl⟩,rfl⟩ .nil))⟩,⟨_,_,_,_,W.mg_of X G uu,by decide,uv,⟨rfl,rfl,rfl⟩,rfl,(.cons ⟨rfl,⟨_,rfl⟩⟩ (.cons ⟨rfl,⟨_,rfl⟩⟩ (.cons ⟨rfl,⟨_,rfl⟩⟩ (.cons ⟨rfl,⟨_,rfl⟩⟩ (.cons ⟨rfl,⟨_,rfl⟩⟩ (.cons ⟨rfl,⟨_,rfl⟩⟩ (.cons ⟨rfl,⟨_,rfl⟩⟩ (.cons ⟨rfl,⟨_,rfl⟩⟩ (.cons ⟨rfl,⟨_,rfl⟩⟩ .nil)))))))))⟩,⟨_,_,_,_,W.mg_of X G ve,by decide,vf,⟨rfl,rfl,rfl⟩,rfl,(.cons ⟨rfl,⟨_,rfl⟩⟩ (.cons ⟨rfl,⟨_,rfl⟩⟩ (.cons ⟨rfl,⟨_,rfl⟩⟩ .nil)))⟩,⟨_,_,_,_,W.mg_of X G up,by decide,uq,⟨rfl,rfl,rfl⟩,rfl,(.cons ⟨rfl,⟨_,rfl⟩⟩ (.cons ⟨rfl,⟨_,rfl⟩⟩ (.cons ⟨rfl,⟨_,rfl⟩⟩ .nil)))⟩,⟨_,_,_,_,W.mg_of X G ua,by decide,ub,⟨rfl,rfl,rfl⟩,rfl,(.cons ⟨rfl,⟨_,rfl⟩⟩ (.cons ⟨rfl,⟨_,rfl⟩⟩ .nil))⟩,⟨⟨_,_,_,gq_153,rfl,rfl,by rw[sizeLine_eq];simp,.nil⟩,⟨⟨_,_,_,gq_154,rfl,rfl,by rw[sizeLine_eq];simp,(.cons ⟨⟨_,rfl⟩,by decide +kernel⟩ (.cons ⟨⟨_,rfl⟩,by decide +kernel⟩ .nil))⟩,⟨⟨_,_,_,gq_155,rfl,rfl,by rw[sizeLine_eq];simp,(.cons ⟨⟨_,rfl⟩,by decide +kernel⟩ .nil)⟩,⟨⟨_,_,_,gq_156,rfl,rfl,by rw[sizeLine_eq];simp,(.cons ⟨⟨_,rfl⟩,by decide +kernel⟩ (.cons ⟨⟨_,rfl⟩,by decide +kernel⟩ .nil))⟩,⟨⟨_,_,_,gq_157,rfl,rfl,by rw[sizeLine_eq];simp,(.cons ⟨⟨_,rfl⟩,by decide +kernel⟩ .nil)⟩,⟨⟨_,_,_,gq_158,rfl,rfl,by rw[sizeLine_eq];simp,(.cons ⟨⟨_,rfl⟩,by decide +kernel⟩ (.cons ⟨⟨_,rfl⟩,by decide +kernel⟩ (.cons ⟨⟨_,rfl⟩,by decide +kernel⟩ .nil)))⟩,⟨⟨_,_,_,gq_159,rfl,rfl,by rw[sizeLine_eq];simp,(.cons ⟨⟨_,rfl⟩,by decide +kernel⟩ .nil)⟩,⟨⟨_,_,_,gq_160,rfl,rfl,by rw[sizeLine_eq];simp,(.cons ⟨⟨_,rfl⟩,by decide +kernel⟩ .nil)⟩,⟨⟨_,_,_,gq_161,rfl,rfl,by rw[sizeLine_eq];simp,(.cons ⟨⟨_,rfl⟩,by decide +kernel⟩ (.cons ⟨⟨_,rfl⟩,by decide +kernel⟩ .nil))⟩,⟨⟨_,_,_,gq_163,rfl,rfl,by rw[sizeLine_eq];simp,(.cons ⟨⟨_,rfl⟩,by decide +kernel⟩ (.cons ⟨⟨_,rfl⟩,by decide +kernel⟩ (.cons ⟨⟨_,rfl⟩,by decide +kernel⟩ .nil)))⟩,⟨⟨_,_,_,gq_164,rfl,rfl,by rw[sizeLine_eq];simp,(.cons ⟨⟨_,rfl⟩,by decide +kernel⟩ (.cons ⟨⟨_,rfl⟩,by decide +kernel⟩ (.cons ⟨⟨_,rfl⟩,by decide +kernel⟩ .nil)))⟩,⟨⟨_,_,_,gq_165,rfl,rfl,by rw[sizeLine_eq];simp,(.cons ⟨⟨_,rfl⟩,by decide +kernel⟩ (.cons ⟨⟨_,rfl⟩,by decide +kernel⟩ .nil))⟩,trivial⟩⟩⟩⟩⟩⟩⟩⟩⟩⟩⟩⟩,F_is_beacon.on X G,F_number_read.on X G,F_beacon_read.on X G,F_saying_read.on X G,F_place_read.on X G,F_checked.on X G,F_thing_read.on X G,F_Reader_is_at_end,F_Reader_taken,F_parts_read.on X G,F_part_read.on X G,F_Reader___init,F_paper_read.on X G,F_law_cell.on X G,F_law_mixed.on X G,F_law_next.on X G,F_law_many.on X G,F_law_any_road.on X G,F_law_any_numbers.on X G,F_law_any_rows.on X G,F_law_any.on X G,F_law_number_words.on X G,F_law_road_words.on X G,F_law_free_word.on X G,F_law_rows_words.on X G,F_law_paper_words.on X G,F_law_faulty.on X G,F_law_far_beacon.on X G,F_law_kinds.on X G,fun C h=>W.mg_of X G h,N_words,N_place,X_NoPaper_NoPaper.on X G,X_NoPaper_DuskError.on X G,X_NoPaper_NoneSettled.on X G,X_NoPaper_NoLight.on X G,X_NoPaper_NoHands.on X G,X_NoPaper_NoBook.on X G,X_NoPaper_Over.on X G,X_NoPaper_NoTable.on X G,X_NoPaper_NoPage.on X G⟩
 have v8:=Yql (st:=(top 50)) v5 v6 v7
 refine⟨W.fnOf "law" "law" (defArgs (top 50)) (defBody (top 50)) (defScope (top 50)) .none vm vn vo vk uw vp,fun s v=>.of_eq rfl,fun base _ _=>?_⟩
 exact y5s bl v8
theorem walk(hlaw:∀ns:List Int,ns.length<=63->Ypw [.scr ns]=some (.bl true)){l:W.OpenLaw}{q:Program}{loose:List Str}{XP:(Str->Option Value)->Heap->Prop}{YP:World->Heap->Prop}{d:DefRec}{K:Params->W.Frag}(hn:l.most=some 63)(hdf:d.params.defaults=[])
 (hY:∀(w:World) (h:Heap),YP w h->(K w.params).In h)
 (F:∀(w:World) (mg:Str->Option Value) (fa:Addr) (h:Heap),(K w.params).In h->h.Ns mainGlobals mg->mg d.name=some (.ref fa)->
  ∃fd:FuncData,(∀(s:Shared) (u:Value),BindsTo s fd ⟨[u],[]⟩ [("script",u)])/\∀base:Heap,(K w.params).In base->base.Ns mainGlobals mg->FnOk l.prog w (K w.params) mg base CX0 Ymy fa fd ["script"] (spOf (K w.params) 1 Ypw)) :
 W.WalkO q loose XP YP l.row.toRowW d [] (fun f vs=>PySem.call f vs):=
 L2.walk_of (n:=63) (k:=Ymy) (x:="script") (CX:=fun _=>CX0) (sp:=fun w=>spOf (K w.params) 1 Ypw) hn (by decide) hdf ⟨rfl,by decide,by decide⟩ hY F
  (fun w H a ns hl _ hS=>⟨rfl,[.scr ns],.bl true,H,Same.refl H,.one (by rw[Rp];exact⟨a,rfl,hS⟩),hlaw ns hl,fun v H' G' g r=>by rw[Rp]at r;exact r⟩) fun _ _ _ _ _ z=>z
end Lw
namespace Lw
open PySem L2 M Bk
theorem y5t(ns:List Int)(k:Nat):Ydb [.scr ns,.int k]=some (.int (ns.getD k 0)):=by
 rw[Ydb,Ybg (by rfl)]
 by_cases h:k < ns.length
 ·have e:atI (ns.map D.int) (k:Int)=some (.int ns[k]):=by
   rw[Yud,Yxz h]
   rfl
  simp[Yi2,Yl,h,e]
 ·simp[Yi2,Yl,h]
theorem Yrj(ns:List Int)(k:Nat)(i:Int)(hi:i=(k:Int)):Ydb [.scr ns,.int i]=some (.int (ns.getD k 0)):=by
 subst hi
 exact y5t ns k
end Lw
namespace Lw
open PySem L2 M Bk
end Lw
namespace Lw
open PySem L2 M Bk
theorem Yvt(c m:Int):∃v:Int,0<=v/\Ydc [.int c,.int m]=some (.int v):=by
 refine⟨c % 2305843009213693951 * m % 2305843009213693951,Int.emod_nonneg _ (by decide),?_⟩
 rw[Ydc,Ybg (by rfl)]
 have h1:0<=c % 2305843009213693951:=Int.emod_nonneg _ (by decide)
 have h2:c % 2305843009213693951 < 2305843009213693951:=Int.emod_lt_of_pos _ (by decide)
 have h3:mulI (.int (c % 2305843009213693951)) (.int m)=some (.int (c % 2305843009213693951 * m)):=Yjp ⟨by lia,by lia⟩
 simp[Ykp,Yl,h3]
end Lw
namespace Lw
open PySem L2 M Bk
end Lw
namespace Lw
open PySem L2 M Bk
section
variable {τ:Type} {f g:Ro->τ->Option (OutW τ)} {ρ ρ':Ro} {t t':τ}
theorem Ya3(h:f ρ t=some (.nx ρ' t')):seqW f g ρ t=g ρ' t':=by
 unfold seqW
 rw[h]
 rfl
theorem Ydj{f:Ro->Option Out}(h:f ρ=some (.nx ρ')):Ydl f ρ t=some (.nx ρ' t):=by
 unfold Ydl
 rw[h]
 rfl
theorem Yeo{f:Ro->Option Out}{d:D}(h:f ρ=some (.rt d)):Ydl f ρ t=some (.rt d t):=by
 unfold Ydl
 rw[h]
 rfl
theorem Ypx{c:Ro->τ->Option Bool}(h:c ρ t=some true):ifW c f g ρ t=f ρ t:=by
 unfold ifW
 rw[h]
 rfl
theorem Yok{c:Ro->τ->Option Bool}(h:c ρ t=some false):ifW c f g ρ t=g ρ t:=by
 unfold ifW
 rw[h]
 rfl
theorem Ymz{gt:D->Ro->Option Ro}{fb:Ro->τ->Option (OutW τ)}{α:Type}(enc:α->D)(I:List α->Ro->τ->Prop):∀(l pre:List α) (ρ:Ro) (t:τ),I pre ρ t->
 (∀q a r ρ t,pre++l=q++a::r->I q ρ t->∃ρ1 ρ2 t2,gt (enc a) ρ=some ρ1/\fb ρ1 t=some (.nx ρ2 t2)/\I (q++[a]) ρ2 t2)->∃ρ' t',forW gt fb (l.map enc) ρ t=some (.nx ρ' t')/\I (pre++l) ρ' t'
 | [],pre,ρ,t,h0,_=>⟨ρ,t,rfl,by rw[Qf];exact h0⟩
 | a::l,pre,ρ,t,h0,hs=>by
   obtain⟨ρ1,ρ2,t2,e1,e2,h2⟩:=hs pre a l ρ t rfl h0
   obtain⟨ρ',t',e3,h3⟩:=Ymz enc I l (pre++[a]) ρ2 t2 h2 fun q b r ρ t e hI=>hs q b r ρ t (by rw[<-e,Qc];rfl) hI
   refine⟨ρ',t',?_,by rw[Qc]at h3;exact h3⟩
   rw[qz,forW,e1,qd,e2,qd]
   exact e3
end
theorem Ycb{τ:Type}{l i:Nat}{f:TeV τ}{ρ:Ro}{t:τ}(h:ρ[i]?=some (some (.sh (.adr l)))):y3 l i f ρ t=f ρ t:=by
 unfold y3
 rw[h]
 exact if_pos rfl
theorem Yc3{τ:Type}{ga:Ro->Option (List D)}{g:List D->τ->Option (D × τ)}{ρ:Ro}{ds:List D}{t:τ}(h:ga ρ=some ds):Yau ga g ρ t=g ds t:=by
 unfold Yau
 rw[h]
 rfl
theorem Ydf{τ:Type}{i:Nat}{f:TeV τ}{ρ:Ro}{t t':τ}{d:D}(h:f ρ t=some (d,t')):setE i f ρ t=some (.nx (ρ.set i (some (.sh d))) t'):=by
 unfold setE
 rw[h]
 rfl
theorem Yef{τ:Type}{f:TeV τ}{ρ:Ro}{t t':τ}{d:D}(h:f ρ t=some (d,t')):retE f ρ t=some (.rt d t'):=by
 unfold retE
 rw[h]
 rfl
theorem Yas{τ:Type}{f:Ro->Option D}{ρ:Ro}{t:τ}{d:D}(h:f ρ=some d):Ycp f ρ t=some (d,t):=by
 unfold Ycp
 rw[h]
 rfl
theorem Yvu{τ:Type}{fa fb:TeV τ}{g:D->D->Option D}{ρ:Ro}{t t1 t2:τ}{a b d:D}(h1:fa ρ t=some (a,t1))(h2:fb ρ t1=some (b,t2))(h3:g a b=some d):binE fa fb g ρ t=some (d,t2):=by
 unfold binE
 rw[h1]
 show(fb ρ t1).bind _=_
 rw[h2]
 show(g a b).map _=_
 rw[h3]
 rfl
theorem Yv{τ:Type}{fa:TeV τ}{fb:TaV τ}{ρ:Ro}{t t1 t2:τ}{a:D}{l:List D}(h1:fa ρ t=some (a,t1))(h2:fb ρ t1=some (l,t2)):Yax fa fb ρ t=some (a::l,t2):=by
 unfold Yax
 rw[h1]
 show(fb ρ t1).map _=_
 rw[h2]
 rfl
theorem Yew{τ:Type}{f:TaV τ}{ρ:Ro}{t t1:τ}{l:List D}(h:f ρ t=some (l,t1))(hl:l.length<=1000000):tupE f ρ t=some (.tup l,t1):=by
 unfold tupE
 rw[h]
 exact if_pos hl
theorem Ypy{τ:Type}{f g:Ro->τ->Option (OutW τ)}{ρ:Ro}{t t':τ}{d:D}(h:f ρ t=some (.rt d t')):seqW f g ρ t=some (.rt d t'):=by
 unfold seqW
 rw[h]
 rfl
theorem Yvv(t:List Int):∃(v:Int) (t':List Int),0<=v/\Yb1 [] t=some (.int v,t'):=by
 cases ht:t.getLast? with
 | none=>
   have h0:t=[]:=List.getLast?_eq_none_iff.mp ht
   subst h0
   refine⟨0,[],Int.le_refl _,Ye9 fun l=>?_⟩
   have hst:Yl 1 [.adr l]=[some (.sh (.adr l))]:=rfl
   rw[hst]
   unfold Yi3
   rw[Ya3 (ρ':=[some (.sh (.adr l))]) (t':=[])]
   ·rfl
   ·rw[Yok]
    ·rfl
    ·unfold Yyc thT
     show(if l=l then _ else none).bind _=_
     rw[if_pos rfl]
     rfl
 | some k=>
   obtain⟨v,hv0,hv⟩:=Yvt k 2049848353892358983
   refine⟨v,t.dropLast,hv0,Ye9 fun l=>?_⟩
   have hne:t≠[]:=fun z=>by rw[z]at ht;cases ht
   have hpos:(0:Int) < (t.length:Int):=by
    have:=List.length_pos_iff.mpr hne
    lia
   have hst:Yl 1 [.adr l]=[some (.sh (.adr l))]:=rfl
   rw[hst]
   unfold Yi3
   rw[Ypy (d:=.int v) (t':=t.dropLast)]
   rw[Ypx]
   ·refine Yef ?_
    unfold Yfr
    rw[Yv (a:=.int k) (t1:=t.dropLast) (l:=[.int 2049848353892358983]) (t2:=t.dropLast)]
    ·show(Ydc [.int k,.int 2049848353892358983]).map _=_
     rw[hv]
     rfl
    ·unfold popE
     show(if l=l then (t.getLast?).map _ else none)=_
     rw[if_pos rfl,ht]
     rfl
    ·exact Yv (Yas rfl) rfl
   ·unfold Yyc thT
    show(if l=l then some [some (B.sh (.lst (t.map D.int)))]else none).bind _=_
    rw[if_pos rfl,qd]
    simp[hpos,List.length_pos_iff.mpr hne]
theorem Yvw(most:Int)(hm:most=200\/most=66)(t:List Int):∃(m:Nat) (t':List Int),m<=200/\Ye3 [.int most] t=some (.int (m:Int),t'):=by
 obtain⟨v,t',hv0,hv⟩:=Yvv t
 have hsub:subI (.int most) (.int 59)=some (.int (most - 59)):=by simp
 have h0:(0:Int) < most - 59:=by lia
 obtain⟨m,hm200,hmm⟩:∃m:Nat,m<=200/\(if v / 6 % 8=1 then 60+v / 48 % (most - 59)else v % 6)=(m:Int):=by
  have b1:=Int.emod_nonneg (v / 48) (show most - 59≠0 by lia)
  have b2:=Int.emod_lt_of_pos (v / 48) h0
  by_cases h:v / 6 % 8=1
  ·rw[if_pos h]
   exact⟨(60+v / 48 % (most - 59)).toNat,by lia,by lia⟩
  ·rw[if_neg h]
   exact⟨(v % 6).toNat,by lia,by lia⟩
 refine⟨m,t',hm200,Ye9 fun l=>?_⟩
 have hst:Yl 3 [.adr l,.int most]=[some (.sh (.adr l)),some (.sh (.int most)),none]:=rfl
 rw[hst]
 unfold Ylz
 rw[Ya3 (Ydf (d:=.int v) (t':=t') ((Ycb rfl).trans ((Yc3 (ds:=[]) rfl).trans hv)))]
 unfold Yjh
 have hmod:modI (.int (v / 48)) (.int (most - 59))=some (.int (v / 48 % (most - 59))):=Ynx h0
 by_cases h:v / 6 % 8=1
 ·rw[if_pos h]at hmm
  refine Ypy (Yeo ?_)
  simp[h,hmod,hmm]
 ·rw[if_neg h]at hmm
  rw[Ya3 (Ydj (ρ':=[some (.sh (.adr l)),some (.sh (.int most)),some (.sh (.int v))]) (by simp[h]))]
  unfold Yjg
  refine Yeo ?_
  simp[hmm]
theorem Yvx(t:List Int)(k:Nat)(hk:k < 1000):∃(v:Int) (t':List Int),0<=v/\∀(l i:Nat) (ρ:Ro) (f:Ro->Option D),ρ[i]?=some (some (.sh (.adr l)))->f ρ=some (.int (7919 * k * k))->binE (y3 l i (Yau aNil Yb1)) (Ycp f) addI ρ t=some (.int v,t'):=by
 obtain⟨v,t',hv0,hv⟩:=Yvv t
 refine⟨v+7919 * k * k,t',?_,fun l i ρ f h1 h2=>?_⟩
 ·have:(0:Int)<=7919 * k * k:=by
   have h1:(0:Int)<=7919 * (k:Int):=by lia
   exact Int.mul_nonneg h1 (by lia)
  lia
 ·exact Yvu ((Ycb h1).trans ((Yc3 (ds:=[]) rfl).trans hv)) (Yas h2) (by simp)
theorem y5u{k:Nat}(hk:k < 1000)(c:Int)(hc:0<=c/\c < 10000):(mulI (.int c) (.int (k:Int))).bind (fun a=>mulI a (.int (k:Int)))=some (.int (c * (k:Int) * (k:Int))):=by
 have b1:0<=c * (k:Int):=Int.mul_nonneg hc.1 (by lia)
 have b2:c * (k:Int)<=10000 * 1000:=Int.mul_le_mul (by lia) (by lia) (by lia) (by lia)
 rw[Yjp ⟨by lia,by lia⟩,qd]
 exact Yjp ⟨by lia,by lia⟩
theorem y7q{k:Nat}{c:D}{d:D}{ρ:Ro}{i:Nat}(h:getC i ρ=some (.int (k:Int)))(h2:(mulI c (.int (k:Int))).bind (fun a=>mulI a (.int (k:Int)))=some d):b2 (b2 (kD c) (getC i) mulI) (getC i) mulI ρ=some d:=by
 unfold b2 kD
 rw[h]
 exact h2
theorem e_sq{k:Nat}(hk:k < 1000){ρ:Ro}{i:Nat}(h:getC i ρ=some (.int (k:Int))):b2 (b2 (kD (.int 7919)) (getC i) mulI) (getC i) mulI ρ=some (.int (7919 * (k:Int) * (k:Int))):=
 y7q h (y5u hk 7919 ⟨by decide,by decide⟩)
theorem Ym0{β:Type}{gt:D->Ro->Option Ro}{fb:Addr->TmM}{α:Type}(enc:α->D)(St:Addr->β->Ro->Prop)(I:List α->β->Prop):∀(l pre:List α) (b:β) (t:List Int),I pre b->
 (∀q a r b t,pre++l=q++a::r->I q b->∃b' t',I (q++[a]) b'/\∀x ρ,St x b ρ->∃ρ1 ρ2,gt (enc a) ρ=some ρ1/\fb x ρ1 t=some (.nx ρ2 t')/\St x b' ρ2)->
 ∃b' t',I (pre++l) b'/\∀x ρ,St x b ρ->∃ρ',forW gt (fb x) (l.map enc) ρ t=some (.nx ρ' t')/\St x b' ρ'
 | [],pre,b,t,h0,_=>⟨b,t,by rw[Qf];exact h0,fun x ρ h=>⟨ρ,rfl,h⟩⟩
 | a::l,pre,b,t,h0,hs=>by
   obtain⟨b1,t1,i1,h1⟩:=hs pre a l b t rfl h0
   obtain⟨b2,t2,i2,h2⟩:=Ym0 enc St I l (pre++[a]) b1 t1 i1 fun q b r c t e hI=>hs q b r c t (by rw[<-e,Qc];rfl) hI
   refine⟨b2,t2,by rw[Qc]at i2;exact i2,fun x ρ h=>?_⟩
   obtain⟨ρ1,ρ2,e1,e2,s2⟩:=h1 x ρ h
   obtain⟨ρ3,e3,s3⟩:=h2 x ρ2 s2
   refine⟨ρ3,?_,s3⟩
   rw[qz,forW,e1,qd,e2,qd]
   exact e3
theorem Yol{β α:Type}{gt:D->Ro->Option Ro}{fe:Addr->Te}{ρ:Addr->Ro}(enc:α->D)(en2:β->D)(P:β->Prop):∀(l:List α) (t:List Int),
 (∀a∈l,∀t,∃v t',P v/\∀x,∃ρ1,gt (enc a) (ρ x)=some ρ1/\fe x ρ1 t=some (en2 v,t'))->∃(vs:List β) (t':List Int),vs.length=l.length/\(∀v∈vs,P v)/\∀x,Yg9 gt (fe x) (ρ x) (l.map enc) t=some (vs.map en2,t')
 | [],t,_=>⟨[],t,rfl,fun _ h=>(nomatch h),fun _=>rfl⟩
 | a::l,t,h=>by
   obtain⟨v,t1,hv,h1⟩:=h a (.head _) t
   obtain⟨vs,t2,hl,hp,h2⟩:=Yol (fe:=fe) (ρ:=ρ) enc en2 P l t1 fun b hb=>h b (.tail _ hb)
   refine⟨v::vs,t2,by rw[qs,qs,hl],fun y hy=>?_,fun x=>?_⟩
   ·cases hy with
    | head=>exact hv
    | tail _ hy=>exact hp y hy
   ·obtain⟨ρ1,e1,e2⟩:=h1 x
    rw[qz,Yg9,e1,qd,e2,qd,h2 x]
    rfl
theorem Ypz{τ:Type}{f:TeV τ}{gt:D->Ro->Option Ro}{fb:TmV τ}{ρ:Ro}{t t':τ}{m:Nat}(hm:m<=1000)(h:f ρ t=some (.int (m:Int),t')):forE f gt fb ρ t=forW gt fb ((List.range m).map fun i=>D.int (0+(i:Nat))) ρ t':=by
 unfold forE
 rw[h]
 show(rng1 [.int (m:Int)]).bind _=_
 rw[Yph (by lia) (by lia),Ypg]
 rfl
theorem Yvy{τ:Type}{f:TeV τ}{src:List (Option Nat)}{gt:D->Ro->Option Ro}{fe:TeV τ}{ρ:Ro}{t t':τ}{m:Nat}(hm:m<=1000)(h:f ρ t=some (.int (m:Int),t')):Yn3 f src gt fe ρ t=Yg9 gt fe (capR src ρ) ((List.range m).map fun i=>D.int (0+(i:Nat))) t':=by
 unfold Yn3
 rw[h]
 show(rng1 [.int (m:Int)]).bind _=_
 rw[Yph (by lia) (by lia),Ypg]
 rfl
def OkN(B:Nat)(xs:List Nat):Prop:=xs.length<=200/\∀x∈xs,x < B
def OkR(r:List Say):Prop:=r.length<=200/\∀p∈r,p.1 < 60
theorem Ykt{v:Int}(b:Int)(h:0 < b):∃n:Nat,(n:Int) < b/\v % b=(n:Int):=
 ⟨(v % b).toNat,by have:=Int.emod_nonneg v (show b≠0 by lia);have:=Int.emod_lt_of_pos v h;lia,by have:=Int.emod_nonneg v (show b≠0 by lia);lia⟩
theorem Yz3(t:List Int):∃(r:List Say) (t':List Int),OkR r/\Ybj [] t=some (.tup (r.map sayD),t'):=by
 obtain⟨m,t1,hm,h1⟩:=Yvw 200 (.inl rfl) t
 obtain⟨r,t2,⟨hl,hr⟩,h2⟩:=Ym0 (gt:=gSet 2) (fb:=Ydd) (fun i:Nat=>D.int (0+(i:Nat))) (fun x (r:List Say) ρ=>∃y z,ρ=[some (.sh (.adr x)),some (.ow (r.map sayD)),y,z])
  (fun pre r=>r.length=pre.length/\∀p∈r,p.1 < 60) (List.range m) [] [] t1 ⟨rfl,fun _ h=>(nomatch h)⟩ (by
   rintro q a rest r t e ⟨hl,hr⟩
   have hlen:q.length < 200:=by
    have:=congrArg List.length e
    simp at this
    lia
   have ha:a < 1000:=by
    have:a∈List.range m:=by
     have e':List.range m=q++a::rest:=e
     rw[e']
     simp
    have:=List.mem_range.mp this
    lia
   obtain⟨v,t2,hv0,hv⟩:=Yvx t a ha
   obtain⟨n,hn,en⟩:=Ykt (v:=v) 60 (by lia)
   refine⟨r++[(n,decide (v / 60 % 2=1))],t2,⟨by simp[hl],fun p hp=>?_⟩,fun x ρ=>?_⟩
   ·rcases qv hp with hp | hp
    ·exact hr p hp
    ·simp at hp
     subst hp
     show n < 60
     lia
   ·rintro⟨y,z,rfl⟩
    refine⟨_,_,rfl,?_,some (.sh (.int (0+(a:Int)))),some (.sh (.int v)),rfl⟩
    unfold Ydd
    rw[Ya3 (Ydf (hv x 0 _ _ rfl (e_sq ha (by simp[gSet]))))]
    refine Ydj ?_
    have hcap:r.length < 1000000:=by lia
    simp[gSet,en,appD,hcap,sayD])
 rw[Qh,List.length_range]at hl
 refine⟨r,t2,⟨by lia,hr⟩,Ye9 fun x=>?_⟩
 have hst:Yl 4 [.adr x]=[some (.sh (.adr x)),none,none,none]:=rfl
 rw[hst]
 unfold Ygx
 rw[Ya3 (Ydj (ρ':=[some (.sh (.adr x)),some (.ow []),none,none]) (by simp))]
 unfold Yfk
 obtain⟨ρ',e,y,z,rfl⟩:=h2 x [some (.sh (.adr x)),some (.ow []),none,none] ⟨none,none,rfl⟩
 rw[Ya3 (t':=t2) (ρ':=[some (.sh (.adr x)),some (.ow (r.map sayD)),y,z])]
 ·unfold Yfj
  refine Yeo ?_
  simp
 ·rw[Ypz (m:=m) (t':=t1) (by lia) ((Ycb rfl).trans ((Yc3 (ds:=[.int 200]) rfl).trans h1))]
  exact e
theorem Yf8(B:Nat)(h0:0 < B)(t:List Int):∃(xs:List Nat) (t':List Int),OkN B xs/\Yaq [.int (B:Int)] t=some (.tup (xs.map nD),t'):=by
 obtain⟨m,t1,hm,e1⟩:=Yvw 200 (.inl rfl) t
 obtain⟨xs,t2,hl,hx,h2⟩:=Yol (gt:=gSet 0) (fe:=Ydt) (ρ:=fun x=>[none,some (.sh (.adr x)),some (.sh (.int (B:Int)))]) (fun i:Nat=>D.int (0+(i:Nat))) nD (fun n=>n < B) (List.range m) t1 (by
  intro a ha t
  have ha:=List.mem_range.mp ha
  obtain⟨v,t2,hv0,hv⟩:=Yvx t a (by lia)
  obtain⟨n,hn,en⟩:=Ykt (v:=v) (B:Int) (by lia)
  refine⟨n,t2,by lia,fun x=>⟨_,rfl,?_⟩⟩
  have hmod:modI (.int v) (.int (B:Int))=some (.int (v % (B:Int))):=Ynx (by lia)
  rw[en]at hmod
  exact Yvu (hv x 1 _ _ rfl (e_sq (k:=a) (by lia) (by simp[gSet]))) (Yas rfl) hmod)
 rw[List.length_range]at hl
 refine⟨xs,t2,⟨by lia,hx⟩,Ye9 fun x=>?_⟩
 have hst:Yl 2 [.adr x,.int (B:Int)]=[some (.sh (.adr x)),some (.sh (.int (B:Int)))]:=rfl
 rw[hst]
 unfold Ye4
 refine Yef (Yew ?_ (by rw[qf];lia))
 rw[Yvy (m:=m) (t':=t1) (by lia) ((Ycb rfl).trans ((Yc3 (ds:=[.int 200]) rfl).trans e1))]
 exact h2 x
theorem Yc6(neg:Bool)(a b:Str):eqM neg (.str a) (.str b)=some (if neg then !decide (a=b)else decide (a=b)):=by
 rw[Yuc (by simp) (by simp),y10]
 by_cases h:a=b<;>cases neg<;>simp[h]
def nm:Fin 9->Str
 | 0=>Str.ofString "broken" | 1=>Str.ofString "clash" | 2=>Str.ofString "cross" | 3=>Str.ofString "late" | 4=>Str.ofString "odd" | 5=>Str.ofString "lone" | 6=>Str.ofString "plan" | 7=>Str.ofString "sums" | 8=>Str.ofString "rows"
@[simp] theorem nm0:Str.ofString "broken"=nm 0:=nrT rfl
@[simp] theorem nm1:Str.ofString "clash"=nm 1:=nrT rfl
@[simp] theorem nm2:Str.ofString "cross"=nm 2:=nrT rfl
@[simp] theorem nm3:Str.ofString "late"=nm 3:=nrT rfl
@[simp] theorem nm4:Str.ofString "odd"=nm 4:=nrT rfl
@[simp] theorem nm5:Str.ofString "lone"=nm 5:=nrT rfl
@[simp] theorem nm6:Str.ofString "plan"=nm 6:=nrT rfl
@[simp] theorem nm7:Str.ofString "sums"=nm 7:=nrT rfl
@[simp] theorem nm8:Str.ofString "rows"=nm 8:=nrT rfl
theorem y5v:∀i j,nm i=nm j->i=j:=by decide +kernel
@[simp] theorem eqM_nm(neg:Bool)(i j:Fin 9):eqM neg (.str (nm i)) (.str (nm j))=some (if neg then !decide (i=j)else decide (i=j)):=by
 rw[Yc6]
 by_cases h:i=j
 ·simp[h]
 ·have:¬nm i=nm j:=fun e=>h (y5v i j e)
  simp[h,this]
inductive K3 | pl | su | ro
abbrev Rw:=Nat × Option Nat × List Nat × Bool
def kW:K3->Str
 | .pl=>nm 6 | .su=>nm 7 | .ro=>nm 8
def rwD:K3->Rw->D
 | .pl,(a,s,_,b)=>.tup [nD a,optD s,.bl b]
 | .su,(a,_,xs,b)=>.tup [nD a,.tup (xs.map nD),.bl b]
 | .ro,(a,_,xs,_)=>.tup [nD a,.tup (xs.map nD)]
def OkRw(r:Rw):Prop:=r.1 < 60/\(∀x,r.2.1=some x->x < 60)/\OkN 60 r.2.2.1
def OkRs(rs:List Rw):Prop:=rs.length<=200/\∀r∈rs,OkRw r
theorem Yz4(v w:Int):∃s:Option Nat,(∀x,s=some x->x < 60)/\atI [.non,.int (v % 60)] (w % 2)=some (optD s):=by
 have h2:w % 2=0\/w % 2=1:=by lia
 rcases h2 with h | h
 ·exact⟨none,fun x hx=>(nomatch hx),by rw[h];rfl⟩
 ·obtain⟨n,hn,en⟩:=Ykt (v:=v) 60 (by lia)
  refine⟨some n,fun x hx=>?_,by rw[h,en];rfl⟩
  cases hx
  lia
theorem Yi6{τ:Type}{i:Nat}{f:TeV τ}{ρ:Ro}{t t':τ}{d:D}{xs:List D}(h1:getO i ρ=some xs)(hl:xs.length < 1000000)(h2:f ρ t=some (d,t')):appE i f ρ t=some (.nx (ρ.set i (some (.ow (xs++[d])))) t'):=by
 unfold appE
 rw[h1,qd,if_pos hl,h2]
 rfl
theorem y7r(k:K3)(t:List Int)(a:Nat)(ha:a < 1000):∃(r:Rw) (t':List Int),OkRw r/\∀x (l:List D) z,l.length < 1000000->∃z',Yba x [some (.sh (.adr x)),some (.sh (.str (kW k))),some (.ow l),some (.sh (.int (0+(a:Nat)))),z] t=some (.nx [some (.sh (.adr x)),some (.sh (.str (kW k))),some (.ow (l++[rwD k r])),some (.sh (.int (0+(a:Nat)))),z'] t'):=by
 obtain⟨v,t2,hv0,hv⟩:=Yvx t a ha
 obtain⟨n,hn,en⟩:=Ykt (v:=v) 60 (by lia)
 cases k with
 | pl=>
   obtain⟨s,hs,es⟩:=Yz4 (v / 60) (v / 3600)
   refine⟨(n,s,[],decide (v / 7200 % 2=1)),t2,⟨by show n < 60;lia,hs,Nat.zero_le _,fun _ h=>(nomatch h)⟩,fun x l z hl=>⟨some (.sh (.int v)),?_⟩⟩
   unfold Yba
   rw[Ya3 (Ydf (hv x 0 _ _ rfl (e_sq ha (by simp))))]
   rw[Ypx (by simp[kW])]
   refine Ydj ?_
   simp[en,es,appD,hl,rwD]
 | su=>
   obtain⟨xs,t3,hx,h3⟩:=Yf8 60 (by lia) t2
   refine⟨(n,none,xs,decide (v / 7200 % 2=1)),t3,⟨by show n < 60;lia,fun _ h=>(nomatch h),hx⟩,fun x l z hl=>⟨some (.sh (.int v)),?_⟩⟩
   unfold Yba
   rw[Ya3 (Ydf (hv x 0 _ _ rfl (e_sq ha (by simp))))]
   rw[Yok (by simp[kW]),Ypx (by simp[kW])]
   exact Yi6 rfl hl (Yew (l:=[.int n,.tup (xs.map nD),.bl (decide (v / 7200 % 2=1))]) (Yv (Yas (by simp[en])) (Yv ((Ycb rfl).trans ((Yc3 (ds:=[.int 60]) rfl).trans h3)) (Yv (Yas (by simp)) rfl))) (by simp))
 | ro=>
   obtain⟨xs,t3,hx,h3⟩:=Yf8 60 (by lia) t2
   refine⟨(n,none,xs,false),t3,⟨by show n < 60;lia,fun _ h=>(nomatch h),hx⟩,fun x l z hl=>⟨some (.sh (.int v)),?_⟩⟩
   unfold Yba
   rw[Ya3 (Ydf (hv x 0 _ _ rfl (e_sq ha (by simp))))]
   rw[Yok (by simp[kW]),Yok (by simp[kW])]
   exact Yi6 rfl hl (Yew (l:=[.int n,.tup (xs.map nD)]) (Yv (Yas (by simp[en])) (Yv ((Ycb rfl).trans ((Yc3 (ds:=[.int 60]) rfl).trans h3)) rfl)) (by simp))
theorem Yvz(k:K3)(t:List Int):∃(rs:List Rw) (t':List Int),OkRs rs/\Ycj [.str (kW k)] t=some (.tup (rs.map (rwD k)),t'):=by
 obtain⟨m,t1,hm,h1⟩:=Yvw 66 (.inr rfl) t
 obtain⟨r,t2,⟨hl,hr⟩,h2⟩:=Ym0 (gt:=gSet 3) (fb:=Yba) (fun i:Nat=>D.int (0+(i:Nat))) (fun x (r:List Rw) ρ=>∃y z,ρ=[some (.sh (.adr x)),some (.sh (.str (kW k))),some (.ow (r.map (rwD k))),y,z])
  (fun pre r=>r.length=pre.length/\∀p∈r,OkRw p) (List.range m) [] [] t1 ⟨rfl,fun _ h=>(nomatch h)⟩ (by
   rintro q a rest r t e ⟨hl,hr⟩
   have hlen:q.length < 200:=by
    have:=congrArg List.length e
    simp at this
    lia
   have ha:a < 1000:=by
    have:a∈List.range m:=by
     have e':List.range m=q++a::rest:=e
     rw[e']
     simp
    have:=List.mem_range.mp this
    lia
   obtain⟨w,t2,hw,h⟩:=y7r k t a ha
   refine⟨r++[w],t2,⟨by simp[hl],fun p hp=>?_⟩,fun x ρ=>?_⟩
   ·rcases qv hp with hp | hp
    ·exact hr p hp
    ·simp at hp
     subst hp
     exact hw
   ·rintro⟨y,z,rfl⟩
    obtain⟨z',hz⟩:=h x (r.map (rwD k)) z (by rw[qf];lia)
    refine⟨_,_,rfl,hz,_,z',by rw[Qi];rfl⟩)
 rw[Qh,List.length_range]at hl
 refine⟨r,t2,⟨by lia,hr⟩,Ye9 fun x=>?_⟩
 have hst:Yl 5 [.adr x,.str (kW k)]=[some (.sh (.adr x)),some (.sh (.str (kW k))),none,none,none]:=rfl
 rw[hst]
 unfold Ygy
 rw[Ya3 (Ydj (ρ':=[some (.sh (.adr x)),some (.sh (.str (kW k))),some (.ow []),none,none]) (by simp))]
 unfold Yfm
 obtain⟨ρ',e,y,z,rfl⟩:=h2 x [some (.sh (.adr x)),some (.sh (.str (kW k))),some (.ow []),none,none] ⟨none,none,rfl⟩
 rw[Ya3 (t':=t2) (ρ':=[some (.sh (.adr x)),some (.sh (.str (kW k))),some (.ow (r.map (rwD k))),y,z])]
 ·unfold Yfl
  refine Yeo ?_
  simp
 ·rw[Ypz (m:=m) (t':=t1) (by lia) ((Ycb rfl).trans ((Yc3 (ds:=[.int 66]) rfl).trans h1))]
  exact e
inductive Pa
 | br
 | cl (late:Bool) (a b:List Say)
 | cr (a:List Say)
 | od (a:List Nat)
 | lo (s:Option Nat) (a b:List Nat)
 | pl (k:K3) (h:k≠.ro) (rs:List Rw)
 | ro (a:List Nat) (rs:List Rw)
def paN:Pa->Str
 | .br=>nm 0
 | .cl false _ _=>nm 1
 | .cl true _ _=>nm 3
 | .cr _=>nm 2
 | .od _=>nm 4
 | .lo _ _ _=>nm 5
 | .pl k _ _=>kW k
 | .ro _ _=>nm 8
def numsD(a:List Nat):D:=.tup (a.map nD)
def Ygn(a:List Say):D:=.tup (a.map sayD)
def paL:Pa->List D
 | .br=>[]
 | .cl _ a b=>[Ygn a,Ygn b]
 | .cr a=>[Ygn a]
 | .od a=>[numsD a]
 | .lo s a b=>[optD s,numsD a,numsD b]
 | .pl k _ rs=>[.tup (rs.map (rwD k))]
 | .ro a rs=>[numsD a,.tup (rs.map (rwD .ro))]
def paD(p:Pa):D:=.tup (.str (paN p)::paL p)
def OkPa:Pa->Prop
 | .br=>True
 | .cl _ a b=>OkR a/\OkR b
 | .cr a=>OkR a
 | .od a=>OkN 201 a
 | .lo s a b=>(∀x,s=some x->x < 60)/\OkN 201 a/\OkN 201 b
 | .pl _ _ rs=>OkRs rs
 | .ro a rs=>OkN 60 a/\OkRs rs
theorem y2s(v:Int):∃i:Fin 9,atI [D.str (nm 0),.str (nm 1),.str (nm 2),.str (nm 3),.str (nm 4),.str (nm 5),.str (nm 6),.str (nm 7),.str (nm 8)] (v % 9)=some (.str (nm i)):=by
 obtain⟨n,hn,en⟩:=Ykt (v:=v) 9 (by lia)
 rw[en]
 have h9:n < 9:=by lia
 have:∀n:Fin 9,∃i:Fin 9,atI [D.str (nm 0),.str (nm 1),.str (nm 2),.str (nm 3),.str (nm 4),.str (nm 5),.str (nm 6),.str (nm 7),.str (nm 8)] (n.1:Int)=some (.str (nm i)):=by
  intro n
  refine⟨n,?_⟩
  match n with
  | 0=>rfl
  | 1=>rfl
  | 2=>rfl
  | 3=>rfl
  | 4=>rfl
  | 5=>rfl
  | 6=>rfl
  | 7=>rfl
  | 8=>rfl
 exact this ⟨n,h9⟩
section
variable {τ:Type} {f g:Ro->τ->Option (OutW τ)} {c:Ro->τ->Option Bool} {ρ:Ro} {t t':τ} {d:D}
theorem Yp0(h:c ρ t=some false):seqW (ifW c f nilW) g ρ t=g ρ t:=Ya3 (Yok h)
theorem Yp1(h:c ρ t=some true)(h2:f ρ t=some (.rt d t')):seqW (ifW c f nilW) g ρ t=some (.rt d t'):=Ypy ((Ypx h).trans h2)
end
theorem Ylg{x:Addr}{ρ:Ro}{t t':List Int}{d:D}{ga:Ro->Option (List D)}{ds:List D}{g:List D->List Int->Option (D × List Int)}(h0:ρ[0]?=some (some (.sh (.adr x))))(h1:ga ρ=some ds)(h2:g ds t=some (d,t')):y3 x 0 (Yau ga g) ρ t=some (d,t'):=
 (Ycb h0).trans ((Yc3 h1).trans h2)
abbrev aR(x:Addr)(v:Int)(i:Fin 9):Ro:=[some (.sh (.adr x)),some (.sh (.int v)),some (.sh (.str (nm i))),none,none,none]
theorem y2t{t t1:List Int}{v:Int}{i:Fin 9}(hv:Yb1 [] t=some (.int v,t1))(hi:atI [D.str (nm 0),.str (nm 1),.str (nm 2),.str (nm 3),.str (nm 4),.str (nm 5),.str (nm 6),.str (nm 7),.str (nm 8)] (v % 9)=some (.str (nm i)))(x:Addr) :
 Yks x (Yl 6 [.adr x]) t=Yed x (aR x v i) t1:=by
 unfold Yks
 rw[Ya3 (Ydf (Ylg rfl rfl hv))]
 unfold Ykr
 refine Ya3 (Ydj ?_)
 simp[Yl,hi]
theorem y5w{t t1 t':List Int}{v:Int}{i:Fin 9}{p:Pa}(hv:Yb1 [] t=some (.int v,t1))(hi:atI [D.str (nm 0),.str (nm 1),.str (nm 2),.str (nm 3),.str (nm 4),.str (nm 5),.str (nm 6),.str (nm 7),.str (nm 8)] (v % 9)=some (.str (nm i)))
 (h:∀x,Yed x (aR x v i) t1=some (.rt (paD p) t')):Yf5 [] t=some (paD p,t'):=Ye9 fun x=>(y2t hv hi x).trans (h x)
theorem Yp2{x:Addr}{v:Int}{i:Fin 9}{t:List Int}(h:i≠1)(h':i≠3):Yed x (aR x v i) t=Yhi x (aR x v i) t:=Yp0 (by simp[h,h'])
theorem Ysw{x:Addr}{v:Int}{i:Fin 9}{t:List Int}(h:i≠2):Yhi x (aR x v i) t=Yhh x (aR x v i) t:=Yp0 (by simp[h])
theorem Yv0{x:Addr}{v:Int}{i:Fin 9}{t:List Int}(h:i≠4):Yhh x (aR x v i) t=Yhg x (aR x v i) t:=Yp0 (by simp[h])
theorem Yy5{x:Addr}{v:Int}{i:Fin 9}{t:List Int}(h:i≠5):Yhg x (aR x v i) t=Yfc x (aR x v i) t:=Yp0 (by simp[h])
theorem y5x{x:Addr}{v:Int}{i:Fin 9}{t:List Int}(h:i≠6)(h':i≠7):Yfc x (aR x v i) t=Yhf x (aR x v i) t:=Yp0 (by simp[h,h'])
theorem y7s{x:Addr}{v:Int}{i:Fin 9}{t:List Int}(h:i≠8):Yhf x (aR x v i) t=Ykq x (aR x v i) t:=Yp0 (by simp[h])
theorem Yz5{x:Addr}{v:Int}{i:Fin 9}{t t2 t3:List Int}{a b:List Say}(h:i=1\/i=3)(h2:Ybj [] t=some (Ygn a,t2))(h3:Ybj [] t2=some (Ygn b,t3)):Yed x (aR x v i) t=some (.rt (.tup [.str (nm i),Ygn a,Ygn b]) t3):=by
 refine Yp1 (by rcases h with rfl | rfl<;>simp) ?_
 rw[Ya3 (Ydf (Ylg rfl rfl h2))]
 exact Yef (Yew (Yv (Yas rfl) (Yv (Yas rfl) (Yv (Ylg rfl rfl h3) rfl))) (by simp))
theorem Yz6{x:Addr}{v:Int}{i:Fin 9}{t t2:List Int}{d:D}(h:i=6\/i=7)(h2:Ycj [.str (nm i)] t=some (d,t2)):Yfc x (aR x v i) t=some (.rt (.tup [.str (nm i),d]) t2):=by
 refine Yp1 (by rcases h with rfl | rfl<;>simp) ?_
 exact Yef (Yew (Yv (Yas rfl) (Yv (Ylg rfl rfl h2) rfl)) (by simp))
theorem y7t(t:List Int):∃(p:Pa) (t':List Int),OkPa p/\Yf5 [] t=some (paD p,t'):=by
 obtain⟨v,t1,hv0,hv⟩:=Yvv t
 obtain⟨i,hi⟩:=y2s v
 have go:=fun {p:Pa} {t':List Int}=>y5w (t':=t') (p:=p) hv hi
 obtain⟨ra,ta,oa,ea⟩:=Yz3 t1
 obtain⟨rb,tb,ob,eb⟩:=Yz3 ta
 obtain⟨na,sa,pa,fa⟩:=Yf8 201 (by lia) t1
 obtain⟨nb,sb,pb,fb⟩:=Yf8 201 (by lia) sa
 obtain⟨s,hs,es⟩:=Yz4 (v / 9) (v / 540)
 match i with
 | 0=>
   refine⟨.br,t1,trivial,go fun x=>?_⟩
   rw[Yp2 (by decide) (by decide),Ysw (by decide),Yv0 (by decide),Yy5 (by decide),y5x (by decide) (by decide),y7s (by decide)]
   refine Yeo ?_
   simp[paD,paN,paL]
 | 1=>exact⟨.cl false ra rb,tb,⟨oa,ob⟩,go fun x=>Yz5 (.inl rfl) ea eb⟩
 | 2=>
   refine⟨.cr ra,ta,oa,go fun x=>?_⟩
   rw[Yp2 (by decide) (by decide)]
   exact Yp1 (by simp) (Yef (Yew (Yv (Yas rfl) (Yv (Ylg rfl rfl ea) rfl)) (by simp[paL])))
 | 3=>exact⟨.cl true ra rb,tb,⟨oa,ob⟩,go fun x=>Yz5 (.inr rfl) ea eb⟩
 | 4=>
   refine⟨.od na,sa,pa,go fun x=>?_⟩
   rw[Yp2 (by decide) (by decide),Ysw (by decide)]
   exact Yp1 (by simp) (Yef (Yew (Yv (Yas rfl) (Yv (Ylg rfl rfl fa) rfl)) (by simp[paL])))
 | 5=>
   refine⟨.lo s na nb,sb,⟨hs,pa,pb⟩,go fun x=>?_⟩
   rw[Yp2 (by decide) (by decide),Ysw (by decide),Yv0 (by decide)]
   refine Yp1 (by simp) ?_
   rw[Ya3 (Ydf (Ylg rfl rfl fa))]
   exact Yef (Yew (Yv (Yas rfl) (Yv (Yas (d:=optD s) (by simp[es])) (Yv (Yas rfl) (Yv (Ylg rfl rfl fb) rfl)))) (by simp[paL]))
 | 6=>
   obtain⟨rs,tr,hr,er⟩:=Yvz .pl t1
   refine⟨.pl .pl (by simp) rs,tr,hr,go fun x=>?_⟩
   rw[Yp2 (by decide) (by decide),Ysw (by decide),Yv0 (by decide),Yy5 (by decide)]
   exact Yz6 (.inl rfl) er
 | 7=>
   obtain⟨rs,tr,hr,er⟩:=Yvz .su t1
   refine⟨.pl .su (by simp) rs,tr,hr,go fun x=>?_⟩
   rw[Yp2 (by decide) (by decide),Ysw (by decide),Yv0 (by decide),Yy5 (by decide)]
   exact Yz6 (.inr rfl) er
 | 8=>
   obtain⟨nc,sc,pc,fc⟩:=Yf8 60 (by lia) t1
   obtain⟨rs,tr,hr,er⟩:=Yvz .ro sc
   refine⟨.ro nc rs,tr,⟨pc,hr⟩,go fun x=>?_⟩
   rw[Yp2 (by decide) (by decide),Ysw (by decide),Yv0 (by decide),Yy5 (by decide),y5x (by decide) (by decide)]
   refine Yp1 (by simp) ?_
   rw[Ya3 (Ydf (Ylg rfl rfl fc))]
   exact Yef (Yew (Yv (Yas rfl) (Yv (Yas rfl) (Yv (Ylg rfl rfl er) rfl))) (by simp[paL]))
def num(b:Nat):Str:=Str.ofString (toString (b:Int))
theorem Ym1:∀b,b < 1000->(num b).length<=3:=by decide +kernel
theorem Yom{b:Nat}(h:b < 1000):strC [.int (b:Int)]=some (.str (num b)):=by
 rw[Yx4,if_pos (by lia)]
 rfl
theorem Yz7{a b:Str}(ha:a.length<=10)(hb:b.length<=10):addS (.str a) (.str b)=some (.str (a++b)):=by
 rw[Yx5,if_pos (by lia)]
theorem Yz8{sep:Str}{l:List D}{xs:List Str}(h:l=xs.map D.str)(hs:(xs.map fun x:Str=>sep.length+x.length).sum<=16000000):Yg8 sep [.lst l]=some (.str (Txt.join sep xs)):=by
 rw[Yui,h,Yhz,qd,if_pos (Yug hs)]
abbrev T(s:String):Str:=Str.ofString s
def sayW(s:Say):Str:=(if s.2=true then T "+" else T "-")++num s.1
def Ydq:Option Nat->Str
 | none=>T "none" | some b=>num b
def yesW(b:Bool):Str:=if b=true then T "yes" else T "no"
theorem lenPM:(T "+").length=1/\(T "-").length=1/\(T "none").length=4/\(T "yes").length=3/\(T "no").length=2/\(T " ").length=1:=by decide +kernel
theorem Yc7{a b:List D}(h:a.length+b.length<=1000000):catD (.lst a) (.lst b)=some (a++b):=if_pos h
def cntW{α:Type}(w:α->Str)(l:List α):List Str:=num l.length::l.map w
theorem Ym2{α:Type}{w:α->List Str}{B:Nat}:∀{l:List α},(∀a∈l,(w a).length<=B)->(l.flatMap w).length<=l.length * B
 | [],_=>by simp
 | a::l,h=>by
   have h1:=Ym2 (l:=l) fun b hb=>h b (.tail _ hb)
   have h2:=h a (.head _)
   rw[Qk,qw,qs,Nat.add_mul,Nat.one_mul]
   lia
theorem Yon{α:Type}(w:α->List Str)(l:List α)(a:α):(l++[a]).flatMap w=l.flatMap w++w a:=by simp
def Yby:K3->Rw->List Str
 | .pl,(a,s,_,b)=>[num a,Ydq s,yesW b]
 | .su,(a,_,xs,b)=>num a::(cntW num xs++[yesW b])
 | .ro,(a,_,xs,_)=>num a::cntW num xs
def Yht(k:K3)(rs:List Rw):List Str:=num rs.length::rs.flatMap (Yby k)
def paW:Pa->List Str
 | .br=>[]
 | .cl _ a b=>cntW sayW a++cntW sayW b
 | .cr a=>cntW sayW a
 | .od a=>cntW num a
 | .lo s a b=>Ydq s::(cntW num a++cntW num b)
 | .pl k _ rs=>Yht k rs
 | .ro a rs=>cntW num a++Yht .ro rs
theorem Ylh{neg:Bool}{ks:List Str}{f:Str}(h:f∈ks):inG neg ks (.str f)=some (!neg):=by
 show some (decide (f∈ks) != neg)=_
 rw[decide_eq_true h]
 cases neg<;>rfl
theorem Yli{neg:Bool}{ks:List Str}{f:Str}(h:¬f∈ks):inG neg ks (.str f)=some neg:=by
 show some (decide (f∈ks) != neg)=_
 rw[decide_eq_false h]
 cases neg<;>rfl
theorem lkG{kvs:List (Str × Str)}{f v:Str}(h:kvs.lookup f=some v):Yme kvs (.str f)=some (.str v):=by
 show(kvs.lookup f).map _=_
 rw[h]
 rfl
theorem lkA{kvs:List (Str × Addr)}{f:Str}{v:Addr}(h:kvs.lookup f=some v):Yd9 kvs (.str f)=some (.adr v):=by
 show(kvs.lookup f).map _=_
 rw[h]
 rfl
theorem fm_sev:T "road"∈y0/\T "places"∈y0/\T "beacons"∈y0/\gt_SEVERAL.lookup (T "road")=some (T "saying")/\gt_SEVERAL.lookup (T "places")=some (T "place")/\gt_SEVERAL.lookup (T "beacons")=some (T "beacon"):=by decide +kernel
theorem Ym3:∀f∈[T "truth",T "beacon",T "source"],¬f∈y0/\¬f∈Ycx:=by decide +kernel
theorem Ydr:∀f∈[T "plan rows",T "sum rows",T "if rows"],¬f∈y0/\f∈Ycx:=by decide +kernel
theorem fm_look:gt_ROWS.lookup (T "plan rows")=some 163/\gt_ROWS.lookup (T "sum rows")=some 164/\gt_ROWS.lookup (T "if rows")=some 165/\ktab.lookup 163=some [T "beacon",T "source",T "truth"]/\ktab.lookup 164=some [T "beacon",T "beacons",T "truth"]/\ktab.lookup 165=some [T "beacon",T "beacons"]:=by decide +kernel
theorem lt_k{n:Nat}(h:n < 60):n < 1000:=by lia
theorem fr_k{s:Option Nat}(h:∀x,s=some x->x < 60):∀x,s=some x->x < 1000:=fun x hx=>lt_k (h x hx)
theorem Yex{α:Type}{w:α->Str}{l:List α}(h:l.length<=200):(cntW w l).length<=201:=by
 rw[cntW,qs,qf]
 lia
theorem Yz9{k:K3}{r:Rw}(h:OkRw r):(Yby k r).length<=210:=by
 obtain⟨a,s,xs,b⟩:=r
 have:=Yex (w:=num) h.2.2.1
 cases k with
 | pl=>exact(by decide:3<=210)
 | su=>
   rw[Yby,qs,qw]
   show(cntW num xs).length+1+1<=210
   have h2:(cntW num xs).length<=201:=this
   lia
 | ro=>
   rw[Yby,qs]
   have h2:(cntW num xs).length<=201:=this
   lia
theorem Yii{k:K3}{rs:List Rw}(h:OkRs rs):(Yht k rs).length<=42001:=by
 have:=Ym2 (w:=Yby k) (B:=210) fun r hr=>Yz9 (h.2 r hr)
 have:=h.1
 rw[Yht,qs]
 lia
def paA:Pa->Addr
 | .br=>153
 | .cl false _ _=>154
 | .cl true _ _=>156
 | .cr _=>155
 | .od _=>157
 | .lo _ _ _=>158
 | .pl .pl _ _=>159
 | .pl _ _ _=>160
 | .ro _ _=>161
theorem Yfe:∀i:Fin 9,gt_PAPERS.lookup (nm i)=some (153+i.1):=by decide +kernel
theorem y0a:ktab.lookup 153=some []/\ktab.lookup 154=some [T "road",T "road"]/\ktab.lookup 155=some [T "road"]/\ktab.lookup 156=some [T "road",T "road"]/\ktab.lookup 157=some [T "places"]/\ktab.lookup 158=some [T "source",T "places",T "places"]/\ktab.lookup 159=some [T "plan rows"]/\ktab.lookup 160=some [T "sum rows"]/\ktab.lookup 161=some [T "beacons",T "if rows"]:=by decide +kernel
theorem y2u(p:Pa):Yd9 gt_PAPERS (.str (paN p))=some (.adr (paA p)):=by
 match p with
 | .br=>exact lkA (Yfe 0)
 | .cl false _ _=>exact lkA (Yfe 1)
 | .cl true _ _=>exact lkA (Yfe 3)
 | .cr _=>exact lkA (Yfe 2)
 | .od _=>exact lkA (Yfe 4)
 | .lo _ _ _=>exact lkA (Yfe 5)
 | .pl .pl _ _=>exact lkA (Yfe 6)
 | .pl .su _ _=>exact lkA (Yfe 7)
 | .pl .ro h _=>exact absurd rfl h
 | .ro _ _=>exact lkA (Yfe 8)
theorem Yp3{p:Pa}(h:OkPa p):(paW p).length<=50000:=by
 match p with
 | .br=>exact Nat.zero_le _
 | .cl _ a b=>
   have h1:=Yex (w:=sayW) h.1.1
   have h2:=Yex (w:=sayW) h.2.1
   rw[paW,qw]
   lia
 | .cr a=>exact qy (Yex h.1) (by lia)
 | .od a=>exact qy (Yex h.1) (by lia)
 | .lo s a b=>
   have h1:=Yex (w:=num) h.2.1.1
   have h2:=Yex (w:=num) h.2.2.1
   rw[paW,qs,qw]
   lia
 | .pl k _ rs=>exact qy (Yii (k:=k) h) (by lia)
 | .ro a rs=>
   have h1:=Yex (w:=num) h.1.1
   have h2:=Yii (k:=.ro) h.2
   rw[paW,qw]
   lia
def Sh(l:List Str):Prop:=∀x∈l,x.length<=10
theorem Sh.app{a b:List Str}(h:Sh a)(h':Sh b):Sh (a++b):=fun x hx=>(qv hx).elim (h x) (h' x)
theorem Sh.cons{x:Str}{b:List Str}(h:x.length<=10)(h':Sh b):Sh (x::b):=fun y hy=>by
 cases hy with
 | head=>exact h
 | tail _ hy=>exact h' y hy
theorem Yji{n:Nat}(h:n < 1000):(num n).length<=10:=qy (Ym1 n h) (by decide)
theorem y0b(b:Bool):(yesW b).length<=10:=by
 cases b
 ·exact qy (Nat.le_of_eq lenPM.2.2.2.2.1) (by decide)
 ·exact qy (Nat.le_of_eq lenPM.2.2.2.1) (by decide)
theorem Yv1{s:Option Nat}(h:∀x,s=some x->x < 1000):(Ydq s).length<=10:=by
 cases s with
 | none=>exact qy (Nat.le_of_eq lenPM.2.2.1) (by decide)
 | some b=>exact Yji (h b rfl)
theorem y5y{s:Say}(h:s.1 < 1000):(sayW s).length<=10:=by
 have:=Ym1 s.1 h
 have h1:=lenPM.1
 have h2:=lenPM.2.1
 rw[sayW,len_app]
 split<;>lia
theorem y0c{α:Type}{w:α->Str}{l:List α}(hl:l.length<=200)(h:∀a∈l,(w a).length<=10):Sh (cntW w l):=
 .cons (Yji (by lia)) fun x hx=>by
  obtain⟨a,ha,rfl⟩:=List.mem_map.mp hx
  exact h a ha
theorem Yv2:Sh []:=fun _ h=>(nomatch h)
theorem Yp4{a:List Say}(h:OkR a):Sh (cntW sayW a):=y0c h.1 fun p hp=>y5y (lt_k (h.2 p hp))
theorem Yi7{B:Nat}{a:List Nat}(h:OkN B a)(hB:B<=1000:=by decide):Sh (cntW num a):=y0c h.1 fun p hp=>Yji (by have:=h.2 p hp;lia)
theorem y7u{k:K3}{r:Rw}(h:OkRw r):Sh (Yby k r):=by
 obtain⟨a,s,xs,b⟩:=r
 cases k with
 | pl=>exact .cons (Yji (lt_k h.1)) (.cons (Yv1 (fr_k h.2.1)) (.cons (y0b b) Yv2))
 | su=>exact .cons (Yji (lt_k h.1)) ((Yi7 h.2.2).app (.cons (y0b b) Yv2))
 | ro=>exact .cons (Yji (lt_k h.1)) (Yi7 h.2.2)
theorem Yv3{k:K3}{rs:List Rw}(h:OkRs rs):Sh (Yht k rs):=.cons (Yji (by have:=h.1;lia)) fun x hx=>by
 obtain⟨r,hr,hx⟩:=List.mem_flatMap.mp hx
 exact y7u (h.2 r hr) x hx
theorem y2v{p:Pa}(h:OkPa p):Sh (paW p):=by
 match p with
 | .br=>exact Yv2
 | .cl _ a b=>exact(Yp4 h.1).app (Yp4 h.2)
 | .cr a=>exact Yp4 h
 | .od a=>exact Yi7 h
 | .lo s a b=>exact .cons (Yv1 (fr_k h.1)) ((Yi7 h.2.1).app (Yi7 h.2.2))
 | .pl k _ rs=>exact Yv3 h
 | .ro a rs=>exact(Yi7 h.1).app (Yv3 h.2)
theorem Yij:∀i,(nm i).length<=10:=by decide +kernel
theorem Yv4(p:Pa):(paN p).length<=10:=by
 match p with
 | .br=>exact Yij 0
 | .cl false _ _=>exact Yij 1
 | .cl true _ _=>exact Yij 3
 | .cr _=>exact Yij 2
 | .od _=>exact Yij 4
 | .lo _ _ _=>exact Yij 5
 | .pl .pl _ _=>exact Yij 6
 | .pl .su _ _=>exact Yij 7
 | .pl .ro h _=>exact absurd rfl h
 | .ro _ _=>exact Yij 8
theorem Yrk{s B:Nat}:∀{l:List Str},(∀x∈l,x.length<=B)->(l.map fun x:Str=>s+x.length).sum<=l.length * (s+B)
 | [],_=>by simp
 | x::l,h=>by
   have h1:=Yrk (s:=s) (l:=l) fun y hy=>h y (.tail _ hy)
   have h2:=h x (.head _)
   rw[qz,List.sum_cons,qs,Nat.add_mul,Nat.one_mul]
   lia
def paS(p:Pa):Str:=Txt.join (T " ") (paN p::paW p)
theorem y2w{p:Pa}(h:OkPa p){l:List D}(hl:l=(paN p::paW p).map D.str):Yg8 (T " ") [.lst l]=some (.str (paS p)):=by
 refine Yz8 hl ?_
 have h1:=Yrk (s:=(T " ").length) (B:=10) ((y2v h).cons (Yv4 p))
 have h2:=Yp3 h
 have h3:=lenPM.2.2.2.2.2
 rw[qs,h3]at h1
 rw[h3]
 lia
theorem Yb3{B:Nat}{a:List Nat}(h:OkN B a)(hB:B<=1000:=by decide):Yam [numsD a]=some (.lst ((cntW num a).map D.str)):=by
 rw[Yam,Ybg (by rfl)]
 have hc:=Yx1 (fe:=Yb9) (r:=[]) (enc:=nD) (fun x=>D.str (num x)) (l:=a) (fun x hx=>by
  have:=Yom (b:=x) (by have:=h.2 x hx;lia)
  simp[Yb9,this])
 have hl:=h.1
 have hn:=Yom (b:=a.length) (by lia)
 have hk:=Yc7 (a:=[.str (num a.length)]) (b:=a.map fun s=>D.str (num s)) (by simp;lia)
 simp[Yem,Yl,numsD,capR,hc,hn,hk,cntW,Function.comp_def]
theorem Yf9{a:List Say}(h:OkR a):Ybf [Ygn a]=some (.lst ((cntW sayW a).map D.str)):=by
 rw[Ybf,Ybg (by rfl)]
 have hc:=Yx1 (fe:=Ycq) (r:=[]) (enc:=sayD) (fun x=>D.str (sayW x)) (l:=a) (fun s hs=>by
  have h0:=Yom (lt_k (h.2 s hs))
  have hn:=Ym1 s.1 (lt_k (h.2 s hs))
  have h1:=Yz7 (a:=T "+") (b:=num s.1) (by rw[lenPM.1];decide) (by lia)
  have h2:=Yz7 (a:=T "-") (b:=num s.1) (by rw[lenPM.2.1];decide) (by lia)
  obtain⟨b,o⟩:=s
  cases o<;>simp[Ycq,sayD,h0,h1,h2,sayW])
 have hl:=h.1
 have hn:=Yom (b:=a.length) (by lia)
 have hk:=Yc7 (a:=[.str (num a.length)]) (b:=a.map fun s=>D.str (sayW s)) (by simp;lia)
 simp[Yfn,Yl,Ygn,capR,hc,hn,hk,cntW,Function.comp_def]
theorem Yku{s:Option Nat}(h:∀x,s=some x->x < 1000):Yca [optD s]=some (.str (Ydq s)):=by
 rw[Yca,Ybg (by rfl)]
 cases s with
 | none=>simp[Yee,Yl,optD,Ydq]
 | some b=>
   have:=Yom (h b rfl)
   simp[Yee,Yl,optD,Ydq,this]
@[simp] theorem at2(a b c:D):atI [a,b,c] 2=some c:=nrT rfl
@[simp] theorem at2'(a b c d:D):atI [a,b,c,d] 2=some c:=nrT rfl
@[simp] theorem at3(a b c d:D):atI [a,b,c,d] 3=some d:=nrT rfl
theorem Yga{k:K3}{rs:List Rw}(h:OkRs rs):Yb0 [.str (kW k),.tup (rs.map (rwD k))]=some (.lst ((Yht k rs).map D.str)):=by
 rw[Yb0,Ybg (by rfl)]
 have hl:=h.1
 have hn:=Yom (b:=rs.length) (by lia)
 obtain⟨ρ',e,y,rfl⟩:=Yqu (gt:=gSet 3) (fb:=Ybe) (rwD k) (fun pre ρ=>∃y,ρ=[some (.sh (.str (kW k))),some (.sh (.tup (rs.map (rwD k)))),some (.ow ((num rs.length::pre.flatMap (Yby k)).map D.str)),y]) rs []
  [some (.sh (.str (kW k))),some (.sh (.tup (rs.map (rwD k)))),some (.ow [.str (num rs.length)]),none] ⟨none,rfl⟩ (by
   rintro q a r ρ e ⟨y,rfl⟩
   have e':rs=q++a::r:=e
   have hq:(q.flatMap (Yby k)).length<=q.length * 210:=Ym2 fun b hb=>Yz9 (h.2 b (by rw[e'];simp[hb]))
   have ha:=h.2 a (by rw[e'];simp)
   have hql:q.length<=200:=by
    have:=congrArg List.length e'
    rw[qw,qs]at this
    lia
   refine⟨_,_,rfl,?_,some (.sh (rwD k a)),rfl⟩
   rw[Yon,<-Qg]
   generalize hL:num rs.length::q.flatMap (Yby k)=L
   have hLl:L.length<=50000:=by rw[<-hL,qs];lia
   have hL1:L.length < 1000000:=by lia
   obtain⟨b,s,xs,o⟩:=a
   obtain⟨h1,h2,h3⟩:=ha
   have hb:=Yom (lt_k h1)
   have hx:=Yex (w:=num) h3.1
   have hz:(cntW num xs).length<=201:=hx
   cases k with
   | pl=>
     have hf:=Yku (fr_k h2)
     have hc:∀w,catD (.lst (L.map D.str++[D.str (num b)])) (.lst [.str (Ydq s),.str w])=some (L.map D.str++[D.str (num b)]++[.str (Ydq s),.str w]):=fun w=>Yc7 (by simp;lia)
     simp only[Qc,Qg,Qh]at hc
     cases o<;>simp[Ybe,kW,rwD,Yby,hb,appD,hL1,hf,hc,yesW]
   | su=>
     have hf:=Yb3 h3
     unfold numsD at hf
     have hc:=Yc7 (a:=L.map D.str++[D.str (num b)]) (b:=(cntW num xs).map D.str) (by simp;lia)
     have hL2:L.length+1+(cntW num xs).length < 1000000:=by lia
     have hL3:L.length+((cntW num xs).length+1) < 1000000:=by lia
     simp only[Qc,Qg,Qh]at hc
     cases o<;>simp[Ybe,kW,rwD,Yby,hb,appD,hL1,hL2,hL3,hf,hc,yesW]
   | ro=>
     have hf:=Yb3 h3
     unfold numsD at hf
     have hc:=Yc7 (a:=L.map D.str++[D.str (num b)]) (b:=(cntW num xs).map D.str) (by simp;lia)
     simp only[Qc,Qg,Qh]at hc
     simp[Ybe,kW,rwD,Yby,hb,appD,hL1,hf,hc])
 rw[Qh]at e
 simp[Yfp,Yl,hn,e,frz,frz1,Yht]
theorem Ym4{p:Pa}(h:OkPa p):Ycf [paD p]=some (.lst ((paN p::paW p).map D.str)):=by
 have hcap:∀{α:Type} {w:α->Str} {l:List α},l.length<=200->(cntW w l).length<=201:=Yex
 rw[Ycf,Ybg (by rfl)]
 have hcl:∀{i:Fin 9} {a b:List Say},i=1\/i=3->OkR a->OkR b->(Yac (Yl 3 [.tup [.str (nm i),Ygn a,Ygn b]])).bind endB=some (.lst ((nm i::(cntW sayW a++cntW sayW b)).map D.str)):=by
  intro i a b hi ha hb
  have h1:=Yf9 ha
  have h2:=Yf9 hb
  have l1:=hcap (w:=sayW) ha.1
  have l2:=hcap (w:=sayW) hb.1
  have c1:=Yc7 (a:=[.str (nm i)]) (b:=(cntW sayW a).map D.str) (by simp;lia)
  have c2:=Yc7 (a:=[.str (nm i)]++(cntW sayW a).map D.str) (b:=(cntW sayW b).map D.str) (by simp;lia)
  simp only[Qc,Qg,Qh]at c1 c2
  rcases hi with rfl | rfl<;>simp[Yac,Yl,h1,h2,c1,c2,frz,frz1]
 match p with
 | .br=>simp[Yac,Yl,paD,paN,paL,paW,frz,frz1]
 | .cl false a b=>exact hcl (.inl rfl) h.1 h.2
 | .cl true a b=>exact hcl (.inr rfl) h.1 h.2
 | .cr a=>
   have h1:=Yf9 h
   have l1:=hcap (w:=sayW) h.1
   have c1:=Yc7 (a:=[.str (nm 2)]) (b:=(cntW sayW a).map D.str) (by simp;lia)
   simp only[Qc,Qg,Qh]at c1
   simp[Yac,Yl,paD,paN,paL,paW,h1,c1,frz,frz1]
 | .od a=>
   have h1:=Yb3 h
   have l1:=hcap (w:=num) h.1
   have c1:=Yc7 (a:=[.str (nm 4)]) (b:=(cntW num a).map D.str) (by simp;lia)
   simp only[Qc,Qg,Qh]at c1
   simp[Yac,Yl,paD,paN,paL,paW,h1,c1,frz,frz1]
 | .lo s a b=>
   have h0:=Yku (fr_k h.1)
   have h1:=Yb3 h.2.1
   have h2:=Yb3 h.2.2
   have l1:=hcap (w:=num) h.2.1.1
   have l2:=hcap (w:=num) h.2.2.1
   have c1:=Yc7 (a:=[.str (nm 5),.str (Ydq s)]) (b:=(cntW num a).map D.str) (by simp;lia)
   have c2:=Yc7 (a:=[.str (nm 5),.str (Ydq s)]++(cntW num a).map D.str) (b:=(cntW num b).map D.str) (by simp;lia)
   simp only[Qc,Qg,Qh]at c1 c2
   simp[Yac,Yl,paD,paN,paL,paW,h0,h1,h2,c1,c2,frz,frz1,appD]
 | .pl .pl _ rs=>
   have h1:=Yga (k:=.pl) h
   have l1:=Yii (k:=.pl) h
   have c1:=Yc7 (a:=[.str (nm 6)]) (b:=(Yht .pl rs).map D.str) (by simp;lia)
   simp only[Qc,Qg,Qh]at c1
   simp only[kW]at h1
   simp[Yac,Yl,paD,paN,paL,paW,h1,c1,frz,frz1,kW]
 | .pl .su _ rs=>
   have h1:=Yga (k:=.su) h
   have l1:=Yii (k:=.su) h
   have c1:=Yc7 (a:=[.str (nm 7)]) (b:=(Yht .su rs).map D.str) (by simp;lia)
   simp only[Qc,Qg,Qh]at c1
   simp only[kW]at h1
   simp[Yac,Yl,paD,paN,paL,paW,h1,c1,frz,frz1,kW]
 | .pl .ro h _=>exact absurd rfl h
 | .ro a rs=>
   have h0:=Yb3 h.1
   have h1:=Yga (k:=.ro) h.2
   have l0:=hcap (w:=num) h.1.1
   have l1:=Yii (k:=.ro) h.2
   have c1:=Yc7 (a:=[.str (nm 8)]) (b:=(cntW num a).map D.str) (by simp;lia)
   have c2:=Yc7 (a:=[.str (nm 8)]++(cntW num a).map D.str) (b:=(Yht .ro rs).map D.str) (by simp;lia)
   simp only[Qc,Qg,Qh]at c1 c2
   simp only[kW]at h1
   simp[Yac,Yl,paD,paN,paL,paW,h0,h1,c1,c2,frz,frz1]
end Lw
namespace Lw
open PySem L2 M Bk Builtin Builtin.Str
abbrev FIG:Str:=Str.ofString "0123456789"
def y5z(n:Nat):Bool:=(num n).cps.all (· < 128)&&decide (1<=(num n).length)&&decide ((num n).length<=3)&&(num n).cps.toList.all (fun c=>!(occurrences FIG ⟨#[c]⟩ 0 FIG.length 1).isEmpty)&&(decide ((num n).length<=1)||!((num n).cps.toList.head?==some 48))
theorem y50:∀n,n < 201->y5z n=true:=by decide +kernel
theorem Yrl{c:Nat}(h:¬c=48):¬(⟨#[c]⟩:Str)=Str.ofString "0":=fun e=>h (by
 have e2:Str.ofString "0"=⟨#[48]⟩:=by decide +kernel
 rw[e2]at e
 injection e with e
 injection e with e
 injection e with e)
theorem Yik{n:Nat}(h:n < 201):Ybv [.str (num n)]=some (.int n):=by
 rw[Ybv,Ybg (by rfl)]
 have hok:=y50 n h
 unfold y5z at hok
 simp only[qx,Bool.or_eq_true,decide_eq_true_eq,List.all_eq_true]at hok
 obtain⟨⟨⟨⟨h1,h2⟩,h3⟩,h4⟩,h5⟩:=hok
 have hl:lenS [.str (num n)]=some (.int ((num n).length:Int)):=if_pos (by lia)
 have hc:Yq5 (.str (num n))=some ((num n).cps.toList.map fun c=>D.str ⟨#[c]⟩):=if_pos ⟨h1,by lia⟩
 have hi:intS [.str (num n)]=some (.int (n:Int)):=by
  show(if (num n).length<=640 then (intText? (num n)).map D.int else none)=_
  rw[if_pos (by lia),show num n=Str.ofString (toString (n:Int)) from rfl,W.KIN.num_reads (by lia) (by lia)]
  rfl
 have hm:=Yx1 (fe:=Ydo) (r:=[]) (enc:=fun c:Nat=>D.str ⟨#[c]⟩) (fun _=>.bl true) (l:=(num n).cps.toList) (fun c hc=>by
  have:=h4 c hc
  show(inS (.str ⟨#[c]⟩) (.str FIG)).map D.bl=_
  show some (D.bl (!(occurrences FIG ⟨#[c]⟩ 0 FIG.length 1).isEmpty))=_
  rw[this])
 have h2':(1:Int)<=((num n).length:Int):=by lia
 have h3':((num n).length:Int)<=3:=by lia
 by_cases h6:(num n).length<=1
 ·have h6':¬(1:Int) < ((num n).length:Int):=by lia
  simp[Ya8,Yl,capR,hl,hc,hm,hi,h2',h3',h6',ch3]
 ·have h6':(1:Int) < ((num n).length:Int):=by lia
  obtain⟨c,hc0⟩:∃c,(num n).cps.toList.head?=some c:=by
   cases e:(num n).cps.toList with
   | nil=>
     have:(num n).cps.toList.length=0:=by rw[e];rfl
     rw[qj]at this
     exact absurd this (by have h:(num n).cps.size=(num n).length:=rfl;lia)
   | cons c l=>exact⟨c,rfl⟩
  have hne:¬c=48:=fun z=>by
   rcases h5 with h5 | h5
   ·exact h6 h5
   ·rw[hc0,z]at h5
    exact absurd h5 (by decide)
  have hx:ixS (.str (num n)) (.int 0)=some (.str ⟨#[c]⟩):=by
   show(if (num n).length<=1000000 then (atI (num n).cps.toList 0).map (fun c=>D.str ⟨#[c]⟩)else none)=_
   rw[if_pos (by lia)]
   cases e:(num n).cps.toList with
   | nil=>rw[e]at hc0;cases hc0
   | cons d l=>
     rw[e]at hc0
     cases hc0
     rw[Ymi]
     rfl
  have hz:=Yrl hne
  simp[Ya8,Yl,capR,hl,hc,hm,hi,h2',h3',h6',ch3,hx,Yc6,hz]
theorem Yp5{n:Nat}(h:n < 60):Yb6 [.int n]=some (.bl true):=by
 rw[Yb6,Ybg (by rfl)]
 have h1:((n:Nat):Int) < 60:=by lia
 have h0:(0:Int)<=((n:Nat):Int):=by lia
 simp[Yc9,Yl,isiD,Ye1,Ynt,ch3,h0,h1]
theorem Yc4{n:Nat}(h:n < 60):Yap [.str (num n)]=some (.int n):=by
 rw[Yap,Ybg (by rfl)]
 have h1:=Yik (n:=n) (by lia)
 have h2:=Yp5 h
 simp[Ycy,Yl,h1,h2]
theorem Ydn{n:Nat}(h:n < 201):Yaf [.str (num n)]=some (.int n):=by
 rw[Yaf,Ybg (by rfl)]
 have h1:=Yik h
 have h2:¬(200:Int) < (n:Int):=by lia
 simp[Ydm,Yl,h1,h2,isN,Ye8]
theorem Yeg{d:D}(h:d≠.non):Yb7 [d]=some d:=by
 rw[Yb7,Ybg (by rfl)]
 cases d<;>first | exact absurd rfl h | simp[Yog,Yl,isN,Ye8]
theorem Yv5:∀n,n < 60->∀b:Bool,(sayW (n,b)).length<=10/\Txt.slice (sayW (n,b)) (some 1) none=num n/\atI (sayW (n,b)).cps.toList 0=some (if b=true then 43 else 45):=by decide +kernel
theorem Ysx:(⟨#[43]⟩:Str)∈Yab/\(⟨#[45]⟩:Str)∈Yab/\gt_TRUTHS_BY_MARK.lookup ⟨#[43]⟩=some true/\gt_TRUTHS_BY_MARK.lookup ⟨#[45]⟩=some false:=by decide +kernel
theorem Yil{s:Say}(h:s.1 < 60):Ybh [.str (sayW s)]=some (sayD s):=by
 rw[Ybh,Ybg (by rfl)]
 obtain⟨n,b⟩:=s
 obtain⟨f1,f2,f3⟩:=Yv5 n h b
 have hc:cutS 1 (.str (sayW (n,b)))=some (.str (num n)):=by
  show(if _ then some (D.str (Txt.slice (sayW (n,b)) (some 1) none))else none)=_
  rw[if_pos (by lia),f2]
 have hb:=Yc4 (n:=n) h
 obtain⟨m1,m2,m3,m4⟩:=Ysx
 have hx:ixS (.str (sayW (n,b))) (.int 0)=some (.str ⟨#[if b=true then 43 else 45]⟩):=by
  show(if _ then (atI (sayW (n,b)).cps.toList 0).map (fun c=>D.str ⟨#[c]⟩)else none)=_
  rw[if_pos (by lia),f3]
  rfl
 cases b with
 | true=>
   have i1:inG true Yab (.str ⟨#[43]⟩)=some false:=Ylh m1
   have l1:Yn7 gt_TRUTHS_BY_MARK (.str ⟨#[43]⟩)=some (.bl true):=by
    show(gt_TRUTHS_BY_MARK.lookup ⟨#[43]⟩).map _=_
    rw[m3]
    rfl
   simp at hx
   simp[Ycc,Yl,hc,hb,hx,i1,l1,isN,Ye8,sayD]
 | false=>
   have i1:inG true Yab (.str ⟨#[45]⟩)=some false:=Ylh m2
   have l1:Yn7 gt_TRUTHS_BY_MARK (.str ⟨#[45]⟩)=some (.bl false):=by
    show(gt_TRUTHS_BY_MARK.lookup ⟨#[45]⟩).map _=_
    rw[m4]
    rfl
   simp at hx
   simp[Ycc,Yl,hc,hb,hx,i1,l1,isN,Ye8,sayD]
end Lw
namespace Lw
open PySem L2 M Bk
theorem rne:¬T "saying"=T "source"/\¬T "truth"=T "source"/\¬T "truth"=T "saying"/\¬T "place"=T "source"/\¬T "place"=T "saying"/\¬T "place"=T "truth"/\¬T "beacon"=T "source"/\¬T "beacon"=T "saying"/\¬T "beacon"=T "truth"/\¬T "beacon"=T "place"/\¬T "source"=T "saying"/\¬T "source"=T "truth"/\¬T "source"=T "place":=by decide +kernel
theorem word_facts:gt_TRUTHS_BY_WORD.lookup (T "yes")=some true/\gt_TRUTHS_BY_WORD.lookup (T "no")=some false/\∀n,n < 60->¬num n=T "none":=by decide +kernel
theorem y51{s:Say}(h:s.1 < 60):y4 [.str (T "saying"),.str (sayW s)]=some (sayD s):=by
 rw[y4,Ybg (by rfl)]
 have h1:=Yil h
 have h2:=Yeg (d:=sayD s) (by unfold sayD;simp)
 simp[Yb8,Yl,Yc6,rne.1,h1,h2]
theorem Yv6(b:Bool):y4 [.str (T "truth"),.str (yesW b)]=some (.bl b):=by
 rw[y4,Ybg (by rfl)]
 obtain⟨_,r2,r3,_⟩:=rne
 have h1:Ysl gt_TRUTHS_BY_WORD (.str (yesW b))=some (.bl b):=by
  show some (match gt_TRUTHS_BY_WORD.lookup (yesW b)with | some b=>D.bl b | none=>.non)=_
  cases b
  ·rw[show yesW false=T "no" from rfl,word_facts.2.1]
  ·rw[show yesW true=T "yes" from rfl,word_facts.1]
 have h2:=Yeg (d:=.bl b) (by simp)
 simp[Yb8,Yl,Yc6,r2,r3,h1,h2]
theorem Yv7{n:Nat}(h:n < 201):y4 [.str (T "place"),.str (num n)]=some (nD n):=by
 rw[y4,Ybg (by rfl)]
 obtain⟨_,_,_,r1,r2,r3,_⟩:=rne
 have h1:=Ydn h
 have h2:=Yeg (d:=.int n) (by simp)
 simp[Yb8,Yl,Yc6,r1,r2,r3,h1,h2]
theorem Yjr{n:Nat}(h:n < 60):y4 [.str (T "beacon"),.str (num n)]=some (nD n):=by
 rw[y4,Ybg (by rfl)]
 obtain⟨_,_,_,_,_,_,r1,r2,r3,r4,_⟩:=rne
 have h1:=Yc4 h
 have h2:=Yeg (d:=.int n) (by simp)
 simp[Yb8,Yl,Yc6,r1,r2,r3,r4,h1,h2]
theorem Yrm{s:Option Nat}(h:∀x,s=some x->x < 60):y4 [.str (T "source"),.str (Ydq s)]=some (optD s):=by
 rw[y4,Ybg (by rfl)]
 obtain⟨_,_,_,_,_,_,_,_,_,_,r1,r2,r3⟩:=rne
 cases s with
 | none=>simp[Yb8,Yl,Yc6,Ydq,optD]
 | some n=>
   have h1:=Yc4 (h n rfl)
   have h2:=Yeg (d:=.int n) (by simp)
   have h3:=word_facts.2.2 n (h n rfl)
   simp[Yb8,Yl,Yc6,Ydq,optD,r1,r2,r3,h1,h2,h3]
theorem y52{τ:Type}{dz:τ->D}{l i:Nat}{ρ:Ro}{t:τ}(h:ρ[i]?=some (some (.sh (.adr l)))):thZ dz l i ρ t=some (ρ.set i (some (.sh (dz t)))):=by
 unfold thZ
 rw[h]
 exact if_pos rfl
theorem Yv8{τ:Type}{dz:τ->D}{l i:Nat}{f:Ro->Option D}{ρ:Ro}{t:τ}{d:D}(h:ρ[i]?=some (some (.sh (.adr l))))(h2:f (ρ.set i (some (.sh (dz t))))=some d)(hs:Yxv d=true):retZ dz l i f ρ t=some (.rt d t):=by
 unfold retZ
 rw[y52 h,qd,h2,qd]
 exact if_pos hs
theorem y53(ws:List Str)(n:Int):fldD "Reader" "place" (rdD ws n)=some (.int n):=by
 show(if ("Reader":Str)="Reader" then (rks.zip [D.lst (ws.map D.str),.int n]).lookup ("place":Str)else none)=_
 rw[if_pos rfl]
 have h:(("place":Str)=="words")=false:=by decide +kernel
 have h2:(("place":Str)=="place")=true:=by decide +kernel
 simp[List.lookup,h,h2]
theorem y54(ws:List Str)(n:Int):fldD "Reader" "words" (rdD ws n)=some (.lst (ws.map D.str)):=by
 show(if ("Reader":Str)="Reader" then (rks.zip [D.lst (ws.map D.str),.int n]).lookup ("words":Str)else none)=_
 rw[if_pos rfl]
 have h2:(("words":Str)=="words")=true:=by decide +kernel
 simp[List.lookup,h2]
theorem Yjs(ws:List Str)(n:Nat):Yae ws [] (n:Int)=some (.bl (decide (n=ws.length)),(n:Int)):=by
 refine Ye9 fun l=>?_
 have hst:Yl 1 [.adr l]=[some (.sh (.adr l))]:=rfl
 rw[hst]
 unfold Yc0
 refine Yv8 rfl ?_ rfl
 have h1:=y53 ws n
 have h2:=y54 ws n
 generalize rdD ws n=d at *
 simp[h1,h2]
theorem y0d{τ:Type}{f:Ro->τ->Option (Bool × τ)}{fs gs:TmV τ}{ρ:Ro}{t t':τ}{b:Bool}(h:f ρ t=some (b,t')):ifE f fs gs ρ t=if b=true then fs ρ t' else gs ρ t':=by
 unfold ifE
 rw[h]
 rfl
theorem Yrn{τ:Type}{f:TeV τ}{ρ:Ro}{t t':τ}{b:Bool}(h:f ρ t=some (.bl b,t')):blE f ρ t=some (b,t'):=by
 unfold blE
 rw[h]
 rfl
theorem Yv9{τ:Type}{f:Ro->τ->Option (Bool × τ)}{ρ:Ro}{t t':τ}{b:Bool}(h:f ρ t=some (b,t')):notE f ρ t=some (!b,t'):=by
 unfold notE
 rw[h]
 rfl
theorem Ykv{ws:List Str}{n:Nat}{w:Str}(h:ws[n]?=some w):Yz ws [] (n:Int)=some (.str w,((n+1:Nat):Int)):=by
 have hlt:n < ws.length:=by
  rcases Nat.lt_or_ge n ws.length with z | z
  ·exact z
  ·rw[List.getElem?_eq_none z]at h
   cases h
 refine Ye9 fun l=>?_
 have hst:Yl 1 [.adr l]=[some (.sh (.adr l))]:=rfl
 rw[hst]
 unfold Yev
 rw[Ya3 (ρ':=[some (.sh (.adr l))]) (t':=(n:Int))]
 ·unfold Yfh
  rw[Ya3 (ρ':=[some (.sh (.adr l))]) (t':=((n+1:Nat):Int))]
  ·unfold Yfg
   refine Yv8 rfl ?_ rfl
   have h1:=y53 ws ((n+1:Nat):Int)
   have h2:=y54 ws ((n+1:Nat):Int)
   have h3:atI (ws.map D.str) (((n+1:Nat):Int) - 1)=some (.str w):=Yz0 (j:=n) (by lia) (by rw[Qa,h];rfl)
   generalize ((n+1:Nat):Int)=m at *
   generalize rdD ws m=d at *
   simp[h1,h2,h3]
  ·unfold incR
   show(if l=l then some (OutW.nx _ ((n:Int)+1))else none)=_
   rw[if_pos rfl]
   rfl
 ·rw[y0d (Yrn ((Ycb rfl).trans ((Yc3 (ds:=[]) rfl).trans (Yjs ws n))))]
  have:decide (n=ws.length)=false:=decide_eq_false (by lia)
  rw[this]
  rfl
def At(ws:List Str)(n:Nat)(l:List Str):Prop:=∃r,ws.drop n=l++r
theorem At.head{ws:List Str}{n:Nat}{w:Str}{l:List Str}(h:At ws n (w::l)):ws[n]?=some w:=by
 obtain⟨r,h⟩:=h
 have e:(ws.drop n)[0]?=some w:=by rw[h];rfl
 rw[List.getElem?_drop]at e
 exact e
theorem At.app{ws:List Str}{n:Nat}{a b:List Str}(h:At ws n (a++b)):At ws n a/\At ws (n+a.length) b:=by
 obtain⟨r,h⟩:=h
 refine⟨⟨b++r,by rw[h,Qc]⟩,r,?_⟩
 rw[<-List.drop_drop,h,Qc,List.drop_left]
theorem At.tail{ws:List Str}{n:Nat}{w:Str}{l:List Str}(h:At ws n (w::l)):At ws (n+1) l:=(At.app (a:=[w]) h).2
theorem Yep{τ:Type}{x:Addr}{ρ:Ro}{t t':τ}{d:D}{ga:Ro->Option (List D)}{ds:List D}{g:List D->τ->Option (D × τ)}(h0:ρ[1]?=some (some (.sh (.adr x))))(h1:ga ρ=some ds)(h2:g ds t=some (d,t')):y3 x 1 (Yau ga g) ρ t=some (d,t'):=
 (Ycb h0).trans ((Yc3 h1).trans h2)
theorem Ydk{τ:Type}{ga:TaV τ}{m:List D->Option D}{ρ:Ro}{t t':τ}{ds:List D}{d:D}(h1:ga ρ t=some (ds,t'))(h2:m ds=some d):Yfr ga m ρ t=some (d,t'):=by
 unfold Yfr
 rw[h1,qd,h2]
 rfl
theorem Yp6{k:Nat}{ws:List Str}{ds:List D}{n n':Int}{d:D}(h:∀l,Yda ws (Yk k ws) l (Yl 4 (ds++[.adr l])) n=some (.rt d n')):Ye (k+1) ws ds n=some (d,n'):=by
 rw[Ye]
 exact Yuk h
theorem y55{k:Nat}{ws:List Str}{n:Nat}{form w:Str}{d:D}(h1:inG true y0 (.str form)=some true)(h2:inG true Ycx (.str form)=some true)(ha:At ws n [w])(hw:y4 [.str form,.str w]=some d):Ye (k+1) ws [.str form] (n:Int)=some (d,((n+1:Nat):Int)):=by
 refine Yp6 fun l=>?_
 have hst:Yl 4 ([.str form]++[.adr l])=[some (.sh (.str form)),some (.sh (.adr l)),none,none]:=rfl
 rw[hst]
 unfold Yda
 refine Yp1 (by simp[h1,h2]) ?_
 exact Yef (Ydk (Yv (Yas rfl) (Yv (Yep rfl rfl (Ykv ha.head)) rfl)) hw)
theorem Ywa{k:Nat}{ws:List Str}{n m:Nat}{form:Str}{l:Addr}{r:Option (OutW Int)}(h12:inG true y0 (.str form)=some false\/(inG true y0 (.str form)=some true/\inG true Ycx (.str form)=some false))(ha:ws[n]?=some (num m))(hm:m<=200)
 (h:seqW (fun ρ t=>forW (gSet 3) (Yai ws (Yk k ws) l) ((List.range m).map fun i=>D.int (0+(i:Nat))) ρ t) (Ydx ws (Yk k ws) l) [some (.sh (.str form)),some (.sh (.adr l)),some (.ow []),none] ((n+1:Nat):Int)=r) :
 Yda ws (Yk k ws) l [some (.sh (.str form)),some (.sh (.adr l)),none,none] (n:Int)=r:=by
 unfold Yda
 rw[Yp0 (by
  rcases h12 with h1 | ⟨h1,h2⟩
  ·simp[h1]
  ·simp[h1,h2])]
 unfold Yh6
 rw[Ya3 (Ydj (ρ':=[some (.sh (.str form)),some (.sh (.adr l)),some (.ow []),none]) (by simp))]
 unfold Yh5
 have hc:Yfr (Yax (Yfr (Yax (y3 l 1 (Yau aNil (Yz ws))) nilE) Yaf) nilE) Yb7 [some (.sh (.str form)),some (.sh (.adr l)),some (.ow []),none] (n:Int)=some (.int (m:Int),((n+1:Nat):Int)):=
  Ydk (Yv (Ydk (Yv (Yep rfl rfl (Ykv ha)) rfl) (Ydn (n:=m) (by lia))) rfl) (Yeg (by simp))
 rw[<-h]
 unfold seqW
 rw[Ypz (m:=m) (by lia) hc]
theorem Yim{k:Nat}{ws:List Str}{n:Nat}{form leaf:Str}{α:Type}{enc:α->D}{w:α->Str}{l:List α}(h1:form∈y0)(h2:Yme gt_SEVERAL (.str form)=some (.str leaf))(hl:l.length<=200)(ha:At ws n (cntW w l))(hw:∀a∈l,y4 [.str leaf,.str (w a)]=some (enc a)) :
 Ye (k+1) ws [.str form] (n:Int)=some (.tup (l.map enc),((n+(cntW w l).length:Nat):Int)):=by
 refine Yp6 fun x=>?_
 have hst:Yl 4 ([.str form]++[.adr x])=[some (.sh (.str form)),some (.sh (.adr x)),none,none]:=rfl
 rw[hst]
 refine Ywa (.inl (Ylh h1)) ha.head hl ?_
 have i1:inG false y0 (.str form)=some true:=Ylh h1
 obtain⟨ρ',t',e,y,rfl,rfl⟩:=Ymz (gt:=gSet 3) (fb:=Yai ws (Yk k ws) x) (fun i:Nat=>D.int (0+(i:Nat))) (fun pre ρ t=>∃y,ρ=[some (.sh (.str form)),some (.sh (.adr x)),some (.ow ((l.take pre.length).map enc)),y]/\t=((n+1+pre.length:Nat):Int)) (List.range l.length) []
  [some (.sh (.str form)),some (.sh (.adr x)),some (.ow []),none] ((n+1:Nat):Int) ⟨none,rfl,rfl⟩ (by
   rintro q i r ρ t e ⟨y,rfl,rfl⟩
   have hq:q.length < l.length:=by
    have:=congrArg List.length e
    simp at this
    lia
   have hget:ws[n+1+q.length]?=some (w l[q.length]):=by
    have hs:cntW w l=(num l.length::(l.take q.length).map w)++((l.drop q.length).map w):=by
     unfold cntW
     rw[Qg,<-Qi,List.take_append_drop]
    rw[hs]at ha
    have h9:=ha.app.2
    rw[qs,qf,List.length_take,Nat.min_eq_left (by lia),Ql hq,qz]at h9
    have:=h9.head
    rw[show n+(q.length+1)=n+1+q.length by lia]at this
    exact this
   have hti:=Ykv hget
   have hwi:=hw l[q.length] (List.getElem_mem hq)
   have hs:l.take (q++[i]).length=l.take q.length++[l[q.length]]:=by
    rw[qw,List.length_singleton,List.take_succ_eq_append_getElem hq]
   refine⟨_,[some (.sh (.str form)),some (.sh (.adr x)),some (.ow ((l.take q.length).map enc++[enc l[q.length]])),some (.sh (.int (0+(i:Nat))))],((n+1+q.length+1:Nat):Int),rfl,?_,some (.sh (.int (0+(i:Nat)))),by rw[hs,Qi];rfl,by simp;lia⟩
   unfold Yai
   rw[Ypx (by simp[gSet,i1])]
   exact Yi6 rfl (by rw[qf,List.length_take];lia) (Ydk (Yv (Yas (d:=.str leaf) (by simp[gSet,h2])) (Yv (Yep rfl rfl hti) rfl)) hwi))
 rw[Qh,List.length_range,List.take_length]at e
 rw[Ya3 e]
 unfold Ydx
 rw[Yeo (d:=.tup (l.map enc)) (by simp)]
 congr 3
 unfold cntW
 simp
 lia
theorem Yro{k:Nat}{ws:List Str}{n:Nat}{form:Str}{p:Addr}{α:Type}{enc:α->D}{w:α->List Str}{l:List α}(h1:¬form∈y0)(h2:form∈Ycx)(h3:Yd9 gt_ROWS (.str form)=some (.adr p))(hl:l.length<=200)(ha:At ws n (num l.length::l.flatMap w))
 (hw:∀a∈l,∀n,At ws n (w a)->Yk k ws [.adr p] (n:Int)=some (enc a,((n+(w a).length:Nat):Int))) :
 Ye (k+1) ws [.str form] (n:Int)=some (.tup (l.map enc),((n+(num l.length::l.flatMap w).length:Nat):Int)):=by
 refine Yp6 fun x=>?_
 have hst:Yl 4 ([.str form]++[.adr x])=[some (.sh (.str form)),some (.sh (.adr x)),none,none]:=rfl
 rw[hst]
 refine Ywa (.inr ⟨Yli h1,Ylh h2⟩) ha.head hl ?_
 have i1:inG false y0 (.str form)=some false:=Yli h1
 obtain⟨ρ',t',e,y,rfl,rfl⟩:=Ymz (gt:=gSet 3) (fb:=Yai ws (Yk k ws) x) (fun i:Nat=>D.int (0+(i:Nat))) (fun pre ρ t=>∃y,ρ=[some (.sh (.str form)),some (.sh (.adr x)),some (.ow ((l.take pre.length).map enc)),y]/\t=((n+1+((l.take pre.length).flatMap w).length:Nat):Int)) (List.range l.length) []
  [some (.sh (.str form)),some (.sh (.adr x)),some (.ow []),none] ((n+1:Nat):Int) ⟨none,rfl,rfl⟩ (by
   rintro q i r ρ t e ⟨y,rfl,rfl⟩
   have hq:q.length < l.length:=by
    have:=congrArg List.length e
    simp at this
    lia
   have hat:At ws (n+1+((l.take q.length).flatMap w).length) (w l[q.length]):=by
    have hs:l.flatMap w=(l.take q.length).flatMap w++(w l[q.length]++(l.drop (q.length+1)).flatMap w):=by
     rw[<-Qk,<-Ql hq,<-List.flatMap_append,List.take_append_drop]
    rw[hs]at ha
    exact ha.tail.app.2.app.1
   have hwi:=hw l[q.length] (List.getElem_mem hq) _ hat
   have hs:l.take (q++[i]).length=l.take q.length++[l[q.length]]:=by
    rw[qw,List.length_singleton,List.take_succ_eq_append_getElem hq]
   refine⟨_,[some (.sh (.str form)),some (.sh (.adr x)),some (.ow ((l.take q.length).map enc++[enc l[q.length]])),some (.sh (.int (0+(i:Nat))))],((n+1+((l.take q.length).flatMap w).length+(w l[q.length]).length:Nat):Int),rfl,?_,some (.sh (.int (0+(i:Nat)))),by rw[hs,Qi];rfl,by rw[hs,Yon,qw,Nat.add_assoc]⟩
   unfold Yai
   rw[Yok (by simp[gSet,i1])]
   exact Yi6 rfl (by rw[qf,List.length_take];lia) (Yep rfl (ds:=[.adr p]) (by simp[gSet,h3]) hwi))
 rw[Qh,List.length_range,List.take_length]at e
 rw[Ya3 e]
 unfold Ydx
 rw[Yeo (d:=.tup (l.map enc)) (by simp)]
 congr 3
 rw[qs]
 lia
theorem y0e{k:Nat}{ws:List Str}{l:Addr}:∀(ps:List (D × Str × List Str)) (n:Nat),At ws n (ps.flatMap (·.2.2))->(∀a∈ps,∀n,At ws n a.2.2->Ye k ws [.str a.2.1] (n:Int)=some (a.1,((n+a.2.2.length:Nat):Int)))->
 Yg9 (gSet 0) (Yah ws (Ye k ws) l) [none,some (.sh (.adr l))] (ps.map fun a=>D.str a.2.1) (n:Int)=some (ps.map (·.1),((n+(ps.flatMap (·.2.2)).length:Nat):Int))
 | [],n,_,_=>rfl
 | a::ps,n,ha,h=>by
   have ha':At ws n (a.2.2++ps.flatMap (·.2.2)):=ha
   have h1:=h a (.head _) n ha'.app.1
   have h2:=y0e (l:=l) ps (n+a.2.2.length) ha'.app.2 fun b hb=>h b (.tail _ hb)
   rw[qz,Yg9]
   show(Yah ws (Ye k ws) l [some (.sh (.str a.2.1)),some (.sh (.adr l))] (n:Int)).bind _=_
   have h3:Yah ws (Ye k ws) l [some (.sh (.str a.2.1)),some (.sh (.adr l))] (n:Int)=some (a.1,((n+a.2.2.length:Nat):Int)):=Yep rfl rfl h1
   rw[h3,qd]
   show(Yg9 _ _ _ _ ((n+a.2.2.length:Nat):Int)).map _=_
   rw[h2]
   show some (a.1::ps.map (·.1),_)=_
   rw[Qk,qw,Nat.add_assoc]
   rfl
theorem Ykw{k:Nat}{ws:List Str}{n:Nat}{p:Addr}{ss:List Str}(h:ktab.lookup p=some ss)(ps:List (D × Str × List Str))(hs:ss=ps.map (·.2.1))(hl:ps.length<=3)(ha:At ws n (ps.flatMap (·.2.2)))(hw:∀a∈ps,∀n,At ws n a.2.2->Ye k ws [.str a.2.1] (n:Int)=some (a.1,((n+a.2.2.length:Nat):Int))) :
 Yk (k+1) ws [.adr p] (n:Int)=some (.tup (ps.map (·.1)),((n+(ps.flatMap (·.2.2)).length:Nat):Int)):=by
 rw[Yk]
 refine Yuk fun l=>?_
 have hst:Yl 2 ([.adr p]++[.adr l])=[some (.sh (.adr p)),some (.sh (.adr l))]:=rfl
 rw[hst]
 unfold Yf2
 refine Yef (Yew ?_ (by rw[qf];lia))
 unfold Yq8
 have ht:b1 (getV 0) (tabD ktab) [some (.sh (.adr p)),some (.sh (.adr l))]=some (ps.map fun a=>D.str a.2.1):=by
  show(ktab.lookup p).map (fun ss=>ss.map D.str)=_
  rw[h,hs,Option.map_some,List.map_map]
  rfl
 rw[ht,qd]
 exact y0e ps n ha hw
theorem q3{k:Nat}{ws:List Str}{n:Nat}{p:Addr}{s1 s2 s3:Str}{d1 d2 d3:D}{w1 w2 w3:List Str}(h:ktab.lookup p=some [s1,s2,s3])(ha:At ws n (w1++(w2++w3)))(h1:∀n,At ws n w1->Ye k ws [.str s1] (n:Int)=some (d1,((n+w1.length:Nat):Int)))(h2:∀n,At ws n w2->Ye k ws [.str s2] (n:Int)=some (d2,((n+w2.length:Nat):Int)))(h3:∀n,At ws n w3->Ye k ws [.str s3] (n:Int)=some (d3,((n+w3.length:Nat):Int))) :
 Yk (k+1) ws [.adr p] (n:Int)=some (.tup [d1,d2,d3],((n+(w1++(w2++w3)).length:Nat):Int)):=by
 have:=Ykw (n:=n) h [(d1,s1,w1),(d2,s2,w2),(d3,s3,w3)] rfl (by simp) (by simpa using ha) (by
  intro a ha
  simp at ha
  rcases ha with rfl | rfl | rfl
  ·exact h1
  ·exact h2
  ·exact h3)
 simpa using this
theorem q2{k:Nat}{ws:List Str}{n:Nat}{p:Addr}{s1 s2:Str}{d1 d2:D}{w1 w2:List Str}(h:ktab.lookup p=some [s1,s2])(ha:At ws n (w1++w2))(h1:∀n,At ws n w1->Ye k ws [.str s1] (n:Int)=some (d1,((n+w1.length:Nat):Int)))(h2:∀n,At ws n w2->Ye k ws [.str s2] (n:Int)=some (d2,((n+w2.length:Nat):Int))) :
 Yk (k+1) ws [.adr p] (n:Int)=some (.tup [d1,d2],((n+(w1++w2).length:Nat):Int)):=by
 have:=Ykw (n:=n) h [(d1,s1,w1),(d2,s2,w2)] rfl (by simp) (by simpa using ha) (by
  intro a ha
  simp at ha
  rcases ha with rfl | rfl
  ·exact h1
  ·exact h2)
 simpa using this
theorem q1{k:Nat}{ws:List Str}{n:Nat}{p:Addr}{s1:Str}{d1:D}{w1:List Str}(h:ktab.lookup p=some [s1])(ha:At ws n w1)(h1:∀n,At ws n w1->Ye k ws [.str s1] (n:Int)=some (d1,((n+w1.length:Nat):Int))) :
 Yk (k+1) ws [.adr p] (n:Int)=some (.tup [d1],((n+w1.length:Nat):Int)):=by
 have:=Ykw (n:=n) h [(d1,s1,w1)] rfl (by simp) (by simpa using ha) (by
  intro a ha
  simp at ha
  subst ha
  exact h1)
 simpa using this
section
variable {k n:Nat} {ws:List Str}
theorem Yoo{a:List Say}(h:OkR a):∀n,At ws n (cntW sayW a)->Ye (k+1) ws [.str (T "road")] (n:Int)=some (Ygn a,((n+(cntW sayW a).length:Nat):Int)):=fun n ha=>
 Yim fm_sev.1 (lkG fm_sev.2.2.2.1) h.1 ha fun p hp=>y51 (h.2 p hp)
theorem Ym5{a:List Nat}(h:OkN 201 a):∀n,At ws n (cntW num a)->Ye (k+1) ws [.str (T "places")] (n:Int)=some (numsD a,((n+(cntW num a).length:Nat):Int)):=fun n ha=>
 Yim fm_sev.2.1 (lkG fm_sev.2.2.2.2.1) h.1 ha fun p hp=>Yv7 (h.2 p hp)
theorem Ykx{a:List Nat}(h:OkN 60 a):∀n,At ws n (cntW num a)->Ye (k+1) ws [.str (T "beacons")] (n:Int)=some (numsD a,((n+(cntW num a).length:Nat):Int)):=fun n ha=>
 Yim fm_sev.2.2.1 (lkG fm_sev.2.2.2.2.2) h.1 ha fun p hp=>Yjr (h.2 p hp)
theorem Yrp{f w:Str}{d:D}(hf:f∈[T "truth",T "beacon",T "source"])(hw:y4 [.str f,.str w]=some d):∀n,At ws n [w]->Ye (k+1) ws [.str f] (n:Int)=some (d,((n+[w].length:Nat):Int)):=fun n ha=>
 y55 (Yli (Ym3 f hf).1) (Yli (Ym3 f hf).2) ha hw
theorem Ym6{m:Nat}(h:m < 60):∀n,At ws n [num m]->Ye (k+1) ws [.str (T "beacon")] (n:Int)=some (nD m,((n+[num m].length:Nat):Int)):=Yrp (.tail _ (.head _)) (Yjr h)
theorem Yrq{s:Option Nat}(h:∀x,s=some x->x < 60):∀n,At ws n [Ydq s]->Ye (k+1) ws [.str (T "source")] (n:Int)=some (optD s,((n+[Ydq s].length:Nat):Int)):=Yrp (.tail _ (.tail _ (.head _))) (Yrm h)
theorem Ywb(b:Bool):∀n,At ws n [yesW b]->Ye (k+1) ws [.str (T "truth")] (n:Int)=some (.bl b,((n+[yesW b].length:Nat):Int)):=Yrp (.head _) (Yv6 b)
theorem y7v{q:K3}{r:Rw}(h:OkRw r):∀n,At ws n (Yby q r)->Yk (k+2) ws [.adr (match q with | .pl=>163 | .su=>164 | .ro=>165)] (n:Int)=some (rwD q r,((n+(Yby q r).length:Nat):Int)):=by
 obtain⟨a,s,xs,b⟩:=r
 obtain⟨ha,hs,hx⟩:=h
 intro n hat
 cases q with
 | pl=>exact q3 fm_look.2.2.2.1 (w1:=[num a]) (w2:=[Ydq s]) (w3:=[yesW b]) hat (Ym6 ha) (Yrq hs) (Ywb b)
 | su=>exact q3 fm_look.2.2.2.2.1 (w1:=[num a]) (w2:=cntW num xs) (w3:=[yesW b]) hat (Ym6 ha) (Ykx hx) (Ywb b)
 | ro=>exact q2 fm_look.2.2.2.2.2 (w1:=[num a]) (w2:=cntW num xs) hat (Ym6 ha) (Ykx hx)
theorem Ywc{q:K3}{rs:List Rw}(h:OkRs rs):∀n,At ws n (Yht q rs)->Ye (k+3) ws [.str (match q with | .pl=>T "plan rows" | .su=>T "sum rows" | .ro=>T "if rows")] (n:Int)=some (.tup (rs.map (rwD q)),((n+(Yht q rs).length:Nat):Int)):=by
 have hr:∀r∈rs,∀n,At ws n (Yby q r)->Yk (k+2) ws [.adr (match q with | .pl=>163 | .su=>164 | .ro=>165)] (n:Int)=some (rwD q r,((n+(Yby q r).length:Nat):Int)):=fun r hr=>y7v (h.2 r hr)
 intro n hat
 cases q with
 | pl=>exact Yro (Ydr _ (.head _)).1 (Ydr _ (.head _)).2 (lkA fm_look.1) h.1 hat hr
 | su=>exact Yro (Ydr _ (.tail _ (.head _))).1 (Ydr _ (.tail _ (.head _))).2 (lkA fm_look.2.1) h.1 hat hr
 | ro=>exact Yro (Ydr _ (.tail _ (.tail _ (.head _)))).1 (Ydr _ (.tail _ (.tail _ (.head _)))).2 (lkA fm_look.2.2.1) h.1 hat hr
theorem y2x{p:Pa}(h:OkPa p)(hat:At ws n (paW p)):Ya9 ws [.adr (paA p)] (n:Int)=some (.tup (paL p),((n+(paW p).length:Nat):Int)):=by
 obtain⟨t0,t1,t2,t3,t4,t5,t6,t7,t8⟩:=y0a
 unfold Ya9
 match p with
 | .br=>exact Ykw t0 [] rfl (by simp) hat fun _ h=>(nomatch h)
 | .cl false a b=>exact q2 t1 hat (Yoo h.1) (Yoo h.2)
 | .cl true a b=>exact q2 t3 hat (Yoo h.1) (Yoo h.2)
 | .cr a=>exact q1 t2 hat (Yoo h)
 | .od a=>exact q1 t4 hat (Ym5 h)
 | .lo s a b=>exact q3 t5 (w1:=[Ydq s]) (w2:=cntW num a) (w3:=cntW num b) hat (Yrq h.1) (Ym5 h.2.1) (Ym5 h.2.2)
 | .pl .pl _ rs=>exact q1 t6 hat (Ywc (q:=.pl) h)
 | .pl .su _ rs=>exact q1 t7 hat (Ywc (q:=.su) h)
 | .pl .ro h _=>exact absurd rfl h
 | .ro a rs=>exact q2 t8 hat (Ykx h.1) (Ywc (q:=.ro) h.2)
end
def Ns(l:List Str):Prop:=∀x∈l,32∉x.cps.toList
def sp:Str:=⟨#[32]⟩
theorem Yp7:Str.ofString " "=sp:=by decide +kernel
theorem Yin:∀(l:List Str) (acc:Array Nat),(l.foldl (fun acc p=>acc++sp.cps++p.cps) acc).toList=acc.toList++l.flatMap fun p=>32::p.cps.toList
 | [],acc=>by simp
 | x::l,acc=>by
   rw[List.foldl_cons,Yin l,Qk]
   simp[sp]
theorem Yy6{a r:List Nat}(h:32∉a)(hr:r=[]\/∃r',r=32::r'):(a++r).takeWhile (· != 32)=a:=by
 induction a with
 | nil=>
   rcases hr with rfl | ⟨r',rfl⟩
   ·rfl
   ·rfl
 | cons x a ih=>
   have hx:x≠32:=fun z=>h (by rw[z];exact .head _)
   rw[Qg,List.takeWhile_cons]
   have:(x != 32)=true:=by simpa using hx
   rw[if_pos this,ih fun z=>h (.tail _ z)]
theorem Ygj(l:List Str):(l.flatMap fun p=>32::p.cps.toList)=[]\/∃r',(l.flatMap fun p=>32::p.cps.toList)=32::r':=by
 cases l with
 | nil=>exact .inl rfl
 | cons x l=>exact .inr ⟨_,by rw[Qk,Qg]⟩
theorem Yey{x y:Str}(h:x.cps.toList=y.cps.toList):x=y:=by
 obtain⟨⟨a⟩⟩:=x
 obtain⟨⟨b⟩⟩:=y
 have:a=b:=h
 rw[this]
theorem Yrr:∀(l l':List Str),Ns l->Ns l'->(l.flatMap fun p=>32::p.cps.toList)=(l'.flatMap fun p=>32::p.cps.toList)->l=l'
 | [],[],_,_,_=>rfl
 | [],y::l',_,_,e=>by simp at e
 | x::l,[],_,_,e=>by simp at e
 | x::l,y::l',h,h',e=>by
   rw[Qk,Qk,Qg,Qg]at e
   injection e with _ e
   have e1:=congrArg (List.takeWhile (· != 32)) e
   rw[Yy6 (h x (.head _)) (Ygj l),Yy6 (h' y (.head _)) (Ygj l')]at e1
   have e2:=Yey e1
   subst e2
   rw[Yrr l l' (fun z hz=>h z (.tail _ hz)) (fun z hz=>h' z (.tail _ hz)) (List.append_cancel_left e)]
theorem Yio{x:Str}{l:List Str}(h:Ns (x::l)):Txt.split (Txt.join sp (x::l)) sp=x::l:=by
 have hf:Ns (Txt.split (Txt.join sp (x::l)) sp):=StrLaws.split_free (Txt.join sp (x::l)) 32
 have hj:=Yh0 (Txt.join sp (x::l)) sp
 have hp:=PyProof.Rows.split_pos (Txt.join sp (x::l)) sp
 generalize hs:Txt.split (Txt.join sp (x::l)) sp=ys at *
 cases ys with
 | nil=>exact absurd hp (by decide)
 | cons y m=>
   have e:(m.foldl (fun acc p=>acc++sp.cps++p.cps) y.cps)=(l.foldl (fun acc p=>acc++sp.cps++p.cps) x.cps):=by
    have:(⟨m.foldl (fun acc p=>acc++sp.cps++p.cps) y.cps⟩:Str)=⟨l.foldl (fun acc p=>acc++sp.cps++p.cps) x.cps⟩:=hj
    injection this
   have e:=congrArg Array.toList e
   rw[Yin,Yin]at e
   have e1:=congrArg (List.takeWhile (· != 32)) e
   rw[Yy6 (hf y (.head _)) (Ygj m),Yy6 (h x (.head _)) (Ygj l)]at e1
   have e2:=Yey e1
   subst e2
   rw[Yrr m l (fun z hz=>hf z (.tail _ hz)) (fun z hz=>h z (.tail _ hz)) (List.append_cancel_left e)]
theorem Ns.app{a b:List Str}(h:Ns a)(h':Ns b):Ns (a++b):=fun x hx=>(qv hx).elim (h x) (h' x)
theorem Ns.cons{x:Str}{b:List Str}(h:32∉x.cps.toList)(h':Ns b):Ns (x::b):=fun y hy=>by
 cases hy with
 | head=>exact h
 | tail _ hy=>exact h' y hy
theorem Yjj:Ns []:=fun _ h=>(nomatch h)
theorem Yop:∀n,n < 201->32∉(num n).cps.toList:=by decide +kernel
theorem y56:∀n,n < 60->∀b,32∉(sayW (n,b)).cps.toList:=by decide +kernel
theorem y0f:∀b,32∉(yesW b).cps.toList:=by decide +kernel
theorem y2y:32∉(T "none").cps.toList:=by decide +kernel
theorem Ym7:∀i,32∉(nm i).cps.toList:=by decide +kernel
theorem Ywd{s:Option Nat}(h:∀x,s=some x->x < 60):32∉(Ydq s).cps.toList:=by
 cases s with
 | none=>exact y2y
 | some b=>exact Yop b (by have:=h b rfl;lia)
theorem y0g{α:Type}{w:α->Str}{l:List α}(hl:l.length<=200)(h:∀a∈l,32∉(w a).cps.toList):Ns (cntW w l):=
 .cons (Yop _ (by lia)) fun x hx=>by
  obtain⟨a,ha,rfl⟩:=List.mem_map.mp hx
  exact h a ha
theorem Yp8{a:List Say}(h:OkR a):Ns (cntW sayW a):=y0g h.1 fun p hp=>y56 p.1 (h.2 p hp) p.2
theorem Yi8{B:Nat}{a:List Nat}(h:OkN B a)(hB:B<=201:=by decide):Ns (cntW num a):=y0g h.1 fun p hp=>Yop p (by have:=h.2 p hp;lia)
theorem y7w{k:K3}{r:Rw}(h:OkRw r):Ns (Yby k r):=by
 obtain⟨a,s,xs,b⟩:=r
 obtain⟨h1,h2,h3⟩:=h
 have ha:32∉(num a).cps.toList:=Yop a (by have:a < 60:=h1;lia)
 cases k with
 | pl=>exact .cons ha (.cons (Ywd h2) (.cons (y0f b) Yjj))
 | su=>exact .cons ha ((Yi8 h3).app (.cons (y0f b) Yjj))
 | ro=>exact .cons ha (Yi8 h3)
theorem Ywe{k:K3}{rs:List Rw}(h:OkRs rs):Ns (Yht k rs):=.cons (Yop _ (by have:=h.1;lia)) fun x hx=>by
 obtain⟨r,hr,hx⟩:=List.mem_flatMap.mp hx
 exact y7w (h.2 r hr) x hx
theorem Ysy{p:Pa}(h:OkPa p):Ns (paW p):=by
 match p with
 | .br=>exact Yjj
 | .cl _ a b=>exact(Yp8 h.1).app (Yp8 h.2)
 | .cr a=>exact Yp8 h
 | .od a=>exact Yi8 h
 | .lo s a b=>exact .cons (Ywd h.1) ((Yi8 h.2.1).app (Yi8 h.2.2))
 | .pl k _ rs=>exact Ywe h
 | .ro a rs=>exact(Yi8 h.1).app (Ywe h.2)
theorem Yrs(p:Pa):32∉(paN p).cps.toList:=by
 match p with
 | .br=>exact Ym7 0
 | .cl false _ _=>exact Ym7 1
 | .cl true _ _=>exact Ym7 3
 | .cr _=>exact Ym7 2
 | .od _=>exact Ym7 4
 | .lo _ _ _=>exact Ym7 5
 | .pl .pl _ _=>exact Ym7 6
 | .pl .su _ _=>exact Ym7 7
 | .pl .ro h _=>exact absurd rfl h
 | .ro _ _=>exact Ym7 8
theorem y2z{p:Pa}(h:OkPa p):(paS p).length<=1000000:=by
 have h0:=Yqy (T " ") (paN p::paW p)
 have h1:=Yrk (s:=(T " ").length) (B:=10) ((y2v h).cons (Yv4 p))
 have h2:=Yp3 h
 have h3:=lenPM.2.2.2.2.2
 rw[qs,h3]at h1
 rw[h3]at h0
 unfold paS
 lia
theorem Ywf{p:Pa}(h:OkPa p):Txt.split (paS p) (T " ")=paN p::paW p:=by
 unfold paS T
 rw[Yp7]
 exact Yio (.cons (Yrs p) (Ysy h))
theorem Yoq{p:Pa}(h:OkPa p):Yel [.str (paS p)]=some (paD p):=by
 rw[Yel,Ybg (by rfl)]
 have hst:Yl 4 [D.str (paS p)]=[some (.sh (.str (paS p))),none,none,none]:=rfl
 rw[hst]
 have hb:Yf3 [some (.sh (.str (paS p))),none,none,none]=some (.rt (paD p)):=by
  unfold Yf3 Yyl
  show(Yat [none,some (.sh (.str (paS p)))]).bind _=_
  have h2:Yat [none,some (.sh (.str (paS p)))]=some (.lst ((paN p::paW p).map D.str)):=by
   show Yq2 (T " ") (.str (paS p))=_
   show(if (paS p).length<=1000000 then some (D.lst ((Txt.split (paS p) (T " ")).map D.str))else none)=_
   rw[if_pos (y2z h),Ywf h]
  rw[h2,qd]
  show(Yk6 ((paN p::paW p).map D.str)).bind _=_
  rw[Yhz,qd]
  generalize hws:paN p::paW p=ws
  have hat:At ws 0 (paN p::paW p):=⟨[],by rw[Qf,hws];rfl⟩
  have htk:=Ykv hat.head
  have hpt:=y2x h hat.tail
  have hlen:ws.length=0+1+(paW p).length:=by rw[<-hws,qs];lia
  have hae:=Yjs ws (0+1+(paW p).length)
  have hin:inG true Ybc (.str (paN p))=some false:=Ylh (by
   have h1:∀i,nm i∈Ybc:=by decide +kernel
   match p with
   | .br=>exact h1 0
   | .cl false _ _=>exact h1 1
   | .cl true _ _=>exact h1 3
   | .cr _=>exact h1 2
   | .od _=>exact h1 4
   | .lo _ _ _=>exact h1 5
   | .pl .pl _ _=>exact h1 6
   | .pl .su _ _=>exact h1 7
   | .pl .ro h _=>exact absurd rfl h
   | .ro _ _=>exact h1 8)
  have hlk:=y2u p
  have hL:(paL p).length<=3:=by
   match p with
   | .br=>decide
   | .cl _ _ _=>exact(by decide:2<=3)
   | .cr _=>exact(by decide:1<=3)
   | .od _=>exact(by decide:1<=3)
   | .lo _ _ _=>exact(by decide:3<=3)
   | .pl _ _ _=>exact(by decide:1<=3)
   | .ro _ _=>exact(by decide:2<=3)
  have hg:runG (fun l=>Ydi ws l ([some (.sh (.str (paS p))),none,none,none].set 1 (some (.sh (.adr l))))) ((0:Nat):Int)=some (paD p,((0+1+(paW p).length:Nat):Int)):=by
   refine Ypn fun l=>?_
   show Ydi ws l [some (.sh (.str (paS p))),some (.sh (.adr l)),none,none] ((0:Nat):Int)=_
   unfold Ydi
   rw[Ya3 (Ydf (Yep rfl rfl htk))]
   unfold Ygv
   rw[Ya3 (Ydj (ρ':=[some (.sh (.str (paS p))),some (.sh (.adr l)),some (.sh (.str (paN p))),none]) (by simp[hin]))]
   unfold Ygu
   rw[Ya3 (Ydf (Yep rfl (ds:=[.adr (paA p)]) (by simp[hlk]) hpt))]
   unfold Ygt
   rw[Ya3 (ρ':=[some (.sh (.str (paS p))),some (.sh (.adr l)),some (.sh (.str (paN p))),some (.sh (.tup (paL p)))]) (t':=((0+1+(paW p).length:Nat):Int))]
   ·unfold Ygs
    refine Yeo ?_
    have hc:Yt4 (.tup [.str (paN p)]) (.tup (paL p))=some (paD p):=by
     show(if [D.str (paN p)].length+(paL p).length<=cap6 then some (D.tup ([.str (paN p)]++paL p))else none)=_
     rw[if_pos (by unfold cap6;simp;lia)]
     rfl
    simp[hc]
   ·rw[y0d (Yv9 (Yrn (Yep rfl rfl hae)))]
    rw[decide_eq_true hlen.symm]
    rfl
  show(runG _ ((0:Nat):Int)).map _=_
  rw[hg]
  rfl
 rw[hb]
 rfl
theorem Yky(a:List Nat):dep (numsD a)<=1:=by
 unfold numsD
 rw[Yix]
 have:=Ypi (enc:=nD) (n:=0) (fun a=>by simp) a
 lia
theorem Yp9(a:List Say):dep (Ygn a)<=2:=by
 unfold Ygn
 rw[Yix]
 have:=Ypi (enc:=sayD) (n:=1) (fun a=>by simp) a
 lia
theorem y7x(k:K3)(r:Rw):dep (rwD k r)<=2:=by
 obtain⟨a,s,xs,b⟩:=r
 have h:=Yky xs
 unfold numsD at h
 cases k with
 | pl=>simp[rwD]
 | su=>
   show dep (.tup [nD a,.tup (xs.map nD),.bl b])<=2
   rw[Yix]
   have:=Yke (n:=1) (l:=[nD a,.tup (xs.map nD),.bl b]) (by
    intro d hd
    simp at hd
    rcases hd with rfl | rfl | rfl
    ·simp
    ·exact h
    ·simp)
   lia
 | ro=>
   show dep (.tup [nD a,.tup (xs.map nD)])<=2
   rw[Yix]
   have:=Yke (n:=1) (l:=[nD a,.tup (xs.map nD)]) (by
    intro d hd
    simp at hd
    rcases hd with rfl | rfl
    ·simp
    ·exact h)
   lia
theorem Ywg(k:K3)(rs:List Rw):dep (.tup (rs.map (rwD k)))<=3:=by
 rw[Yix]
 have:=Ypi (enc:=rwD k) (n:=2) (y7x k) rs
 lia
theorem y7y(p:Pa):dep (paD p) < 12:=by
 unfold paD
 rw[Yix]
 have hp:∀d∈paL p,dep d<=3:=by
  match p with
  | .br=>exact fun d hd=>(nomatch hd)
  | .cl _ a b=>
    intro d hd
    simp[paL]at hd
    rcases hd with rfl | rfl
    ·exact qy (Yp9 a) (by decide)
    ·exact qy (Yp9 b) (by decide)
  | .cr a=>
    intro d hd
    simp[paL]at hd
    subst hd
    exact qy (Yp9 a) (by decide)
  | .od a=>
    intro d hd
    simp[paL]at hd
    subst hd
    exact qy (Yky a) (by decide)
  | .lo s a b=>
    intro d hd
    simp[paL]at hd
    rcases hd with rfl | rfl | rfl
    ·simp
    ·exact qy (Yky a) (by decide)
    ·exact qy (Yky b) (by decide)
  | .pl k _ rs=>
    intro d hd
    simp[paL]at hd
    subst hd
    exact Ywg k rs
  | .ro a rs=>
    intro d hd
    simp[paL]at hd
    rcases hd with rfl | rfl
    ·exact qy (Yky a) (by decide)
    ·exact Ywg .ro rs
 have:=Yke (n:=3) (l:=.str (paN p)::paL p) (by
  intro d hd
  cases hd with
  | head=>simp
  | tail _ hd=>exact hp d hd)
 lia
end Lw
namespace Lw
open PySem L2 M Bk Builtin Builtin.Str
def y7z(b:Str):Bool:=b.cps.all (· < 128)
def digC(c:Nat):Bool:=!(occurrences FIG ⟨#[c]⟩ 0 FIG.length 1).isEmpty
def digs(b:Str):Bool:=b.cps.toList.all digC
def nrB(b:Str):Option Int:=if 1<=b.length/\b.length<=3/\digs b=true then (if 1 < b.length/\b.cps.toList.head?=some 48 then none else intText? b)else none
def nrOk(b:Str):Bool:=y7z b&&decide (b.length<=1000)&&(!(decide (1<=b.length)&&decide (b.length<=3)&&digs b)||(intText? b).isSome)
def oiD:Option Int->D
 | some k=>.int k | none=>.non
theorem Ywh{α:Type}(p:α->Bool):∀l:List α,blsD (l.map fun c=>D.bl (p c))=some (l.map p)
 | []=>rfl
 | a::l=>by
   rw[qz,blsD,Ywh p l]
   rfl
theorem all_map{α:Type}(p:α->Bool)(l:List α):allC [.lst (l.map fun c=>D.bl (p c))]=some (.bl (l.all p)):=by
 show(blsD (l.map fun c=>D.bl (p c))).map (fun bs=>D.bl (bs.all id))=_
 rw[Ywh]
 simp[List.all_map,Function.comp_def]
theorem Ywi{c:Nat}(h:c=48):(⟨#[c]⟩:Str)=Str.ofString "0":=by
 subst h
 decide +kernel
theorem m_nr{b:Str}(h:nrOk b=true):Ybv [.str b]=some (oiD (nrB b)):=by
 rw[Ybv,Ybg (by rfl)]
 unfold nrOk at h
 simp only[qx,Bool.or_eq_true,decide_eq_true_eq,Bool.not_eq_true']at h
 obtain⟨⟨h1,h2⟩,h3⟩:=h
 have hl:lenS [.str b]=some (.int (b.length:Int)):=if_pos (by lia)
 have hc:Yq5 (.str b)=some (b.cps.toList.map fun c=>D.str ⟨#[c]⟩):=if_pos ⟨h1,by lia⟩
 have hm:=Yx1 (fe:=Ydo) (r:=[]) (enc:=fun c:Nat=>D.str ⟨#[c]⟩) (fun c=>.bl (digC c)) (l:=b.cps.toList) (fun c hc=>rfl)
 have ha:=all_map digC b.cps.toList
 by_cases h13:1<=b.length/\b.length<=3
 ·have g1:(1:Int)<=(b.length:Int):=by lia
  have g3:(b.length:Int)<=3:=by lia
  cases hd:b.cps.toList.all digC with
  | false=>
    have hn:nrB b=none:=if_neg fun z=>by
     have:=z.2.2
     unfold digs at this
     rw[hd]at this
     cases this
    rw[hd]at ha
    simp[Ya8,Yl,capR,hl,hc,hm,ha,g1,g3,ch3,hn,oiD]
  | true=>
    rw[hd]at ha
    obtain⟨k,hk⟩:∃k,intText? b=some k:=by
     rcases h3 with h3 | h3
     ·exfalso
      rw[decide_eq_true h13.1,decide_eq_true h13.2]at h3
      unfold digs at h3
      rw[hd]at h3
      cases h3
     ·exact Option.isSome_iff_exists.mp h3
    have hi:intS [.str b]=some (.int k):=by
     show(if b.length<=640 then (intText? b).map D.int else none)=_
     rw[if_pos (by lia),hk]
     rfl
    have hnr:nrB b=if 1 < b.length/\b.cps.toList.head?=some 48 then none else some k:=by
     unfold nrB
     rw[if_pos ⟨h13.1,h13.2,hd⟩,hk]
    by_cases h6:1 < b.length
    ·have g6:(1:Int) < (b.length:Int):=by lia
     obtain⟨c,l,hcl⟩:∃c l,b.cps.toList=c::l:=by
      cases e:b.cps.toList with
      | nil=>
        have:b.cps.toList.length=0:=by rw[e];rfl
        rw[qj]at this
        exact absurd this (by have h:b.cps.size=b.length:=rfl;lia)
      | cons c l=>exact⟨c,l,rfl⟩
     have hx:ixS (.str b) (.int 0)=some (.str ⟨#[c]⟩):=by
      show(if b.length<=1000000 then (atI b.cps.toList 0).map (fun c=>D.str ⟨#[c]⟩)else none)=_
      rw[if_pos (by lia),hcl,Ymi]
      rfl
     by_cases hz:c=48
     ·have hq:=Ywi hz
      rw[if_pos ⟨h6,by rw[hcl,hz];rfl⟩]at hnr
      simp[Ya8,Yl,capR,hl,hc,hm,ha,hi,g1,g3,g6,ch3,hx,Yc6,hq,hnr,oiD]
     ·have hq:=Yrl hz
      rw[if_neg (fun z=>hz (by have:=z.2;rw[hcl]at this;cases this;rfl))]at hnr
      simp[Ya8,Yl,capR,hl,hc,hm,ha,hi,g1,g3,g6,ch3,hx,Yc6,hq,hnr,oiD]
    ·have g6:¬(1:Int) < (b.length:Int):=by lia
     rw[if_neg (fun z=>h6 z.1)]at hnr
     simp[Ya8,Yl,capR,hl,hc,hm,ha,hi,g1,g3,g6,ch3,hnr,oiD]
 ·have hn:nrB b=none:=if_neg fun z=>h13 ⟨z.1,z.2.1⟩
  by_cases h0:1<=b.length
  ·have g1:(1:Int)<=(b.length:Int):=by lia
   have g3:¬(b.length:Int)<=3:=by lia
   simp[Ya8,Yl,hl,g1,g3,ch3,hn,oiD]
  ·have g1:¬(1:Int)<=(b.length:Int):=by lia
   simp[Ya8,Yl,hl,g1,ch3,hn,oiD]
theorem m_br{b:Str}(h:nrOk b=true):Yap [.str b]=some (match nrB b with | some k=>if 0<=k/\k < 60 then .int k else .non | none=>.non):=by
 rw[Yap,Ybg (by rfl)]
 have h1:=m_nr h
 cases hn:nrB b with
 | none=>
   rw[hn]at h1
   have h2:Yb6 [.non]=some (.bl false):=by
    rw[Yb6,Ybg (by rfl)]
    simp[Yc9,Yl,isiD,Ye1,Ynt]
   simp[Ycy,Yl,h1,oiD,h2]
 | some k=>
   rw[hn]at h1
   have h2:Yb6 [.int k]=some (.bl (decide (0<=k/\k < 60))):=by
    rw[Yb6,Ybg (by rfl)]
    by_cases a:0<=k
    ·by_cases b:k < 60
     ·simp[Yc9,Yl,isiD,Ye1,Ynt,ch3,a,b]
     ·simp[Yc9,Yl,isiD,Ye1,Ynt,ch3,a,b]
    ·simp[Yc9,Yl,isiD,Ye1,Ynt,ch3,a]
   by_cases hk:0<=k/\k < 60
   ·simp[Ycy,Yl,h1,oiD,h2,hk]
   ·simp[Ycy,Yl,h1,oiD,h2,hk]
theorem m_pr{b:Str}(h:nrOk b=true):Yaf [.str b]=some (match nrB b with | some k=>if 200 < k then .non else .int k | none=>.non):=by
 rw[Yaf,Ybg (by rfl)]
 have h1:=m_nr h
 cases hn:nrB b with
 | none=>
   rw[hn]at h1
   simp[Ydm,Yl,h1,oiD]
 | some k=>
   rw[hn]at h1
   by_cases hk:200 < k
   ·simp[Ydm,Yl,h1,oiD,hk,isN,Ye8]
   ·simp[Ydm,Yl,h1,oiD,hk,isN,Ye8]
inductive Fm | cnt | say | tru | pla | bea | sou
def rejB(b:Str):Bool:=match nrB b with
 | some k=>!(decide (0<=k)&&decide (k < 60))
 | none=>true
def rejP(b:Str):Bool:=match nrB b with
 | some k=>decide (200 < k)
 | none=>true
def rejF:Fm->Str->Bool
 | .cnt,b=>rejP b
 | .pla,b=>rejP b
 | .bea,b=>rejB b
 | .sou,b=>rejB b&&!decide (b=T "none")
 | .tru,b=>(gt_TRUTHS_BY_WORD.lookup b).isNone
 | .say,b=>rejB (Txt.slice b (some 1) none)||match b.cps.toList.head? with
   | some c=>!decide ((⟨#[c]⟩:Str)∈Yab)
   | none=>false
def okW(b:Str):Bool:=nrOk b&&nrOk (Txt.slice b (some 1) none)
theorem Ym8{b:Str}(h:nrOk b=true)(hr:rejB b=true):Yap [.str b]=some .non:=by
 rw[m_br h]
 unfold rejB at hr
 cases hn:nrB b with
 | none=>rfl
 | some k=>
   rw[hn]at hr
   simp only[Bool.not_eq_true',Bool.and_eq_false_iff,decide_eq_false_iff_not]at hr
   show some (if 0<=k/\k < 60 then D.int k else .non)=_
   rw[if_neg fun z=>hr.elim (fun q=>q z.1) fun q=>q z.2]
theorem Yrt{b:Str}(h:nrOk b=true)(hr:rejP b=true):Yaf [.str b]=some .non:=by
 rw[m_pr h]
 unfold rejP at hr
 cases hn:nrB b with
 | none=>rfl
 | some k=>
   rw[hn]at hr
   show some (if 200 < k then D.non else .int k)=_
   rw[if_pos (by simpa using hr)]
theorem Yy7{b:Str}(h:okW b=true)(hr:rejF .say b=true):Ybh [.str b]=some .non:=by
 unfold okW at h
 rw[qx]at h
 rw[Ybh,Ybg (by rfl)]
 have hlen:b.length<=1000:=by
  have:=h.1
  unfold nrOk at this
  simp only[qx,decide_eq_true_eq]at this
  exact this.1.2
 have hc:cutS 1 (.str b)=some (.str (Txt.slice b (some 1) none)):=by
  show(if b.length<=1000000 then some (D.str (Txt.slice b (some 1) none))else none)=_
  rw[if_pos (by lia)]
 unfold rejF at hr
 rw[Bool.or_eq_true]at hr
 by_cases hb:rejB (Txt.slice b (some 1) none)=true
 ·have h1:=Ym8 h.2 hb
  simp[Ycc,Yl,hc,h1]
 ·rcases hr with hr | hr
  ·exact absurd hr hb
  ·cases e:b.cps.toList with
   | nil=>
     rw[e]at hr
     cases hr
   | cons c l=>
     rw[e]at hr
     have hmem:¬(⟨#[c]⟩:Str)∈Yab:=by
      have hr:(!decide ((⟨#[c]⟩:Str)∈Yab))=true:=hr
      simpa using hr
     have hx:ixS (.str b) (.int 0)=some (.str ⟨#[c]⟩):=by
      show(if b.length<=1000000 then (atI b.cps.toList 0).map (fun c=>D.str ⟨#[c]⟩)else none)=_
      rw[if_pos (by lia),e,Ymi]
      rfl
     have i1:inG true Yab (.str ⟨#[c]⟩)=some true:=Yli hmem
     obtain⟨d,hd⟩:∃d,Yap [.str (Txt.slice b (some 1) none)]=some d/\(d=.non\/∃k,d=.int k):=by
      rw[m_br h.2]
      cases nrB (Txt.slice b (some 1) none)with
      | none=>exact⟨_,rfl,.inl rfl⟩
      | some k=>
        by_cases z:0<=k/\k < 60
        ·exact⟨_,rfl,.inr ⟨k,if_pos z⟩⟩
        ·exact⟨_,rfl,.inl (if_neg z)⟩
     obtain⟨hd1,hd2⟩:=hd
     rcases hd2 with rfl | ⟨k,rfl⟩
     ·simp[Ycc,Yl,hc,hd1]
     ·simp[Ycc,Yl,hc,hd1,hx,i1,isN,Ye8]
end Lw
namespace Lw
open PySem L2 M Bk
theorem Ygb{k n:Nat}{r:Ro->Option Bool}{ds:List D}(h:ds.length=k):runX k n r ds=r (Yl n ds):=if_pos h
theorem Yqa(d:D):Ycz [d]=some (Ye8 d):=by
 rw[Ycz,Ygb (by rfl)]
 cases d<;>simp[Yly,Yl,xIf,isN,Ye8,xYes,xNo]
theorem Yy8{c a b:Ro->Option Bool}{ρ:Ro}(h:c ρ=some true):xIf c a b ρ=a ρ:=by
 unfold xIf
 rw[h]
 rfl
theorem Yip{c a b:Ro->Option Bool}{ρ:Ro}(h:c ρ=some false):xIf c a b ρ=b ρ:=by
 unfold xIf
 rw[h]
 rfl
theorem Yiq{ga:Ro->Option (List D)}{fr:List D->Option Bool}{ρ:Ro}{ds:List D}(h:ga ρ=some ds):Yoa ga fr ρ=fr ds:=by
 unfold Yoa
 rw[h]
 rfl
theorem y0h{b:Str}{d:D}(h:Ybh [.str b]=some d):Yr [.str (T "saying"),.str b]=some (Ye8 d):=by
 rw[Yr,Ygb (by rfl)]
 unfold Ybw
 rw[Yip (by simp[Yl,Yc6,rne.1]),Yy8 (by simp[Yl,Yc6]),Yiq (ds:=[d]) (by simp[Yl,h])]
 exact Yqa d
theorem Yru{b:Str}{d:D}(h:Ysl gt_TRUTHS_BY_WORD (.str b)=some d):Yr [.str (T "truth"),.str b]=some (Ye8 d):=by
 obtain⟨_,r2,r3,_⟩:=rne
 rw[Yr,Ygb (by rfl)]
 unfold Ybw
 rw[Yip (by simp[Yl,Yc6,r2]),Yip (by simp[Yl,Yc6,r3]),Yy8 (by simp[Yl,Yc6]),Yiq (ds:=[d]) (by simp[Yl,h])]
 exact Yqa d
theorem Yrv{b:Str}{d:D}(h:Yaf [.str b]=some d):Yr [.str (T "place"),.str b]=some (Ye8 d):=by
 obtain⟨_,_,_,r1,r2,r3,_⟩:=rne
 rw[Yr,Ygb (by rfl)]
 unfold Ybw
 rw[Yip (by simp[Yl,Yc6,r1]),Yip (by simp[Yl,Yc6,r2]),Yip (by simp[Yl,Yc6,r3]),Yy8 (by simp[Yl,Yc6]),Yiq (ds:=[d]) (by simp[Yl,h])]
 exact Yqa d
theorem Yor{b:Str}{d:D}(h:Yap [.str b]=some d):Yr [.str (T "beacon"),.str b]=some (Ye8 d):=by
 obtain⟨_,_,_,_,_,_,r1,r2,r3,r4,_⟩:=rne
 rw[Yr,Ygb (by rfl)]
 unfold Ybw
 rw[Yip (by simp[Yl,Yc6,r1]),Yip (by simp[Yl,Yc6,r2]),Yip (by simp[Yl,Yc6,r3]),Yip (by simp[Yl,Yc6,r4]),Yiq (ds:=[d]) (by simp[Yl,h])]
 exact Yqa d
theorem Yos{b:Str}{d:D}(hn:¬b=T "none")(h:Yap [.str b]=some d):Yr [.str (T "source"),.str b]=some (Ye8 d):=by
 obtain⟨_,_,_,_,_,_,_,_,_,_,r1,r2,r3⟩:=rne
 rw[Yr,Ygb (by rfl)]
 unfold Ybw
 rw[Yip (by simp[Yl,Yc6,hn]),Yip (by simp[Yl,Yc6,r1]),Yip (by simp[Yl,Yc6,r2]),Yip (by simp[Yl,Yc6,r3]),Yiq (ds:=[d]) (by simp[Yl,h])]
 exact Yqa d
theorem y20:Yr [.str (T "source"),.str (T "none")]=some false:=by
 rw[Yr,Ygb (by rfl)]
 unfold Ybw
 rw[Yy8 (by simp[Yl,Yc6])]
 rfl
def fmN:Fm->Str
 | .cnt=>T "" | .say=>T "saying" | .tru=>T "truth" | .pla=>T "place" | .bea=>T "beacon" | .sou=>T "source"
theorem y70{f:Fm}{b:Str}(hf:f≠.cnt)(h:okW b=true)(hr:rejF f b=true):Yr [.str (fmN f),.str b]=some true:=by
 have h':=h
 unfold okW at h'
 rw[qx]at h'
 cases f with
 | cnt=>exact absurd rfl hf
 | say=>exact y0h (Yy7 h hr)
 | tru=>
   refine Yru (d:=.non) ?_
   have:gt_TRUTHS_BY_WORD.lookup b=none:=Option.isNone_iff_eq_none.mp hr
   show some (match gt_TRUTHS_BY_WORD.lookup b with | some b=>D.bl b | none=>.non)=_
   rw[this]
 | pla=>exact Yrv (Yrt h'.1 hr)
 | bea=>exact Yor (Ym8 h'.1 hr)
 | sou=>
   have hr:(rejB b&&!decide (b=T "none"))=true:=hr
   rw[qx]at hr
   exact Yos (by simpa using hr.2) (Ym8 h'.1 hr.1)
theorem y71{s:Say}(h:s.1 < 60):Yr [.str (T "saying"),.str (sayW s)]=some false:=y0h (Yil h)
theorem y21(b:Bool):Yr [.str (T "truth"),.str (yesW b)]=some false:=by
 refine Yru (d:=.bl b) ?_
 show some (match gt_TRUTHS_BY_WORD.lookup (yesW b)with | some b=>D.bl b | none=>.non)=_
 cases b
 ·rw[show yesW false=T "no" from rfl,word_facts.2.1]
 ·rw[show yesW true=T "yes" from rfl,word_facts.1]
theorem y22{n:Nat}(h:n < 201):Yr [.str (T "place"),.str (num n)]=some false:=Yrv (Ydn h)
theorem Yrw{n:Nat}(h:n < 60):Yr [.str (T "beacon"),.str (num n)]=some false:=Yor (Yc4 h)
theorem Yy9{s:Option Nat}(h:∀x,s=some x->x < 60):Yr [.str (T "source"),.str (Ydq s)]=some false:=by
 cases s with
 | none=>exact y20
 | some n=>exact Yos (word_facts.2.2 n (h n rfl)) (Yc4 (h n rfl))
theorem Yfq{τ:Type}{c:Ro->τ->Option (Bool × τ)}{a b:TrV τ}{ρ:Ro}{t t':τ}{k:Bool}(h:c ρ t=some (k,t')):vIf c a b ρ t=if k=true then a ρ t' else b ρ t':=by
 unfold vIf
 rw[h]
 rfl
theorem Yqb{τ:Type}{r1 r2:TrV τ}{fs:TmV τ}{ρ:Ro}{t:τ}(h:r1 ρ t=some true):vGo r1 fs r2 ρ t=some true:=by
 unfold vGo
 rw[h]
 rfl
theorem Yot{τ:Type}{r1 r2:TrV τ}{fs:TmV τ}{ρ ρ':Ro}{t t':τ}(h:r1 ρ t=some false)(h2:fs ρ t=some (.nx ρ' t')):vGo r1 fs r2 ρ t=r2 ρ' t':=by
 unfold vGo
 rw[h,qd,if_neg qi,h2]
 rfl
theorem y57{τ:Type}{r1 r2:TrV τ}{fs:TmV τ}{ρ:Ro}{t t':τ}{d:D}(h:r1 ρ t=some false)(h2:fs ρ t=some (.rt d t')):vGo r1 fs r2 ρ t=some false:=by
 unfold vGo
 rw[h,qd,if_neg qi,h2]
 rfl
theorem y58{τ:Type}{l i:Nat}{f:TrV τ}{ρ:Ro}{t:τ}(h:ρ[i]?=some (some (.sh (.adr l)))):vAt l i f ρ t=f ρ t:=by
 unfold vAt
 rw[h]
 exact if_pos rfl
theorem Yza{τ:Type}{ga:Ro->Option (List D)}{g:List D->τ->Option Bool}{ρ:Ro}{ds:List D}{t:τ}(h:ga ρ=some ds):Yfa ga g ρ t=g ds t:=by
 unfold Yfa
 rw[h]
 rfl
theorem vT1{τ:Type}{x:Addr}{ρ:Ro}{t:τ}{b:Bool}{ga:Ro->Option (List D)}{ds:List D}{g:List D->τ->Option Bool}(h0:ρ[1]?=some (some (.sh (.adr x))))(h1:ga ρ=some ds)(h2:g ds t=some b):vAt x 1 (Yfa ga g) ρ t=some b:=(y58 h0).trans ((Yza h1).trans h2)
theorem Ywj{ws:List Str}{n:Nat}(h:n<=ws.length):Yao ws [] (n:Int)=some (decide (n=ws.length)):=by
 refine Ymo _ fun l=>?_
 show Yc1 ws l [some (.sh (.adr l))] (n:Int)=_
 unfold Yc1
 have hc:blE (y3 l 0 (Yau aNil (Yae ws))) [some (.sh (.adr l))] (n:Int)=some (decide (n=ws.length),(n:Int)):=Yrn ((Ycb rfl).trans ((Yc3 (ds:=[]) rfl).trans (Yjs ws n)))
 by_cases hn:n=ws.length
 ·rw[decide_eq_true hn]at hc ⊢
  rw[Yfq hc]
  rfl
 ·rw[decide_eq_false hn]at hc ⊢
  rw[Yfq hc]
  rfl
theorem Ysz{ws:List Str}{n:Nat}{w:Str}(h:ws[n]?=some w):Yao ws [] (n:Int)=some false:=by
 have hlt:n < ws.length:=by
  rcases Nat.lt_or_ge n ws.length with z | z
  ·exact z
  ·rw[List.getElem?_eq_none z]at h
   cases h
 rw[Ywj (by lia),decide_eq_false (by lia)]
theorem Yl0{τ:Type}{ra:TrV τ}{ga:TaV τ}{fr:List D->Option Bool}{ρ:Ro}{t:τ}(h:ra ρ t=some true):Ygo ra ga fr ρ t=some true:=by
 unfold Ygo
 rw[h]
 rfl
theorem Ykz{τ:Type}{ra:TrV τ}{ga:TaV τ}{fr:List D->Option Bool}{ρ:Ro}{t t':τ}{ds:List D}(h:ra ρ t=some false)(h2:ga ρ t=some (ds,t')):Ygo ra ga fr ρ t=fr ds:=by
 unfold Ygo
 rw[h,qd,if_neg qi,h2]
 rfl
theorem Yrx{τ:Type}{f:TeV τ}{r:TrV τ}{ρ:Ro}{t t':τ}{d:D}(h:f ρ t=some (d,t')):Yst f r ρ t=r ρ t':=by
 unfold Yst
 rw[h]
 rfl
end Lw
namespace Lw
open PySem L2 M Bk
def Stop(ws:List Str)(n:Nat)(f:Fm):Prop:=n=ws.length\/∃b,ws[n]?=some b/\okW b=true/\rejF f b=true
def Bad(ws:List Str):Nat->List (Str × Fm)->Prop
 | _,[]=>False
 | n,a::l=>Stop ws n a.2\/(ws[n]?=some a.1/\Bad ws (n+1) l)
abbrev wo(l:List (Str × Fm)):List Str:=l.map (·.1)
theorem y23{ws:List Str}{n:Nat}{w:Str}{l:List Str}(h:ws[n]?=some w)(h':At ws (n+1) l):At ws n (w::l):=by
 obtain⟨r,hr⟩:=h'
 obtain⟨hlt,e⟩:=qo h
 exact⟨r,by rw[Ql hlt,e,hr];rfl⟩
theorem Bad.app{ws:List Str}:∀{a b:List (Str × Fm)} {n:Nat},Bad ws n (a++b)->Bad ws n a\/(At ws n (wo a)/\Bad ws (n+a.length) b)
 | [],_,_,h=>.inr ⟨⟨_,rfl⟩,h⟩
 | x::a,b,n,h=>by
   have h:Stop ws n x.2\/(ws[n]?=some x.1/\Bad ws (n+1) (a++b)):=h
   rcases h with h | ⟨h1,h2⟩
   ·exact .inl (.inl h)
   ·rcases h2.app with h3 | ⟨h3,h4⟩
    ·exact .inl (.inr ⟨h1,h3⟩)
    ·refine .inr ⟨y23 h1 h3,?_⟩
     rw[qs,show n+(a.length+1)=n+1+a.length by lia]
     exact h4
theorem takT{ws:List Str}{x:Addr}{ρ:Ro}{n:Nat}{w:Str}(h0:ρ[1]?=some (some (.sh (.adr x))))(h:ws[n]?=some w):y3 x 1 (Yau aNil (Yz ws)) ρ (n:Int)=some (.str w,((n+1:Nat):Int)):=Yep h0 rfl (Ykv h)
theorem takX{ws:List Str}{x:Addr}{ρ:Ro}{n:Nat}(h0:ρ[1]?=some (some (.sh (.adr x))))(h:n<=ws.length):vAt x 1 (Yfa aNil (Yao ws)) ρ (n:Int)=some (decide (n=ws.length)):=vT1 h0 rfl (Ywj h)
theorem Ym9{ws:List Str}{x:Addr}{ρ:Ro}{n:Nat}{w:Str}(h0:ρ[1]?=some (some (.sh (.adr x))))(h:ws[n]?=some w):vAt x 1 (Yfa aNil (Yao ws)) ρ (n:Int)=some false:=vT1 h0 rfl (Ysz h)
abbrev tkR(ws:List Str)(x:Addr)(fe:Ro->Option D):TrV Int:=Ygo (Yst (Ycp fe) (vAt x 1 (Yfa aNil (Yao ws)))) (Yax (Ycp fe) (Yax (y3 x 1 (Yau aNil (Yz ws))) nilE)) Yr
theorem Yqc{ws:List Str}{x:Addr}{ρ:Ro}{n:Nat}{w:Str}{fe:Ro->Option D}{d:D}{b:Bool}(h0:ρ[1]?=some (some (.sh (.adr x))))(hf:fe ρ=some d)(h:ws[n]?=some w)(hx:Yr [d,.str w]=some b):tkR ws x fe ρ (n:Int)=some b:=by
 exact(Ykz ((Yrx (Yas hf)).trans (Ym9 h0 h)) (Yv (Yas hf) (Yv (takT h0 h) rfl))).trans hx
theorem Ywk{ws:List Str}{x:Addr}{ρ:Ro}{n:Nat}{f:Fm}{fe:Ro->Option D}(h0:ρ[1]?=some (some (.sh (.adr x))))(hf:fe ρ=some (.str (fmN f)))(hc:f≠.cnt)(h:Stop ws n f):tkR ws x fe ρ (n:Int)=some true:=by
 rcases h with h | ⟨b,h,ho,hr⟩
 ·refine Yl0 ((Yrx (Yas hf)).trans ?_)
  rw[takX h0 (by lia),decide_eq_true h]
 ·exact Yqc h0 hf h (y70 hc ho hr)
abbrev cntR(ws:List Str)(x:Addr):TrV Int:=Ygo (vAt x 1 (Yfa aNil (Yao ws))) (Yax (Yfr (Yax (y3 x 1 (Yau aNil (Yz ws))) nilE) Yaf) nilE) Ycz
theorem y24{ws:List Str}{x:Addr}{ρ:Ro}{n:Nat}(h0:ρ[1]?=some (some (.sh (.adr x))))(h:Stop ws n .cnt):cntR ws x ρ (n:Int)=some true:=by
 rcases h with h | ⟨b,h,ho,hr⟩
 ·refine Yl0 ?_
  rw[takX h0 (by lia),decide_eq_true h]
 ·unfold okW at ho
  rw[qx]at ho
  exact(Ykz (Ym9 h0 h) (Yv (Ydk (Yv (takT h0 h) rfl) (Yrt ho.1 hr)) rfl)).trans (Yqa _)
theorem y72{ws:List Str}{x:Addr}{ρ:Ro}{n m:Nat}(h0:ρ[1]?=some (some (.sh (.adr x))))(h:ws[n]?=some (num m))(hm:m<=200):cntR ws x ρ (n:Int)=some false:=by
 exact(Ykz (Ym9 h0 h) (Yv (Ydk (Yv (takT h0 h) rfl) (Ydn (n:=m) (by lia))) rfl)).trans (Yqa _)
theorem Yzb{τ:Type}{ra rb:TrV τ}{fe:TeV τ}{gt:D->Ro->Option Ro}{fs:TmV τ}{ρ:Ro}{t:τ}(h:ra ρ t=some true):vFor ra fe gt fs rb ρ t=some true:=by
 unfold vFor
 rw[h]
 rfl
theorem y25{τ:Type}{ra rb:TrV τ}{fe:TeV τ}{gt:D->Ro->Option Ro}{fs:TmV τ}{ρ:Ro}{t t':τ}{m:Nat}(hm:m<=1000)(h:ra ρ t=some false)(h2:fe ρ t=some (.int (m:Int),t')):vFor ra fe gt fs rb ρ t=Yhb gt fs rb ((List.range m).map fun i=>D.int (0+(i:Nat))) ρ t':=by
 unfold vFor
 rw[h,qd,if_neg qi,h2]
 show(rng1 [.int (m:Int)]).bind _=_
 rw[Yph (by lia) (by lia),Ypg]
 rfl
section
variable {α:Type} {ws:List Str} {form:Str} {x:Addr} {fs:TmV Int} {rb:TrV Int} {enc:α->D} {wx:α->List (Str × Fm)}
def St4(form:Str)(x:Addr)(acc:List D)(y:Option B):Ro:=[some (.sh (.str form)),some (.sh (.adr x)),some (.ow acc),y]
def LNo(ws:List Str)(form:Str)(x:Addr)(fs:TmV Int)(rb:TrV Int)(w:List Str)(e:D):Prop:=∀(n:Nat) (acc:List D) (d:D),acc.length < 1000->At ws n w->rb (St4 form x acc (some (.sh d))) (n:Int)=some false/\fs (St4 form x acc (some (.sh d))) (n:Int)=some (.nx (St4 form x (acc++[e]) (some (.sh d))) ((n+w.length:Nat):Int))
def LYes(ws:List Str)(form:Str)(x:Addr)(rb:TrV Int)(w:List (Str × Fm)):Prop:=∀(n:Nat) (acc:List D) (d:D),Bad ws n w->rb (St4 form x acc (some (.sh d))) (n:Int)=some true
theorem Yk0{is:List D}{d e:D}{acc:List D}{y:Option B}{n:Nat}{w:List Str}(h:LNo ws form x fs rb w e)(hl:acc.length < 1000)(ha:At ws n w):Yhb (gSet 3) fs rb (d::is) (St4 form x acc y) (n:Int)=Yhb (gSet 3) fs rb is (St4 form x (acc++[e]) (some (.sh d))) ((n+w.length:Nat):Int):=by
 obtain⟨h1,h2⟩:=h n acc d hl ha
 rw[Yhb]
 show(rb (St4 form x acc (some (.sh d))) (n:Int)).bind _=_
 rw[h1,qd,if_neg qi]
 show(fs (St4 form x acc (some (.sh d))) (n:Int)).bind _=_
 rw[h2]
 rfl
theorem y59:∀(l:List α) (is acc:List D) (y:Option B) (n:Nat),is.length=l.length->acc.length+l.length < 1000->(∀a∈l,LNo ws form x fs rb (wo (wx a)) (enc a))->At ws n (wo (l.flatMap wx))->Yhb (gSet 3) fs rb is (St4 form x acc y) (n:Int)=some false
 | [],[],_,_,_,_,_,_,_=>rfl
 | [],_::_,_,_,_,h,_,_,_=>by simp at h
 | _::_,[],_,_,_,h,_,_,_=>by simp at h
 | a::l,d::is,acc,y,n,h,h2,h3,h4=>by
   rw[qs]at h2
   rw[Qk,wo,Qi]at h4
   rw[Yk0 (h3 a (.head _)) (by lia) h4.app.1]
   exact y59 l is _ _ _ (by simpa using h) (by rw[qw,List.length_singleton];lia) (fun b hb=>h3 b (.tail _ hb)) h4.app.2
theorem y0i:∀(l:List α) (is acc:List D) (y:Option B) (n:Nat),is.length=l.length->acc.length+l.length < 1000->(∀a∈l,LNo ws form x fs rb (wo (wx a)) (enc a))->(∀a∈l,LYes ws form x rb (wx a))->Bad ws n (l.flatMap wx)->Yhb (gSet 3) fs rb is (St4 form x acc y) (n:Int)=some true
 | [],[],_,_,_,_,_,_,_,h=>h.elim
 | [],_::_,_,_,_,h,_,_,_,_=>by simp at h
 | _::_,[],_,_,_,h,_,_,_,_=>by simp at h
 | a::l,d::is,acc,y,n,h,h2,h3,h3',h4=>by
   rw[qs]at h2
   rw[Qk]at h4
   rcases h4.app with h5 | ⟨h5,h6⟩
   ·rw[Yhb]
    show(rb (St4 form x acc (some (.sh d))) (n:Int)).bind _=_
    rw[h3' a (.head _) n acc d h5]
    rfl
   ·rw[Yk0 (h3 a (.head _)) (by lia) h5]
    refine y0i l is _ _ _ (by simpa using h) (by rw[qw,List.length_singleton];lia) (fun b hb=>h3 b (.tail _ hb)) (fun b hb=>h3' b (.tail _ hb)) ?_
    rw[wo,qf]
    exact h6
end
structure PX(k:Nat)(ws:List Str)(form:Str)(wx:List (Str × Fm))(d:D):Prop where
 val:∀n,At ws n (wo wx)->Ye k ws [.str form] (n:Int)=some (d,((n+(wo wx).length:Nat):Int))
 no:∀n,At ws n (wo wx)->Yw k ws [.str form] (n:Int)=some false
 yes:∀n,Bad ws n wx->Yw k ws [.str form] (n:Int)=some true
structure RX(k:Nat)(ws:List Str)(p:Addr)(wx:List (Str × Fm))(d:D):Prop where
 val:∀n,At ws n (wo wx)->Yk k ws [.adr p] (n:Int)=some (d,((n+(wo wx).length:Nat):Int))
 no:∀n,At ws n (wo wx)->Yu k ws [.adr p] (n:Int)=some false
 yes:∀n,Bad ws n wx->Yu k ws [.adr p] (n:Int)=some true
theorem Yna{k:Nat}{ws:List Str}{form:Str}{n:Int}{b:Bool}(h:∀l,Ybq ws (Yk k ws) (Yu k ws) l [some (.sh (.str form)),some (.sh (.adr l)),none,none] n=some b):Yw (k+1) ws [.str form] n=some b:=by
 rw[Yw]
 exact Ymo _ h
theorem Yry{k:Nat}{ws:List Str}{p:Addr}{n:Int}{b:Bool}(h:∀l,Yc2 ws (Ye k ws) (Yw k ws) l [some (.sh (.adr p)),some (.sh (.adr l))] n=some b):Yu (k+1) ws [.adr p] n=some b:=by
 rw[Yu]
 exact Ymo _ h
theorem Yeq{τ:Type}{f:Ro->Option Bool}{ρ:Ro}{t:τ}{b:Bool}(h:f ρ=some b):Yob f ρ t=some (b,t):=by
 unfold Yob
 rw[h]
 rfl
theorem Ynb{τ:Type}{i:Nat}{r:TrV τ}{ρ:Ro}{t:τ}{xs:List D}(h:getO i ρ=some xs):vApp i r ρ t=r ρ t:=by
 unfold vApp
 rw[h]
 rfl
theorem y26{k:Nat}{ws:List Str}{f:Fm}{w:Str}{d:D}(hl:fmN f∈[T "truth",T "beacon",T "source"])(hc:f≠.cnt)(hw:y4 [.str (fmN f),.str w]=some d)(hn:Yr [.str (fmN f),.str w]=some false):PX (k+1) ws (fmN f) [(w,f)] d:=by
 have i1:inG true y0 (.str (fmN f))=some true:=Yli (Ym3 _ hl).1
 have i2:inG true Ycx (.str (fmN f))=some true:=Yli (Ym3 _ hl).2
 have hc0:∀l,Yob (andT (b1 (getC 0) (inG true y0)) (b1 (getC 0) (inG true Ycx))) [some (.sh (.str (fmN f))),some (.sh (.adr l)),none,none]=fun t:Int=>some (true,t):=fun l=>by
  funext t
  exact Yeq (by simp[i1,i2])
 refine⟨fun n ha=>Yrp hl hw n ha,fun n ha=>Yna fun l=>?_,fun n hb=>Yna fun l=>?_⟩
 ·unfold Ybq
  have hg:ws[n]?=some w:=ha.head
  refine y57 (d:=d) (t':=((n+1:Nat):Int)) ?_ ?_
  ·rw[Yfq (congrFun (hc0 l) _),if_pos rfl]
   exact Yqc rfl rfl hg hn
  ·rw[Ypx (by simp[i1,i2])]
   exact Yef (Ydk (Yv (Yas rfl) (Yv (takT rfl hg) rfl)) hw)
 ·unfold Ybq
  refine Yqb ?_
  rw[Yfq (congrFun (hc0 l) _),if_pos rfl]
  rcases hb with hb | ⟨_,hb⟩
  ·exact Ywk rfl rfl hc hb
  ·exact hb.elim
section
variable {k:Nat} {ws:List Str} {form:Str} {α:Type} {enc:α->D} {wx:α->List (Str × Fm)} {l:List α}
theorem y6a(h12:inG true y0 (.str form)=some false\/(inG true y0 (.str form)=some true/\inG true Ycx (.str form)=some false))(hl:l.length<=200)
 (hno:∀x,∀a∈l,LNo ws form x (Yai ws (Yk k ws) x) (Ya0 ws (Yk k ws) (Yu k ws) x) (wo (wx a)) (enc a))
 (hyes:∀x,∀a∈l,LYes ws form x (Ya0 ws (Yk k ws) (Yu k ws) x) (wx a)) :
 (∀n,At ws n (wo ((num l.length,Fm.cnt)::l.flatMap wx))->Yw (k+1) ws [.str form] (n:Int)=some false)/\∀n,Bad ws n ((num l.length,Fm.cnt)::l.flatMap wx)->Yw (k+1) ws [.str form] (n:Int)=some true:=by
 have hand:∀l,(andT (b1 (getC 0) (inG true y0)) (b1 (getC 0) (inG true Ycx))) [some (.sh (.str form)),some (.sh (.adr l)),none,none]=some false:=fun l=>by
  rcases h12 with h1 | ⟨h1,h2⟩
  ·simp[h1]
  ·simp[h1,h2]
 have hg:∀x n,Ybq ws (Yk k ws) (Yu k ws) x [some (.sh (.str form)),some (.sh (.adr x)),none,none] (n:Int)=vFor (cntR ws x) (Yfr (Yax (Yfr (Yax (y3 x 1 (Yau aNil (Yz ws))) nilE) Yaf) nilE) Yb7) (gSet 3) (Yai ws (Yk k ws) x) (Ya0 ws (Yk k ws) (Yu k ws) x) (St4 form x [] none) n:=fun x n=>by
  unfold Ybq
  rw[Yot (ρ':=[some (.sh (.str form)),some (.sh (.adr x)),none,none]) (t':=n)]
  ·rw[Yot (ρ':=St4 form x [] none) (t':=n) rfl (Ydj (by simp[St4]))]
  ·rw[Yfq (Yeq (hand x)),if_neg qi]
   rfl
  ·rw[Yok (hand x)]
   rfl
 have hfor:∀(x:Addr) (n:Nat),ws[n]?=some (num l.length)->Ybq ws (Yk k ws) (Yu k ws) x [some (.sh (.str form)),some (.sh (.adr x)),none,none] (n:Int)=Yhb (gSet 3) (Yai ws (Yk k ws) x) (Ya0 ws (Yk k ws) (Yu k ws) x) ((List.range l.length).map fun i=>D.int (0+(i:Nat))) (St4 form x [] none) ((n+1:Nat):Int):=fun x n h=>by
  rw[hg x]
  exact y25 (by lia) (y72 rfl h hl) (Ydk (Yv (Ydk (Yv (takT rfl h) rfl) (Ydn (n:=l.length) (by lia))) rfl) (Yeg (by simp)))
 refine⟨fun n ha=>Yna fun x=>?_,fun n hb=>Yna fun x=>?_⟩
 ·rw[hfor x n ha.head]
  exact y59 l _ [] none (n+1) (by simp) (by simp;lia) (hno x) ha.tail
 ·rcases hb with hb | ⟨h1,hb⟩
  ·rw[hg x]
   exact Yzb (y24 rfl hb)
  ·rw[hfor x n h1]
   exact y0i l _ [] none (n+1) (by simp) (by simp;lia) (hno x) (hyes x) hb
end
end Lw
namespace Lw
open PySem L2 M Bk
def cntX{α:Type}(f:Fm)(w:α->Str)(l:List α):List (Str × Fm):=(num l.length,Fm.cnt)::l.flatMap fun a=>[(w a,f)]
theorem Yg2{α:Type}(f:Fm)(w:α->Str)(l:List α):wo (cntX f w l)=cntW w l:=by
 unfold cntX cntW wo
 rw[qz,List.map_flatMap]
 congr 1
 induction l with
 | nil=>rfl
 | cons a l ih=>rw[Qk,ih];rfl
theorem sevX{k:Nat}{ws:List Str}{form:Str}{f:Fm}{α:Type}{enc:α->D}{w:α->Str}{l:List α}(h1:form∈y0)(h2:Yme gt_SEVERAL (.str form)=some (.str (fmN f)))(hc:f≠.cnt)(hl:l.length<=200)(hw:∀a∈l,y4 [.str (fmN f),.str (w a)]=some (enc a))(hx:∀a∈l,Yr [.str (fmN f),.str (w a)]=some false):PX (k+1) ws form (cntX f w l) (.tup (l.map enc)):=by
 have i1:inG false y0 (.str form)=some true:=Ylh h1
 have hm:=y6a (k:=k) (ws:=ws) (form:=form) (enc:=enc) (wx:=fun a=>[(w a,f)]) (l:=l) (.inl (Ylh h1)) hl (fun x a ha n acc d hl hat=>by
  have hg:ws[n]?=some (w a):=hat.head
  constructor
  ·unfold Ya0
   rw[Yfq (Yeq (b:=true) (by simp[St4,i1])),if_pos rfl,Ynb (xs:=acc) (by simp[St4])]
   exact Yqc rfl (d:=.str (fmN f)) (by simp[St4,h2]) hg (hx a ha)
  ·unfold Yai
   rw[Ypx (by simp[St4,i1])]
   exact Yi6 (by simp[St4]) (by lia) (Ydk (Yv (Yas (d:=.str (fmN f)) (by simp[St4,h2])) (Yv (takT rfl hg) rfl)) (hw a ha))) (fun x a ha n acc d hb=>by
  unfold Ya0
  rw[Yfq (Yeq (b:=true) (by simp[St4,i1])),if_pos rfl,Ynb (xs:=acc) (by simp[St4])]
  rcases hb with hb | ⟨_,hb⟩
  ·exact Ywk rfl (by simp[St4,h2]) hc hb
  ·exact hb.elim)
 refine⟨fun n ha=>?_,hm.1,hm.2⟩
 rw[Yg2]at ha ⊢
 exact Yim h1 h2 hl ha hw
theorem Ync{α:Type}(wx:α->List (Str × Fm))(l:List α):wo (l.flatMap wx)=l.flatMap fun a=>wo (wx a):=List.map_flatMap ..
theorem y27{k:Nat}{ws:List Str}{form:Str}{p:Addr}{α:Type}{enc:α->D}{wx:α->List (Str × Fm)}{l:List α}(h1:¬form∈y0)(h2:form∈Ycx)(h3:Yd9 gt_ROWS (.str form)=some (.adr p))(hl:l.length<=200)(hw:∀a∈l,RX k ws p (wx a) (enc a)) :
 PX (k+1) ws form ((num l.length,.cnt)::l.flatMap wx) (.tup (l.map enc)):=by
 have i1:inG false y0 (.str form)=some false:=Yli h1
 have hm:=y6a (k:=k) (ws:=ws) (form:=form) (enc:=enc) (wx:=wx) (l:=l) (.inr ⟨Yli h1,Ylh h2⟩) hl (fun x a ha n acc d hl hat=>by
  constructor
  ·unfold Ya0
   rw[Yfq (Yeq (b:=false) (by simp[St4,i1])),if_neg qi,Ynb (xs:=acc) (by simp[St4])]
   exact vT1 rfl (ds:=[.adr p]) (by simp[St4,h3]) ((hw a ha).no n hat)
  ·unfold Yai
   rw[Yok (by simp[St4,i1])]
   exact Yi6 (by simp[St4]) (by lia) (Yep rfl (ds:=[.adr p]) (by simp[St4,h3]) ((hw a ha).val n hat))) (fun x a ha n acc d hb=>by
  unfold Ya0
  rw[Yfq (Yeq (b:=false) (by simp[St4,i1])),if_neg qi,Ynb (xs:=acc) (by simp[St4])]
  exact vT1 rfl (ds:=[.adr p]) (by simp[St4,h3]) ((hw a ha).yes n hb))
 refine⟨fun n ha=>?_,hm.1,hm.2⟩
 have e:wo ((num l.length,Fm.cnt)::l.flatMap wx)=num l.length::l.flatMap fun a=>wo (wx a):=by
  rw[<-Ync]
  rfl
 rw[e]at ha ⊢
 exact Yro h1 h2 h3 hl ha fun a ha n=>(hw a ha).val n
section
variable {k:Nat} {ws:List Str} {l:Addr}
theorem Ywl:∀(ps:List (D × Str × List (Str × Fm))) (n:Nat),At ws n (wo (ps.flatMap (·.2.2)))->(∀a∈ps,PX k ws a.2.1 a.2.2 a.1)->Yh2 (gSet 0) (Yah ws (Ye k ws) l) (Ya2 ws (Ye k ws) (Yw k ws) l) [none,some (.sh (.adr l))] (ps.map fun a=>D.str a.2.1) (n:Int)=some false
 | [],n,_,_=>rfl
 | a::ps,n,ha,h=>by
   rw[Qk,wo,Qi]at ha
   have h1:=(h a (.head _)).val n ha.app.1
   have h0:=(h a (.head _)).no n ha.app.1
   have h2:=Ywl ps _ ha.app.2 fun b hb=>h b (.tail _ hb)
   rw[qz,Yh2]
   show(Ya2 ws (Ye k ws) (Yw k ws) l [some (.sh (.str a.2.1)),some (.sh (.adr l))] (n:Int)).bind _=_
   have h3:Ya2 ws (Ye k ws) (Yw k ws) l [some (.sh (.str a.2.1)),some (.sh (.adr l))] (n:Int)=some false:=vT1 rfl rfl h0
   rw[h3,qd,if_neg qi]
   show(Yah ws (Ye k ws) l [some (.sh (.str a.2.1)),some (.sh (.adr l))] (n:Int)).bind _=_
   have h4:Yah ws (Ye k ws) l [some (.sh (.str a.2.1)),some (.sh (.adr l))] (n:Int)=some (a.1,((n+(wo a.2.2).length:Nat):Int)):=Yep rfl rfl h1
   rw[h4,qd]
   exact h2
theorem Yrz:∀(ps:List (D × Str × List (Str × Fm))) (n:Nat),Bad ws n (ps.flatMap (·.2.2))->(∀a∈ps,PX k ws a.2.1 a.2.2 a.1)->Yh2 (gSet 0) (Yah ws (Ye k ws) l) (Ya2 ws (Ye k ws) (Yw k ws) l) [none,some (.sh (.adr l))] (ps.map fun a=>D.str a.2.1) (n:Int)=some true
 | [],n,hb,_=>hb.elim
 | a::ps,n,hb,h=>by
   rw[Qk]at hb
   rw[qz,Yh2]
   show(Ya2 ws (Ye k ws) (Yw k ws) l [some (.sh (.str a.2.1)),some (.sh (.adr l))] (n:Int)).bind _=_
   rcases hb.app with hb | ⟨ha,hb⟩
   ·have h3:Ya2 ws (Ye k ws) (Yw k ws) l [some (.sh (.str a.2.1)),some (.sh (.adr l))] (n:Int)=some true:=vT1 rfl rfl ((h a (.head _)).yes n hb)
    rw[h3]
    rfl
   ·have h1:=(h a (.head _)).val n ha
    have h0:=(h a (.head _)).no n ha
    have hb:Bad ws (n+(wo a.2.2).length) (ps.flatMap (·.2.2)):=by
     rw[wo,qf]
     exact hb
    have h2:=Yrz ps _ hb fun b hb=>h b (.tail _ hb)
    have h3:Ya2 ws (Ye k ws) (Yw k ws) l [some (.sh (.str a.2.1)),some (.sh (.adr l))] (n:Int)=some false:=vT1 rfl rfl h0
    rw[h3,qd,if_neg qi]
    show(Yah ws (Ye k ws) l [some (.sh (.str a.2.1)),some (.sh (.adr l))] (n:Int)).bind _=_
    have h4:Yah ws (Ye k ws) l [some (.sh (.str a.2.1)),some (.sh (.adr l))] (n:Int)=some (a.1,((n+(wo a.2.2).length:Nat):Int)):=Yep rfl rfl h1
    rw[h4,qd]
    exact h2
end
theorem Yr0{k:Nat}{ws:List Str}{p:Addr}{ss:List Str}(h:ktab.lookup p=some ss)(ps:List (D × Str × List (Str × Fm)))(hs:ss=ps.map (·.2.1))(hl:ps.length<=3)(hw:∀a∈ps,PX k ws a.2.1 a.2.2 a.1):RX (k+1) ws p (ps.flatMap (·.2.2)) (.tup (ps.map (·.1))):=by
 have ht:∀l,b1 (getV 0) (tabD ktab) [some (.sh (.adr p)),some (.sh (.adr l))]=some (ps.map fun a=>D.str a.2.1):=fun l=>by
  show(ktab.lookup p).map (fun ss=>ss.map D.str)=_
  rw[h,hs,Option.map_some,List.map_map]
  rfl
 refine⟨fun n ha=>?_,fun n ha=>Yry fun l=>?_,fun n hb=>Yry fun l=>?_⟩
 ·have:=Ykw (k:=k) (n:=n) h (ps.map fun a=>(a.1,a.2.1,wo a.2.2)) (by rw[hs,List.map_map];rfl) (by rw[qf];exact hl) (by
   rw[List.flatMap_map]
   rw[Ync]at ha
   exact ha) (by
   intro a ha
   obtain⟨b,hb,rfl⟩:=List.mem_map.mp ha
   exact(hw b hb).val)
  rw[List.map_map,List.flatMap_map]at this
  rw[Ync]
  exact this
 ·unfold Yc2 Yki
  rw[ht,qd]
  exact Ywl ps n ha hw
 ·unfold Yc2 Yki
  rw[ht,qd]
  exact Yrz ps n hb hw
theorem Ywm{k:Nat}{ws:List Str}{p:Addr}{s1 s2 s3:Str}{d1 d2 d3:D}{w1 w2 w3:List (Str × Fm)}(h:ktab.lookup p=some [s1,s2,s3])(h1:PX k ws s1 w1 d1)(h2:PX k ws s2 w2 d2)(h3:PX k ws s3 w3 d3):RX (k+1) ws p (w1++(w2++w3)) (.tup [d1,d2,d3]):=by
 have:=Yr0 h [(d1,s1,w1),(d2,s2,w2),(d3,s3,w3)] rfl (by simp) (by
  intro a ha
  simp at ha
  rcases ha with rfl | rfl | rfl
  ·exact h1
  ·exact h2
  ·exact h3)
 simpa using this
theorem Yr1{k:Nat}{ws:List Str}{p:Addr}{s1 s2:Str}{d1 d2:D}{w1 w2:List (Str × Fm)}(h:ktab.lookup p=some [s1,s2])(h1:PX k ws s1 w1 d1)(h2:PX k ws s2 w2 d2):RX (k+1) ws p (w1++w2) (.tup [d1,d2]):=by
 have:=Yr0 h [(d1,s1,w1),(d2,s2,w2)] rfl (by simp) (by
  intro a ha
  simp at ha
  rcases ha with rfl | rfl
  ·exact h1
  ·exact h2)
 simpa using this
theorem Yr2{k:Nat}{ws:List Str}{p:Addr}{s1:Str}{d1:D}{w1:List (Str × Fm)}(h:ktab.lookup p=some [s1])(h1:PX k ws s1 w1 d1):RX (k+1) ws p w1 (.tup [d1]):=by
 have:=Yr0 h [(d1,s1,w1)] rfl (by simp) (by
  intro a ha
  simp at ha
  subst ha
  exact h1)
 simpa using this
section
variable {k n:Nat} {ws:List Str}
theorem You{a:List Say}(h:OkR a):PX (k+1) ws (T "road") (cntX .say sayW a) (Ygn a):=
 sevX fm_sev.1 (lkG fm_sev.2.2.2.1) Fm.noConfusion h.1 (fun p hp=>y51 (h.2 p hp)) fun p hp=>y71 (h.2 p hp)
theorem Ynd{a:List Nat}(h:OkN 201 a):PX (k+1) ws (T "places") (cntX .pla num a) (numsD a):=
 sevX fm_sev.2.1 (lkG fm_sev.2.2.2.2.1) Fm.noConfusion h.1 (fun p hp=>Yv7 (h.2 p hp)) fun p hp=>y22 (h.2 p hp)
theorem Yk1{a:List Nat}(h:OkN 60 a):PX (k+1) ws (T "beacons") (cntX .bea num a) (numsD a):=
 sevX fm_sev.2.2.1 (lkG fm_sev.2.2.2.2.2) Fm.noConfusion h.1 (fun p hp=>Yjr (h.2 p hp)) fun p hp=>Yrw (h.2 p hp)
theorem Yne{m:Nat}(h:m < 60):PX (k+1) ws (T "beacon") [(num m,.bea)] (nD m):=y26 (f:=.bea) (.tail _ (.head _)) Fm.noConfusion (Yjr h) (Yrw h)
theorem Yr3{s:Option Nat}(h:∀x,s=some x->x < 60):PX (k+1) ws (T "source") [(Ydq s,.sou)] (optD s):=y26 (f:=.sou) (.tail _ (.tail _ (.head _))) Fm.noConfusion (Yrm h) (Yy9 h)
theorem Ywn(b:Bool):PX (k+1) ws (T "truth") [(yesW b,.tru)] (.bl b):=y26 (f:=.tru) (.head _) Fm.noConfusion (Yv6 b) (y21 b)
def xRw:K3->Rw->List (Str × Fm)
 | .pl,(a,s,_,b)=>[(num a,.bea),(Ydq s,.sou),(yesW b,.tru)]
 | .su,(a,_,xs,b)=>(num a,.bea)::(cntX .bea num xs++[(yesW b,.tru)])
 | .ro,(a,_,xs,_)=>(num a,.bea)::cntX .bea num xs
def Yk2(k:K3)(rs:List Rw):List (Str × Fm):=(num rs.length,.cnt)::rs.flatMap (xRw k)
def paX:Pa->List (Str × Fm)
 | .br=>[]
 | .cl _ a b=>cntX .say sayW a++cntX .say sayW b
 | .cr a=>cntX .say sayW a
 | .od a=>cntX .pla num a
 | .lo s a b=>(Ydq s,.sou)::(cntX .pla num a++cntX .pla num b)
 | .pl k _ rs=>Yk2 k rs
 | .ro a rs=>cntX .bea num a++Yk2 .ro rs
theorem y73{q:K3}{r:Rw}(h:OkRw r):RX (k+2) ws (match q with | .pl=>163 | .su=>164 | .ro=>165) (xRw q r) (rwD q r):=by
 obtain⟨a,s,xs,b⟩:=r
 obtain⟨ha,hs,hx⟩:=h
 cases q with
 | pl=>exact Ywm fm_look.2.2.2.1 (Yne ha) (Yr3 hs) (Ywn b)
 | su=>exact Ywm fm_look.2.2.2.2.1 (Yne ha) (Yk1 hx) (Ywn b)
 | ro=>exact Yr1 fm_look.2.2.2.2.2 (Yne ha) (Yk1 hx)
theorem Ywo{q:K3}{rs:List Rw}(h:OkRs rs):PX (k+3) ws (match q with | .pl=>T "plan rows" | .su=>T "sum rows" | .ro=>T "if rows") (Yk2 q rs) (.tup (rs.map (rwD q))):=by
 have hr:∀r∈rs,RX (k+2) ws (match q with | .pl=>163 | .su=>164 | .ro=>165) (xRw q r) (rwD q r):=fun r hr=>y73 (h.2 r hr)
 cases q with
 | pl=>exact y27 (Ydr _ (.head _)).1 (Ydr _ (.head _)).2 (lkA fm_look.1) h.1 hr
 | su=>exact y27 (Ydr _ (.tail _ (.head _))).1 (Ydr _ (.tail _ (.head _))).2 (lkA fm_look.2.1) h.1 hr
 | ro=>exact y27 (Ydr _ (.tail _ (.tail _ (.head _)))).1 (Ydr _ (.tail _ (.tail _ (.head _)))).2 (lkA fm_look.2.2.1) h.1 hr
theorem Yqd{p:Pa}(h:OkPa p):RX 6 ws (paA p) (paX p) (.tup (paL p)):=by
 obtain⟨t0,t1,t2,t3,t4,t5,t6,t7,t8⟩:=y0a
 match p with
 | .br=>exact Yr0 t0 [] rfl (by simp) fun _ h=>(nomatch h)
 | .cl false a b=>exact Yr1 t1 (You h.1) (You h.2)
 | .cl true a b=>exact Yr1 t3 (You h.1) (You h.2)
 | .cr a=>exact Yr2 t2 (You h)
 | .od a=>exact Yr2 t4 (Ynd h)
 | .lo s a b=>exact Ywm t5 (Yr3 h.1) (Ynd h.2.1) (Ynd h.2.2)
 | .pl .pl _ rs=>exact Yr2 t6 (Ywo (q:=.pl) h)
 | .pl .su _ rs=>exact Yr2 t7 (Ywo (q:=.su) h)
 | .pl .ro h _=>exact absurd rfl h
 | .ro a rs=>exact Yr1 t8 (Yk1 h.1) (Ywo (q:=.ro) h.2)
theorem y74(q:K3)(r:Rw):wo (xRw q r)=Yby q r:=by
 obtain⟨a,s,xs,b⟩:=r
 cases q with
 | pl=>rfl
 | su=>
   show num a::wo (cntX .bea num xs++[(yesW b,.tru)])=num a::(cntW num xs++[yesW b])
   rw[wo,Qi,<-wo,Yg2]
   rfl
 | ro=>
   show num a::wo (cntX .bea num xs)=num a::cntW num xs
   rw[Yg2]
theorem Ywp(q:K3)(rs:List Rw):wo (Yk2 q rs)=Yht q rs:=by
 show num rs.length::wo (rs.flatMap (xRw q))=num rs.length::rs.flatMap (Yby q)
 rw[Ync]
 congr 2
 funext r
 exact y74 q r
theorem Yqe(p:Pa):wo (paX p)=paW p:=by
 match p with
 | .br=>rfl
 | .cl _ a b=>
   show wo (cntX .say sayW a++cntX .say sayW b)=cntW sayW a++cntW sayW b
   rw[wo,Qi,<-wo,<-wo,Yg2,Yg2]
 | .cr a=>exact Yg2 ..
 | .od a=>exact Yg2 ..
 | .lo s a b=>
   show Ydq s::wo (cntX .pla num a++cntX .pla num b)=Ydq s::(cntW num a++cntW num b)
   rw[wo,Qi,<-wo,<-wo,Yg2,Yg2]
 | .pl k _ rs=>exact Ywp k rs
 | .ro a rs=>
   show wo (cntX .bea num a++Yk2 .ro rs)=cntW num a++Yht .ro rs
   rw[wo,Qi,<-wo,<-wo,Yg2,Ywp]
end
end Lw
namespace Lw
open PySem L2 M Bk
inductive Refd (ws:List Str):Prop
 | fst {w:Str} (h:ws[0]?=some w) (hn:¬w∈Ybc)
 | bad {p:Pa} (ho:OkPa p) (h:ws[0]?=some (paN p)) (hb:Bad ws 1 (paX p))
 | more {p:Pa} (ho:OkPa p) (h:At ws 0 (paN p::paW p)) (hn:¬1+(paW p).length=ws.length)
theorem y6b(p:Pa):inG true Ybc (.str (paN p))=some false:=Ylh (by
 have h1:∀i,nm i∈Ybc:=by decide +kernel
 match p with
 | .br=>exact h1 0
 | .cl false _ _=>exact h1 1
 | .cl true _ _=>exact h1 3
 | .cr _=>exact h1 2
 | .od _=>exact h1 4
 | .lo _ _ _=>exact h1 5
 | .pl .pl _ _=>exact h1 6
 | .pl .su _ _=>exact h1 7
 | .pl .ro h _=>exact absurd rfl h
 | .ro _ _=>exact h1 8)
section
variable {t w:Str} {ws:List Str} {l:Addr}
theorem Yr4(h:ws[0]?=some w){r:Option Bool}(hr:vGo (vIf (Yob (b1 (getC 2) (inG true Ybc))) vYes vNo) (Ydl (sIf (b1 (getC 2) (inG true Ybc)) nS sNil)) (vGo (vAt l 1 (Yfa (Yg (b1 (getC 2) (Yd9 gt_PAPERS)) aNil) (Ycr ws))) (setE 3 (y3 l 1 (Yau (Yg (b1 (getC 2) (Yd9 gt_PAPERS)) aNil) (Ya9 ws)))) (vIf (notE (blE (y3 l 1 (Yau aNil (Yae ws))))) vYes vNo)) [some (.sh (.str t)),some (.sh (.adr l)),some (.sh (.str w)),none] ((0+1:Nat):Int)=r):Yce ws l [some (.sh (.str t)),some (.sh (.adr l)),none,none] ((0:Nat):Int)=r:=by
 unfold Yce
 rw[Yot (Ym9 rfl h) (Ydf (takT rfl h))]
 exact hr
theorem Yr5{p:Pa}(h:ws[0]?=some (paN p)){r:Option Bool}(hr:vGo (vAt l 1 (Yfa (Yg (b1 (getC 2) (Yd9 gt_PAPERS)) aNil) (Ycr ws))) (setE 3 (y3 l 1 (Yau (Yg (b1 (getC 2) (Yd9 gt_PAPERS)) aNil) (Ya9 ws)))) (vIf (notE (blE (y3 l 1 (Yau aNil (Yae ws))))) vYes vNo) [some (.sh (.str t)),some (.sh (.adr l)),some (.sh (.str (paN p))),none] ((0+1:Nat):Int)=r):Yce ws l [some (.sh (.str t)),some (.sh (.adr l)),none,none] ((0:Nat):Int)=r:=by
 have hin:=y6b p
 refine Yr4 h ?_
 rw[Yot (ρ':=[some (.sh (.str t)),some (.sh (.adr l)),some (.sh (.str (paN p))),none]) (t':=((0+1:Nat):Int))]
 ·exact hr
 ·rw[Yfq (Yeq (b:=false) (by simp[hin])),if_neg qi]
  rfl
 ·exact Ydj (by simp[hin])
theorem y28(h:Refd ws):Yce ws l [some (.sh (.str t)),some (.sh (.adr l)),none,none] ((0:Nat):Int)=some true:=by
 cases h with
 | fst h hn=>
   refine Yr4 h (Yqb ?_)
   have hin:=Yli (neg:=true) hn
   rw[Yfq (Yeq (b:=true) (by simp[hin])),if_pos rfl]
   rfl
 | @bad p ho h hb=>
   have hlk:=y2u p
   refine Yr5 h (Yqb ?_)
   exact vT1 rfl (ds:=[.adr (paA p)]) (by simp[hlk]) ((Yqd ho).yes 1 hb)
 | @more p ho h hn=>
   have hlk:=y2u p
   have hat:=h.tail
   rw[<-Yqe]at hat
   refine Yr5 h.head ?_
   have h1:Ycr ws [.adr (paA p)] ((0+1:Nat):Int)=some false:=(Yqd ho).no 1 hat
   have h2:Ya9 ws [.adr (paA p)] ((0+1:Nat):Int)=some (.tup (paL p),((1+(wo (paX p)).length:Nat):Int)):=(Yqd ho).val 1 hat
   refine(Yot (vT1 rfl (ds:=[.adr (paA p)]) (by simp[hlk]) h1) (Ydf (Yep rfl (ds:=[.adr (paA p)]) (by simp[hlk]) h2))).trans ?_
   rw[Yfq (Yv9 (Yrn (Yep rfl rfl (Yjs ws _)))),Yqe,decide_eq_false hn]
   rfl
end
theorem y29{t:Str}{ws:List Str}(hl:t.length<=1000000)(hs:Txt.split t (T " ")=ws)(h:Refd ws):y2 [.str t]=some true:=by
 rw[y2,Ygb (by rfl)]
 show Yvi 1 Yat (getV 0) Yce [some (.sh (.str t)),none,none,none]=_
 unfold Yvi
 show(Yat [none,some (.sh (.str t))]).bind _=_
 have h2:Yat [none,some (.sh (.str t))]=some (.lst (ws.map D.str)):=by
  show Yq2 (T " ") (.str t)=_
  show(if t.length<=1000000 then some (D.lst ((Txt.split t (T " ")).map D.str))else none)=_
  rw[if_pos hl,hs]
 rw[h2,qd]
 show(Yk6 (ws.map D.str)).bind _=_
 rw[Yhz,qd]
 exact @if_pos _ (Classical.propDecidable _) (fun l=>y28 h) _ _ _
end Lw
namespace Lw
open PySem L2 M Bk Builtin Builtin.Str
theorem Yb4(a b:Str):(a++b).cps.toList=a.cps.toList++b.cps.toList:=by
 show(a.cps++b.cps).toList=_
 rw[Array.toList_append]
theorem Ycn(x:Str)(l:List Str):(Txt.join sp (x::l)).cps.toList=x.cps.toList++l.flatMap fun p=>32::p.cps.toList:=Yin l x.cps
theorem y0j(s x:Str)(l:List Str):s++Txt.join sp (x::l)=Txt.join sp ((s++x)::l):=Yey (by
 rw[Yb4,Ycn,Ycn,Yb4,Qc])
theorem Yzc(x:Str)(l:List Str):sp++Txt.join sp (x::l)=Txt.join sp (T ""::x::l):=Yey (by
 rw[Yb4,Ycn,Ycn,Qk]
 rfl)
theorem y6c(x:Str)(l:List Str):Txt.join sp (x::l)++sp=Txt.join sp (x::(l++[T ""])):=Yey (by
 rw[Yb4,Ycn,Ycn,List.flatMap_append,Qc]
 rfl)
theorem y6d(s x y:Str)(l:List Str):Txt.join sp (x::(l++[y]))++s=Txt.join sp (x::(l++[y++s])):=Yey (by
 rw[Yb4,Ycn,Ycn,List.flatMap_append,List.flatMap_append,List.flatMap_singleton,List.flatMap_singleton,Yb4]
 simp)
theorem y3a(s x:Str):Txt.join sp [x]++s=Txt.join sp [x++s]:=Yey (by
 rw[Yb4,Ycn,Ycn,Yb4]
 simp)
theorem Ygc{x:Str}{l:List Str}(hns:Ns (x::l))(hl:(Txt.join sp (x::l)).length<=1000000)(h:Refd (x::l)):y2 [.str (Txt.join sp (x::l))]=some true:=
 y29 hl (by
  rw[show T " "=sp from Yp7]
  exact Yio hns) h
theorem Ywq{ws:List Str}:∀{a:List (Str × Fm)} {n i:Nat},i < a.length->(∀j,j < i->ws[n+j]?=(wo a)[j]?)->(∀z,a[i]?=some z->Stop ws (n+i) z.2)->Bad ws n a
 | [],_,_,h,_,_=>absurd h (by simp)
 | x::a,n,0,_,_,h=>.inl (h x rfl)
 | x::a,n,i+1,h,h1,h2=>.inr ⟨h1 0 (by lia),Ywq (i:=i) (by simpa using h) (fun j hj=>by
   have:=h1 (j+1) (by lia)
   rw[show n+(j+1)=n+1+j by lia]at this
   exact this) fun z hz=>by
   have:=h2 z hz
   rw[show n+(i+1)=n+1+i by lia]at this
   exact this⟩
theorem Ynf(p:Pa):(paX p).length=(paW p).length:=by rw[<-Yqe,wo,qf]
theorem Yng{p:Pa}{i:Nat}{b:Str}(ho:OkPa p)(hi:i < (paW p).length)(hb:okW b=true)(hr:∀z,(paX p)[i]?=some z->rejF z.2 b=true):Refd (paN p::(paW p).set i b):=by
 refine .bad ho rfl (Ywq (i:=i) (by rw[Ynf];exact hi) (fun j hj=>?_) fun z hz=>.inr ⟨b,?_,hb,hr z hz⟩)
 ·rw[Yqe,show 1+j=j+1 by lia,List.getElem?_cons_succ,Qb (by lia)]
 ·rw[show 1+i=i+1 by lia,List.getElem?_cons_succ,List.getElem?_set_self hi]
theorem Yzd{p:Pa}{i:Nat}(ho:OkPa p)(hi:i < (paW p).length):Refd (paN p::(paW p).take i):=by
 refine .bad ho rfl (Ywq (i:=i) (by rw[Ynf];exact hi) (fun j hj=>?_) fun z hz=>.inl ?_)
 ·rw[Yqe,show 1+j=j+1 by lia,List.getElem?_cons_succ,List.getElem?_take_of_lt hj]
 ·rw[qs,List.length_take]
  lia
theorem Ywr{p:Pa}{e:Str}(ho:OkPa p):Refd (paN p::(paW p++[e])):=by
 refine .more ho ⟨[e],rfl⟩ ?_
 rw[qs,qw,List.length_singleton]
 lia
def GW:Str × Fm->Prop
 | (w,.cnt)=>∃n,n < 201/\w=num n
 | (w,.pla)=>∃n,n < 201/\w=num n
 | (w,.bea)=>∃n,n < 60/\w=num n
 | (w,.say)=>∃n,n < 60/\∃b,w=sayW (n,b)
 | (w,.tru)=>∃b,w=yesW b
 | (w,.sou)=>w=T "none"\/∃n,n < 60/\w=num n
def GWs(l:List (Str × Fm)):Prop:=∀z∈l,GW z
theorem GWs.cons{z:Str × Fm}{l:List (Str × Fm)}(h:GW z)(h':GWs l):GWs (z::l):=fun y hy=>by
 cases hy with
 | head=>exact h
 | tail _ hy=>exact h' y hy
theorem GWs.app{a b:List (Str × Fm)}(h:GWs a)(h':GWs b):GWs (a++b):=fun x hx=>(qv hx).elim (h x) (h' x)
theorem y0k:GWs []:=fun _ h=>(nomatch h)
theorem Yws{α:Type}{f:Fm}{w:α->Str}{l:List α}(hl:l.length<=200)(h:∀a∈l,GW (w a,f)):GWs (cntX f w l):=.cons ⟨_,by lia,rfl⟩ fun z hz=>by
 obtain⟨a,ha,hz⟩:=List.mem_flatMap.mp hz
 rw[List.mem_singleton.mp hz]
 exact h a ha
theorem Ywt{s:Option Nat}(h:∀x,s=some x->x < 60):GW (Ydq s,.sou):=by
 cases s with
 | none=>exact .inl rfl
 | some n=>exact .inr ⟨n,h n rfl,rfl⟩
theorem Yqf{a:List Say}(h:OkR a):GWs (cntX .say sayW a):=Yws h.1 fun p hp=>⟨p.1,h.2 p hp,p.2,rfl⟩
theorem Yk3{a:List Nat}(h:OkN 201 a):GWs (cntX .pla num a):=Yws h.1 fun p hp=>⟨p,h.2 p hp,rfl⟩
theorem Yi9{a:List Nat}(h:OkN 60 a):GWs (cntX .bea num a):=Yws h.1 fun p hp=>⟨p,h.2 p hp,rfl⟩
theorem y75{q:K3}{r:Rw}(h:OkRw r):GWs (xRw q r):=by
 obtain⟨a,s,xs,b⟩:=r
 obtain⟨ha,hs,hx⟩:=h
 have h1:GW (num a,.bea):=⟨a,ha,rfl⟩
 have h3:GWs [(yesW b,.tru)]:=.cons ⟨b,rfl⟩ y0k
 cases q with
 | pl=>exact .cons h1 (.cons (Ywt hs) h3)
 | su=>exact .cons h1 (.app (Yi9 hx) h3)
 | ro=>exact .cons h1 (Yi9 hx)
theorem Ywu{q:K3}{rs:List Rw}(h:OkRs rs):GWs (Yk2 q rs):=.cons ⟨_,by have:=h.1;lia,rfl⟩ fun z hz=>by
 obtain⟨a,ha,hz⟩:=List.mem_flatMap.mp hz
 exact y75 (h.2 a ha) z hz
theorem y76{p:Pa}(h:OkPa p):GWs (paX p):=by
 match p with
 | .br=>exact y0k
 | .cl _ a b=>exact .app (Yqf h.1) (Yqf h.2)
 | .cr a=>exact Yqf h
 | .od a=>exact Yk3 h
 | .lo s a b=>exact .cons (Ywt h.1) (.app (Yk3 h.2.1) (Yk3 h.2.2))
 | .pl k _ rs=>exact Ywu h
 | .ro a rs=>exact .app (Yi9 h.1) (Ywu h.2)
def sfx:Fin 3->Str
 | 0=>T "\n" | 1=>T "\t" | 2=>T "\n0"
def no32(b:Str):Bool:=b.cps.toList.all (· != 32)
theorem Yc5{b:Str}(h:no32 b=true):32∉b.cps.toList:=fun z=>by
 unfold no32 at h
 have:=List.all_eq_true.mp h 32 z
 simp at this
theorem y6e:∀n,n < 201->∀i,(okW (num n++sfx i)&&rejP (num n++sfx i)&&rejB (num n++sfx i)&&!decide (num n++sfx i=T "none")&&no32 (num n++sfx i))=true:=by decide +kernel
theorem y6f:∀n,n < 60->∀b i,(okW (sayW (n,b)++sfx i)&&rejF .say (sayW (n,b)++sfx i)&&no32 (sayW (n,b)++sfx i))=true:=by decide +kernel
theorem y0l:∀i,(∀b,(okW (yesW b++sfx i)&&rejF .tru (yesW b++sfx i)&&no32 (yesW b++sfx i))=true)/\(okW (T "none"++sfx i)&&rejF .sou (T "none"++sfx i)&&no32 (T "none"++sfx i))=true:=by decide +kernel
theorem y6g{z:Str × Fm}(h:GW z)(i:Fin 3):okW (z.1++sfx i)=true/\rejF z.2 (z.1++sfx i)=true/\32∉(z.1++sfx i).cps.toList:=by
 have hn:∀n,n < 201->okW (num n++sfx i)=true/\rejP (num n++sfx i)=true/\rejB (num n++sfx i)=true/\((rejB (num n++sfx i)&&!decide (num n++sfx i=T "none"))=true)/\32∉(num n++sfx i).cps.toList:=fun n hn=>by
  have:=y6e n hn i
  rw[qx,qx,qx,qx]at this
  obtain⟨⟨⟨⟨a,b⟩,c⟩,d⟩,e⟩:=this
  exact⟨a,b,c,by rw[c,d];rfl,Yc5 e⟩
 obtain⟨w,f⟩:=z
 cases f with
 | cnt=>
   obtain⟨n,h,rfl⟩:=h
   exact⟨(hn n h).1,(hn n h).2.1,(hn n h).2.2.2.2⟩
 | pla=>
   obtain⟨n,h,rfl⟩:=h
   exact⟨(hn n h).1,(hn n h).2.1,(hn n h).2.2.2.2⟩
 | bea=>
   obtain⟨n,h,rfl⟩:=h
   have h:n < 201:=by lia
   exact⟨(hn n h).1,(hn n h).2.2.1,(hn n h).2.2.2.2⟩
 | say=>
   obtain⟨n,h,b,rfl⟩:=h
   have:=y6f n h b i
   rw[qx,qx]at this
   exact⟨this.1.1,this.1.2,Yc5 this.2⟩
 | tru=>
   obtain⟨b,rfl⟩:=h
   have:=(y0l i).1 b
   rw[qx,qx]at this
   exact⟨this.1.1,this.1.2,Yc5 this.2⟩
 | sou=>
   rcases h with rfl | ⟨n,h,rfl⟩
   ·have:=(y0l i).2
    rw[qx,qx]at this
    exact⟨this.1.1,this.1.2,Yc5 this.2⟩
   ·have h:n < 201:=by lia
    exact⟨(hn n h).1,(hn n h).2.2.2.1,(hn n h).2.2.2.2⟩
def bws:List Str:=[T "",T "x",T "201",T "07",T "00",T "+60",T "-07",T "1_0",T "1000",T "+",T "--1",T "None",T "Yes",T "Broken",T "1\t",T "999999999999999999999999999999"]
theorem Yir:∀b∈bws,okW b=true/\rejF .cnt b=true/\rejF .say b=true/\rejF .tru b=true/\rejF .pla b=true/\rejF .bea b=true/\rejF .sou b=true/\¬b∈Ybc/\no32 b=true/\b.length<=30:=by decide +kernel
theorem y6h{b:Str}(h:b∈bws)(f:Fm):rejF f b=true:=by
 obtain⟨_,h1,h2,h3,h4,h5,h6,_⟩:=Yir b h
 cases f<;>assumption
theorem Yze:∀i,¬(T "\n"++nm i)∈Ybc/\¬(T "\t"++nm i)∈Ybc/\32∉(T "\n"++nm i).cps.toList/\32∉(T "\t"++nm i).cps.toList:=by decide +kernel
theorem Yzf:∀i,¬(nm 0++sfx i)∈Ybc/\no32 (nm 0++sfx i)=true:=by decide +kernel
end Lw
namespace Lw
open PySem L2 M Bk
def Sz(l:List Str):Nat:=(l.map fun x:Str=>(T " ").length+x.length).sum
theorem Yr6(a b:List Str):Sz (a++b)=Sz a+Sz b:=by
 unfold Sz
 rw[Qi,List.sum_append]
theorem Ywv{l:List Str}(h:Sh l):Sz l<=l.length * 11:=by
 have h1:=Yrk (s:=(T " ").length) (B:=10) h
 have h3:=lenPM.2.2.2.2.2
 unfold Sz
 rw[h3]at h1 ⊢
 exact h1
theorem Yww{b:Str}(h:b.length<=40):Sz [b]<=41:=by
 show(T " ").length+b.length+0<=_
 have h3:=lenPM.2.2.2.2.2
 lia
theorem Ys0(l:List Str):(Txt.join sp l).length<=Sz l:=by
 have:=Yqy (T " ") l
 rw[show T " "=sp from Yp7]at this
 unfold Sz
 rw[show T " "=sp from Yp7]
 exact this
theorem j_ok{xs:List Str}(h:Sz xs<=1000000):Yg8 (T " ") [.lst (xs.map D.str)]=some (.str (Txt.join sp xs)):=by
 have:=Yz8 (sep:=T " ") (l:=xs.map D.str) rfl (qy h (by decide))
 rw[this,show T " "=sp from Yp7]
def paV(p:Pa):List Str:=paN p::paW p
section
variable {p:Pa} (ho:OkPa p)
include ho
theorem Yr7:(paV p).length<=50001:=by
 have:=Yp3 ho
 unfold paV
 rw[qs]
 lia
theorem Ywx:Sh (paV p):=(y2v ho).cons (Yv4 p)
theorem Ywy:Ns (paV p):=.cons (Yrs p) (Ysy ho)
theorem Ywz:Sz (paV p)<=550011:=by
 have h1:=Ywv (Ywx ho)
 have h2:=Yr7 ho
 lia
theorem y0m(i:Nat)(b:Str)(hb:b.length<=40):Sz ((paV p).take i++[b]++(paV p).drop (i+1))<=600000:=by
 have h1:=Ywv (l:=(paV p).take i) fun x hx=>Ywx ho x (List.mem_of_mem_take hx)
 have h2:=Ywv (l:=(paV p).drop (i+1)) fun x hx=>Ywx ho x (List.mem_of_mem_drop hx)
 have h3:=Yww hb
 have h4:=Yr7 ho
 rw[List.length_take]at h1
 rw[List.length_drop]at h2
 rw[Yr6,Yr6]
 lia
theorem y77{i:Nat}(hi:i < (paV p).length){b:Str}(hb:b∈bws):y2 [.str (Txt.join sp ((paV p).take i++[b]++(paV p).drop (i+1)))]=some true:=by
 obtain⟨f1,_,_,_,_,_,_,f8,f9,f10⟩:=Yir b hb
 have hsz:=y0m ho i b (by lia)
 have hl:=Ys0 ((paV p).take i++[b]++(paV p).drop (i+1))
 have hns:Ns ((paV p).take i++[b]++(paV p).drop (i+1)):=.app (.app (fun x hx=>Ywy ho x (List.mem_of_mem_take hx)) (.cons (Yc5 f9) Yjj)) fun x hx=>Ywy ho x (List.mem_of_mem_drop hx)
 cases i with
 | zero=>exact Ygc hns (qy hl (by lia)) (.fst rfl f8)
 | succ i=>
   have hi:i < (paW p).length:=by
    unfold paV at hi
    simpa using hi
   have e:(paV p).take (i+1)++[b]++(paV p).drop (i+1+1)=paN p::(paW p).set i b:=by
    unfold paV
    rw[List.take_succ_cons,List.drop_succ_cons,List.set_eq_take_append_cons_drop,if_pos hi]
    simp
   rw[e]at hns hl ⊢
   rw[e]at hsz
   exact Ygc hns (qy hl (by lia)) (Yng ho hi f1 fun z _=>y6h hb z.2)
theorem y78{i:Nat}(hi:i < (paV p).length):y2 [.str (Txt.join sp ((paV p).take i))]=some true:=by
 have hsz:Sz ((paV p).take i)<=600000:=by
  have h1:=Ywv (l:=(paV p).take i) fun x hx=>Ywx ho x (List.mem_of_mem_take hx)
  have h4:=Yr7 ho
  rw[List.length_take]at h1
  lia
 have hl:=Ys0 ((paV p).take i)
 cases i with
 | zero=>
   have e:Txt.join sp ((paV p).take 0)=Txt.join sp [T ""]:=rfl
   rw[e]
   exact Ygc (.cons (by decide +kernel) Yjj) (by decide +kernel) (.fst rfl (Yir _ (.head _)).2.2.2.2.2.2.2.1)
 | succ i=>
   have hns:Ns ((paV p).take (i+1)):=fun x hx=>Ywy ho x (List.mem_of_mem_take hx)
   exact Ygc hns (qy hl (by lia)) (Yzd ho (by unfold paV at hi;simpa using hi))
theorem y0n{e:Str}(he:no32 e=true)(hl:e.length<=40):y2 [.str (Txt.join sp (paV p++[e]))]=some true:=by
 have hsz:Sz (paV p++[e])<=600000:=by
  have h1:=Ywz ho
  have h2:=Yww hl
  rw[Yr6]
  lia
 have hl:=Ys0 (paV p++[e])
 exact Ygc (x:=paN p) (l:=paW p++[e]) ((Ywy ho).app (.cons (Yc5 he) Yjj)) (qy hl (by lia)) (Ywr ho)
theorem y79:y2 [.str (Txt.join sp (paV p)++sp)]=some true:=by
 unfold paV
 rw[y6c]
 exact y0n ho (by decide +kernel) (by decide +kernel)
theorem y6i:∀i,(sfx i).length<=2:=by decide +kernel
theorem y3b(i:Fin 3):y2 [.str (Txt.join sp (paV p)++sfx i)]=some true:=by
 have hsz:=Ywz ho
 have hjl:=Ys0 (paV p)
 have hlen:(Txt.join sp (paV p)++sfx i).length<=1000000:=by
  have h1:(Txt.join sp (paV p)++sfx i).length=(Txt.join sp (paV p)).length+(sfx i).length:=by
   show(Txt.join sp (paV p)++sfx i).cps.size=(Txt.join sp (paV p)).cps.size+(sfx i).cps.size
   rw[<-qj,Yb4,qw,qj,qj]
  have h2:=y6i ho i
  lia
 rcases List.eq_nil_or_concat (paX p)with hx | ⟨l,z,hx⟩
 ·have hw:paW p=[]:=by
   rw[<-Yqe,hx]
   rfl
  unfold paV at hlen ⊢
  rw[hw,y3a]at hlen ⊢
  have hb:paN p=nm 0:=by
   match p with
   | .br=>rfl
   | .cl _ a b=>simp[paX,cntX]at hx
   | .cr a=>simp[paX,cntX]at hx
   | .od a=>simp[paX,cntX]at hx
   | .lo s a b=>simp[paX,cntX]at hx
   | .pl k _ rs=>simp[paX,Yk2]at hx
   | .ro a rs=>simp[paX,cntX]at hx
  rw[hb]at hlen ⊢
  have hf:=Yzf i
  exact Ygc (.cons (Yc5 hf.2) Yjj) hlen (.fst rfl hf.1)
 ·rw[List.concat_eq_append]at hx
  have hz:GW z:=y76 ho z (by rw[hx];simp)
  obtain⟨z1,z2,z3⟩:=y6g hz i
  have hw:paW p=wo l++[z.1]:=by
   rw[<-Yqe,hx,wo,Qi]
   rfl
  have hset:(paW p).set l.length (z.1++sfx i)=wo l++[z.1++sfx i]:=by
   have hl:l.length=(wo l).length:=by rw[wo,qf]
   rw[hw,hl,List.set_append_right _ _ (qu _),Nat.sub_self]
   rfl
  have hns:Ns (paN p::(wo l++[z.1++sfx i])):=.cons (Yrs p) (.app (fun x hx=>Ysy ho x (by rw[hw];exact List.mem_append_left _ hx)) (.cons z3 Yjj))
  unfold paV at hlen ⊢
  rw[hw,y6d]at hlen ⊢
  have hr:=Yng (i:=l.length) (b:=z.1++sfx i) ho (by rw[<-Ynf,hx];simp) z1 (fun y hy=>by
   rw[hx,List.getElem?_append_right (qu _),Nat.sub_self]at hy
   cases hy
   exact z2)
  rw[hset]at hr
  exact Ygc hns hlen hr
theorem y8a{s:Str}(hs:s=sp\/s=T "\n"\/s=T "\t"):y2 [.str (s++Txt.join sp (paV p))]=some true:=by
 have hsz:=Ywz ho
 have hjl:=Ys0 (paV p)
 have hlen:(s++Txt.join sp (paV p)).length<=1000000:=by
  have h1:(s++Txt.join sp (paV p)).length=s.length+(Txt.join sp (paV p)).length:=by
   show(s++Txt.join sp (paV p)).cps.size=s.cps.size+(Txt.join sp (paV p)).cps.size
   rw[<-qj,Yb4,qw,qj,qj]
  have h2:s.length<=2:=by
   rcases hs with rfl | rfl | rfl
   ·decide
   ·decide +kernel
   ·decide +kernel
  lia
 obtain⟨i,hi⟩:∃i,paN p=nm i:=by
  match p with
  | .br=>exact⟨0,rfl⟩
  | .cl false _ _=>exact⟨1,rfl⟩
  | .cl true _ _=>exact⟨3,rfl⟩
  | .cr _=>exact⟨2,rfl⟩
  | .od _=>exact⟨4,rfl⟩
  | .lo _ _ _=>exact⟨5,rfl⟩
  | .pl .pl _ _=>exact⟨6,rfl⟩
  | .pl .su _ _=>exact⟨7,rfl⟩
  | .pl .ro h _=>exact absurd rfl h
  | .ro _ _=>exact⟨8,rfl⟩
 obtain⟨f1,f2,f3,f4⟩:=Yze i
 unfold paV at hlen ⊢
 rcases hs with rfl | rfl | rfl
 ·rw[Yzc]at hlen ⊢
  exact Ygc (.cons (by decide +kernel) (Ywy ho)) hlen (.fst rfl (Yir _ (.head _)).2.2.2.2.2.2.2.1)
 ·rw[y0j]at hlen ⊢
  exact Ygc (.cons (by rw[hi];exact f3) (Ysy ho)) hlen (.fst rfl (by rw[hi];exact f1))
 ·rw[y0j]at hlen ⊢
  exact Ygc (.cons (by rw[hi];exact f4) (Ysy ho)) hlen (.fst rfl (by rw[hi];exact f2))
end
end Lw
namespace Lw
open PySem L2 M Bk
theorem Yr8(l:List D)(a:Nat):cutD l (some (a:Int)) none=l.drop a:=by
 unfold cutD
 rw[HT.sIx_nat,HT.sIx_none]
 by_cases h:a<=l.length
 ·rw[Nat.min_eq_left h,List.take_of_length_le (by simp)]
 ·rw[Nat.min_eq_right (by lia),List.drop_eq_nil_of_le (qu _),List.drop_eq_nil_of_le (by lia)]
  simp
theorem y0o(l:List D)(b:Nat):cutD l none (some (b:Int))=l.take b:=by
 unfold cutD
 rw[HT.sIx_nat,HT.sIx_none]
 by_cases h:b<=l.length
 ·rw[Nat.min_eq_left h]
  simp
 ·rw[Nat.min_eq_right (by lia),List.take_of_length_le (by simp),List.take_of_length_le (by lia)]
  simp
theorem nn:mulS (.str (T "9")) (.int 30)=some (.str (T "999999999999999999999999999999")):=by
 show(if T "9"=T "9"/\(30:Int)=30 then some (D.str (T "999999999999999999999999999999"))else none)=_
 exact if_pos ⟨rfl,rfl⟩
abbrev fR(ds:List D)(v w a:Int):Ro:=[some (.sh (.lst ds)),some (.sh (.int v)),some (.sh (.int w)),some (.sh (.int a)),some (.ow (bws.map D.str))]
theorem y6j{ds:List D}{v:Int}{t:Str}(hL:0 < ds.length)(hc:ds.length<=1000000)(h:Yb2 (fR ds v (v % 8) (v / 8 % (ds.length:Int)))=some (.rt (.str t))):Ycs [.lst ds,.int v]=some (.str t):=by
 rw[Ycs,Ybg (by rfl)]
 have hst:Yl 5 [D.lst ds,.int v]=[some (.sh (.lst ds)),some (.sh (.int v)),none,none,none]:=rfl
 have hb:Yf6 [some (.sh (.lst ds)),some (.sh (.int v)),none,none,none]=some (.rt (.str t)):=by
  have hn:=nn
  have h1:(0:Int) < (ds.length:Int):=by lia
  have hm:modI (.int (v / 8)) (.int (ds.length:Int))=some (.int (v / 8 % (ds.length:Int))):=by
   show(if decide ((0:Int) < (ds.length:Int))=true then some (D.int (v / 8 % (ds.length:Int)))else none)=_
   rw[if_pos (by simpa using h1)]
  rw[Yf6,Ybt]
  simp only[Yg1,Yg0,Ygz]
  unfold fR bws at h
  generalize Yb2=F at *
  simp[hm,hn]
  exact h
 rw[hst,hb]
 rfl
theorem Yov{l:List Str}{v m:Int}(hm:(l.length:Int)=m)(h0:0 < m):∃b,b∈l/\atI (l.map D.str) (v % m)=some (.str b):=by
 obtain⟨b,hb,e⟩:=y12 (l:=l) (i:=v % m) (Int.emod_nonneg _ (by lia)) (by rw[hm];exact Int.emod_lt_of_pos _ h0)
 exact⟨b,hb,by rw[Yud,e];rfl⟩
theorem Ynh{a b:Str}(h:a.length+b.length<=1000000):addS (.str a) (.str b)=some (.str (a++b)):=if_pos h
theorem Yzg{p:Pa}(ho:OkPa p)(v:Int):∃t,Ycs [.lst ((paV p).map D.str),.int v]=some (.str t)/\y2 [.str t]=some true:=by
 have hlen:=Yr7 ho
 have hpos:0 < ((paV p).map D.str).length:=by
  rw[qf]
  unfold paV
  simp
 have hpre:=fun t=>y6j (ds:=(paV p).map D.str) (v:=v) (t:=t) hpos (by rw[qf];lia)
 obtain⟨a,ha,e⟩:∃a:Nat,a < (paV p).length/\v / 8 % (((paV p).map D.str).length:Int)=(a:Int):=by
  have h1:=Int.emod_nonneg (v / 8) (b:=(((paV p).map D.str).length:Int)) (by lia)
  have h2:=Int.emod_lt_of_pos (v / 8) (b:=(((paV p).map D.str).length:Int)) (by lia)
  rw[qf]at h1 h2 ⊢
  exact⟨(v / 8 % ((paV p).length:Int)).toNat,by lia,by lia⟩
 rw[e]at hpre
 have hw0:=Int.emod_nonneg v (b:=8) (by decide)
 have hw1:=Int.emod_lt_of_pos v (b:=8) (by decide)
 generalize v % 8=w at *
 have hj:Yg8 (T " ") [.lst ((paV p).map D.str)]=some (.str (Txt.join sp (paV p))):=j_ok (qy (Ywz ho) (by decide))
 have hjl:=Ys0 (paV p)
 have hsz:=Ywz ho
 by_cases h4:w < 4
 ·obtain⟨b,hb,hb2⟩:=Yov (l:=bws) (v:=v / 4096) (m:=16) rfl (by decide)
  have hbl:=(Yir b hb).2.2.2.2.2.2.2.2.2
  have hs:=y0m ho a b (by lia)
  have hj2:=j_ok (qy hs (by decide))
  refine⟨_,hpre _ ?_,y77 ho ha hb⟩
  have c1:=y0o ((paV p).map D.str) a
  have c2:=Yr8 ((paV p).map D.str) (a+1)
  have k1:catD (.lst (((paV p).map D.str).take a)) (.lst [.str b])=some (((paV p).map D.str).take a++[.str b]):=Yc7 (by simp;lia)
  have k2:catD (.lst (((paV p).map D.str).take a++[.str b])) (.lst (((paV p).map D.str).drop (a+1)))=some (((paV p).map D.str).take a++[.str b]++((paV p).map D.str).drop (a+1)):=Yc7 (by simp;lia)
  rw[Qi,Qi,List.map_take,List.map_drop]at hj2
  clear hpre
  rw[Yb2,Ybt]
  unfold fR
  generalize Ybm=F at *
  generalize (paV p).map D.str=ds at *
  generalize bws.map D.str=S at *
  simp only[Qc,qz,List.map_nil]at k1 k2 hj2
  have c2':cutD ds (some ((a:Int)+1)) none=List.drop (a+1) ds:=c2
  simp[h4,c1,c2',hb2,k1,k2,optI,intD,lstD]
  rw[List.singleton_append,List.singleton_append]at hj2
  rw[hj2]
  rfl
 ·have hs4:Yb2 (fR ((paV p).map D.str) v w a)=Ybm (fR ((paV p).map D.str) v w a):=by
   rw[Yb2,Ybt]
   unfold fR
   generalize Ybm=F
   simp[h4]
  rw[hs4]at hpre
  by_cases h5:w=4
  ·have hs:Sz ((paV p).take a)<=1000000:=by
    have h1:=Ywv (l:=(paV p).take a) fun x hx=>Ywx ho x (List.mem_of_mem_take hx)
    rw[List.length_take]at h1
    lia
   have hj2:=j_ok hs
   rw[List.map_take]at hj2
   refine⟨_,hpre _ ?_,y78 ho ha⟩
   have c1:=y0o ((paV p).map D.str) a
   clear hpre
   rw[Ybm,Ybt]
   unfold fR
   generalize Ybl=F at *
   generalize (paV p).map D.str=ds at *
   generalize bws.map D.str=S at *
   simp[h5,c1,optI,intD,lstD,hj2]
  ·have hs5:Ybm (fR ((paV p).map D.str) v w a)=Ybl (fR ((paV p).map D.str) v w a):=by
    rw[Ybm,Ybt]
    unfold fR
    generalize Ybl=F
    simp[h5]
   rw[hs5]at hpre
   by_cases h6:w=5
   ·obtain⟨b,hb,hb2⟩:=Yov (l:=[T "0",nm 0,T "none",T "+1"]) (v:=v / 4096) (m:=4) rfl (by decide)
    have hq:∀b∈[T "0",nm 0,T "none",T "+1"],no32 b=true/\b.length<=40:=by decide +kernel
    obtain⟨q1,q2⟩:=hq b hb
    have hs:Sz (paV p++[b])<=1000000:=by
     have h2:=Yww q2
     rw[Yr6]
     lia
    have hj2:=j_ok hs
    rw[Qi]at hj2
    refine⟨_,hpre _ ?_,y0n ho q1 q2⟩
    have k1:catD (.lst ((paV p).map D.str)) (.lst [.str b])=some ((paV p).map D.str++[.str b]):=Yc7 (by simp;lia)
    clear hpre
    rw[Ybl,Ybt]
    unfold fR
    generalize Ybk=F at *
    generalize (paV p).map D.str=ds at *
    generalize bws.map D.str=S at *
    simp only[qz,List.map_nil]at hb2 hj2
    simp[h6,hb2,k1,hj2]
   ·have hs6:Ybl (fR ((paV p).map D.str) v w a)=Ybk (fR ((paV p).map D.str) v w a):=by
     rw[Ybl,Ybt]
     unfold fR
     generalize Ybk=F
     simp[h6]
    rw[hs6]at hpre
    by_cases h7:w=6
    ·obtain⟨b,hb,hb2⟩:=Yov (l:=[T "\n",T " ",T "\t",T "\n0"]) (v:=v / 4096) (m:=4) rfl (by decide)
     have hq:∀b∈[T "\n",T " ",T "\t",T "\n0"],b.length<=40:=by decide +kernel
     have hadd:=Ynh (a:=Txt.join sp (paV p)) (b:=b) (by have:=hq b hb;lia)
     refine⟨_,hpre _ ?_,show y2 [.str (Txt.join sp (paV p)++b)]=some true from ?_⟩
     ·clear hpre
      rw[Ybk,Ybt]
      unfold fR
      generalize Yck=F at *
      generalize (paV p).map D.str=ds at *
      generalize bws.map D.str=S at *
      simp only[qz,List.map_nil]at hb2
      simp[h7,hb2,hj,hadd]
     ·cases hb with
      | head=>exact y3b ho 0
      | tail _ hb=>
        cases hb with
        | head=>
          rw[show T " "=sp from Yp7]
          exact y79 ho
        | tail _ hb=>
          cases hb with
          | head=>exact y3b ho 1
          | tail _ hb=>
            cases hb with
            | head=>exact y3b ho 2
            | tail _ hb=>cases hb
    ·have hs7:Ybk (fR ((paV p).map D.str) v w a)=Yck (fR ((paV p).map D.str) v w a):=by
      rw[Ybk,Ybt]
      unfold fR
      generalize Yck=F
      simp[h7]
     rw[hs7]at hpre
     obtain⟨b,hb,hb2⟩:=Yov (l:=[T " ",T "\n",T "\t"]) (v:=v / 4096) (m:=3) rfl (by decide)
     have hq:∀b∈[T " ",T "\n",T "\t"],b.length<=40:=by decide +kernel
     have hadd:=Ynh (a:=b) (b:=Txt.join sp (paV p)) (by have:=hq b hb;lia)
     refine⟨_,hpre _ ?_,show y2 [.str (b++Txt.join sp (paV p))]=some true from y8a ho ?_⟩
     ·clear hpre
      rw[Yck]
      unfold fR
      generalize (paV p).map D.str=ds at *
      generalize bws.map D.str=S at *
      simp only[qz,List.map_nil]at hb2
      simp[hb2,hj,hadd]
     ·cases hb with
      | head=>exact .inl Yp7
      | tail _ hb=>
        cases hb with
        | head=>exact .inr (.inl rfl)
        | tail _ hb=>
          cases hb with
          | head=>exact .inr (.inr rfl)
          | tail _ hb=>cases hb
end Lw
namespace Lw
open PySem L2 M Bk
theorem k3a:K3.pl≠K3.ro:=K3.noConfusion
theorem k3b:K3.su≠K3.ro:=K3.noConfusion
structure Far where
 pre:Str
 suf:Str
 p:Pa
 i:Nat
 m:Str
def fts:List Far:=[
 ⟨T "rows 1 ",T " 0",.ro [5] [],1,T ""⟩,⟨T "rows 0 1 ",T " 0",.ro [] [(5,none,[],false)],2,T ""⟩,
 ⟨T "rows 0 1 5 1 ",T "",.ro [] [(5,none,[5],false)],4,T ""⟩,⟨T "rows 0 1 5 2 4 ",T "",.ro [] [(5,none,[4,5],false)],5,T ""⟩,
 ⟨T "plan 1 ",T " none yes",.pl .pl k3a [(5,none,[],true)],1,T ""⟩,⟨T "plan 1 5 ",T " no",.pl .pl k3a [(5,some 5,[],false)],2,T ""⟩,
 ⟨T "plan 2 4 none yes ",T " 3 yes",.pl .pl k3a [(4,none,[],true),(5,some 3,[],true)],4,T ""⟩,
 ⟨T "sums 1 ",T " 0 yes",.pl .su k3b [(5,none,[],true)],1,T ""⟩,⟨T "sums 1 5 1 ",T " no",.pl .su k3b [(5,none,[5],false)],3,T ""⟩,
 ⟨T "lone ",T " 0 1 0",.lo (some 5) [] [0],0,T ""⟩,⟨T "cross 1 +",T "",.cr [(5,true)],1,T "+"⟩,⟨T "clash 0 1 -",T "",.cl false [] [(5,false)],2,T "-"⟩,
 ⟨T "late 1 -",T " 0",.cl true [(5,false)] [],1,T "-"⟩,⟨T "cross 2 -0 +",T "",.cr [(0,false),(5,true)],2,T "+"⟩,
 ⟨T "lone ",T " 0 0",.lo (some 5) [] [],0,T ""⟩,⟨T "plan 1 ",T " 3 no",.pl .pl k3a [(5,some 3,[],false)],1,T ""⟩]
theorem y6k(a m x:Str)(u v:List Str):Txt.join sp (a::(u++(m++x)::v))=(Txt.join sp (a::u)++sp++m)++x++⟨(v.flatMap fun p=>32::p.cps.toList).toArray⟩:=Yey (by
 rw[Ycn,Yb4,Yb4,Yb4,Yb4,Ycn,List.flatMap_append,Qk,Yb4]
 simp[sp])
def fmOk(m:Str):Fm->Bool
 | .say=>decide (m=T "+")||decide (m=T "-")
 | .bea=>decide (m=T "")
 | .sou=>decide (m=T "")
 | _=>false
theorem y8b:∀q∈fts,q.pre=Txt.join sp (paN q.p::(paW q.p).take q.i)++sp++q.m/\q.suf=⟨(((paW q.p).drop (q.i+1)).flatMap fun p=>32::p.cps.toList).toArray⟩/\q.i < (paW q.p).length/\((paX q.p)[q.i]?.all fun z=>fmOk q.m z.2)=true/\q.pre.length<=100/\q.suf.length<=100:=by decide +kernel
theorem f_ok:∀q∈fts,OkPa q.p:=by
 intro q hq
 simp only[fts,List.mem_cons,List.not_mem_nil,or_false]at hq
 rcases hq with rfl | rfl | rfl | rfl | rfl | rfl | rfl | rfl | rfl | rfl | rfl | rfl | rfl | rfl | rfl | rfl<;>simp[OkPa,OkRs,OkRw,OkN,OkR]
theorem y8c:∀k,k < 201->60<=k->(okW (num k)&&rejB (num k)&&!decide (num k=T "none")&&no32 (num k))=true:=by decide +kernel
theorem y6l:∀k,k < 201->60<=k->(okW (T "+"++num k)&&rejF .say (T "+"++num k)&&no32 (T "+"++num k)&&(okW (T "-"++num k)&&rejF .say (T "-"++num k)&&no32 (T "-"++num k)))=true:=by decide +kernel
theorem Yw0(x:Str):T ""++x=x:=Yey (by
 rw[Yb4]
 rfl)
theorem f_r{m:Str}{f:Fm}{k:Nat}(h:fmOk m f=true)(hk:k < 201)(hk':60<=k):okW (m++num k)=true/\rejF f (m++num k)=true/\32∉(m++num k).cps.toList:=by
 have h1:=y8c k hk hk'
 rw[qx,qx,qx]at h1
 obtain⟨⟨⟨a,b⟩,c⟩,d⟩:=h1
 cases f with
 | cnt=>cases h
 | pla=>cases h
 | tru=>cases h
 | say=>
   have h2:=y6l k hk hk'
   rw[qx,qx,qx,qx,qx]at h2
   obtain⟨⟨⟨a1,a2⟩,a3⟩,⟨b1,b2⟩,b3⟩:=h2
   rcases Bool.or_eq_true_iff.mp h with h | h
   ·rw[of_decide_eq_true h]
    exact⟨a1,a2,Yc5 a3⟩
   ·rw[of_decide_eq_true h]
    exact⟨b1,b2,Yc5 b3⟩
 | bea=>
   rw[of_decide_eq_true h,Yw0]
   exact⟨a,b,Yc5 d⟩
 | sou=>
   rw[of_decide_eq_true h,Yw0]
   exact⟨a,by show(rejB (num k)&&!decide (num k=T "none"))=true;rw[b,c];rfl,Yc5 d⟩
theorem len_app(a b:Str):(a++b).length=a.length+b.length:=by
 show(a++b).cps.size=a.cps.size+b.cps.size
 rw[<-qj,Yb4,qw,qj,qj]
theorem y8d{q:Far}(hq:q∈fts){k:Nat}(hk:k < 201)(hk':60<=k):y2 [.str (q.pre++num k++q.suf)]=some true:=by
 obtain⟨h1,h2,h3,h4,h5,h6⟩:=y8b q hq
 have ho:=f_ok q hq
 have hl:(q.pre++num k++q.suf).length<=1000000:=by
  rw[len_app,len_app]
  have:=Ym1 k (by lia)
  lia
 have e:q.pre++num k++q.suf=Txt.join sp (paN q.p::(paW q.p).set q.i (q.m++num k)):=by
  rw[List.set_eq_take_append_cons_drop,if_pos h3,y6k,<-h1,<-h2]
 have hx:q.i < (paX q.p).length:=by rw[Ynf];exact h3
 rw[qr hx]at h4
 have h4:fmOk q.m (paX q.p)[q.i].2=true:=h4
 obtain⟨r1,r2,r3⟩:=f_r h4 hk hk'
 rw[e]at hl ⊢
 refine Ygc (.cons (Yrs _) fun x hx=>?_) hl (Yng ho h3 r1 fun z hz=>?_)
 ·rcases List.mem_or_eq_of_mem_set hx with hx | rfl
  ·exact Ysy ho x hx
  ·exact r3
 ·rw[qr hx]at hz
  cases hz
  exact r2
end Lw
namespace Lw
open PySem L2 M Bk
def lit(s:Str):Prop:=s.length<=100
theorem lits:lit (T " 0")/\lit (T " 0 0")/\lit (T " 0 1 0")/\lit (T " 0 yes")/\lit (T " 3 no")/\lit (T " 3 yes")/\lit (T " no")/\lit (T " none yes")/\lit (T "clash 0 1 -")/\lit (T "cross 1 +")/\lit (T "cross 2 -0 +")/\lit (T "late 1 -")/\lit (T "lone ")/\lit (T "plan 1 ")/\lit (T "plan 1 5 ")/\lit (T "plan 2 4 none yes ")/\lit (T "rows 0 1 ")/\lit (T "rows 0 1 5 1 ")/\lit (T "rows 0 1 5 2 4 ")/\lit (T "rows 1 ")/\lit (T "sums 1 ")/\lit (T "sums 1 5 1 "):=by unfold lit;decide +kernel
theorem ad1{a x:Str}(ha:lit a)(hx:x.length<=10):addS (.str a) (.str x)=some (.str (a++x)):=Ynh (by unfold lit at ha;lia)
theorem ad2{a x b:Str}(ha:lit a)(hb:lit b)(hx:x.length<=10):addS (.str (a++x)) (.str b)=some (.str (a++x++b)):=Ynh (by unfold lit at ha hb;rw[len_app];lia)
def tms(x:Str):List Str:=[T "rows 1 "++x++T " 0",T "rows 0 1 "++x++T " 0",T "rows 0 1 5 1 "++x,T "rows 0 1 5 2 4 "++x,T "plan 1 "++x++T " none yes",T "plan 1 5 "++x++T " no",T "plan 2 4 none yes "++x++T " 3 yes",T "sums 1 "++x++T " 0 yes",T "sums 1 5 1 "++x++T " no",T "lone "++x++T " 0 1 0",T "cross 1 +"++x,T "clash 0 1 -"++x,T "late 1 -"++x++T " 0",T "cross 2 -0 +"++x,T "lone "++x++T " 0 0",T "plan 1 "++x++T " 3 no"]
theorem y3c(x:Str):x++T ""=x:=Yey (by
 rw[Yb4]
 exact Qf _)
theorem y6m(x:Str):tms x=fts.map fun q=>q.pre++x++q.suf:=by
 simp only[tms,fts,qz,List.map_nil,y3c]
theorem y6n(a b:List D):catD (.lst a) (.lst b)=if a.length+b.length<=1000000 then some (a++b)else none:=nrT rfl
theorem y8e(v:Int):∃t,Ycm [.int v]=some (.str t)/\y2 [.str t]=some true:=by
 obtain⟨k,hk,hk',e⟩:∃k:Nat,k < 201/\60<=k/\60+v / 16 % 141=(k:Int):=by
  have h1:=Int.emod_nonneg (v / 16) (b:=141) (by decide)
  have h2:=Int.emod_lt_of_pos (v / 16) (b:=141) (by decide)
  exact⟨(60+v / 16 % 141).toNat,by lia,by lia,by lia⟩
 obtain⟨t,ht,hi⟩:=Yov (l:=tms (num k)) (v:=v) (m:=16) rfl (by decide)
 have hx:y2 [.str t]=some true:=by
  rw[y6m]at ht
  obtain⟨q,hq,rfl⟩:=List.mem_map.mp ht
  exact y8d hq hk hk'
 refine⟨t,?_,hx⟩
 have hs:=Yom (b:=k) (by lia)
 have hl:(num k).length<=10:=Yji (by lia)
 rw[Ycm,Ybg (by rfl)]
 have hst:Yl 3 [D.int v]=[some (.sh (.int v)),none,none]:=rfl
 rw[hst]
 unfold tms at hi
 generalize num k=x at *
 obtain⟨l0,l1,l2,l3,l4,l5,l6,l7,l8,l9,l10,l11,l12,l13,l14,l15,l16,l17,l18,l19,l20,l21⟩:=lits
 have a0:=ad1 (x:=x) l19 hl
 have b0:=ad2 (x:=x) l19 l0 hl
 have a1:=ad1 (x:=x) l16 hl
 have b1:=ad2 (x:=x) l16 l0 hl
 have a2:=ad1 (x:=x) l17 hl
 have a3:=ad1 (x:=x) l18 hl
 have a4:=ad1 (x:=x) l13 hl
 have b4:=ad2 (x:=x) l13 l7 hl
 have a5:=ad1 (x:=x) l14 hl
 have b5:=ad2 (x:=x) l14 l6 hl
 have a6:=ad1 (x:=x) l15 hl
 have b6:=ad2 (x:=x) l15 l5 hl
 have a7:=ad1 (x:=x) l20 hl
 have b7:=ad2 (x:=x) l20 l3 hl
 have a8:=ad1 (x:=x) l21 hl
 have b8:=ad2 (x:=x) l21 l6 hl
 have a9:=ad1 (x:=x) l12 hl
 have b9:=ad2 (x:=x) l12 l2 hl
 have a10:=ad1 (x:=x) l9 hl
 have a11:=ad1 (x:=x) l8 hl
 have a12:=ad1 (x:=x) l11 hl
 have b12:=ad2 (x:=x) l11 l0 hl
 have a13:=ad1 (x:=x) l10 hl
 have b14:=ad2 (x:=x) l12 l1 hl
 have b15:=ad2 (x:=x) l13 l4 hl
 simp only[qz,List.map_nil]at hi
 have hb:Ydp [some (.sh (.int v)),none,none]=some (.rt (.str t)):=by
  rw[Ydp,Ybt]
  simp[e,hs,y6n,hi,a0,b0,a1,b1,a2,a3,a4,b4,a5,b5,a6,b6,a7,b7,a8,b8,a9,b9,a10,a11,a12,b12,a13,b14,b15]
 rw[hb]
 rfl
end Lw
namespace Lw
open PySem L2 M Bk
theorem Yw1{α:Type}{enc:α->D}{l:List α}(hl:l.length<=1000)(h:∀a∈l,Pl (enc a)):Pl (.tup (l.map enc)):=by
 rw[Pl]
 refine⟨by rw[qf];lia,PlL_iff.mpr fun d hd=>?_⟩
 obtain⟨a,ha,rfl⟩:=List.mem_map.mp hd
 exact h a ha
theorem pl_n(n:Nat):Pl (nD n):=by rw[Pl]<;>simp
theorem Yk4{B:Nat}{a:List Nat}(h:OkN B a):Pl (numsD a):=Yw1 (by have:=h.1;lia) fun x _=>pl_n x
theorem y6o(s:Say):Pl (sayD s):=by simp[sayD,Pl,PlL]
theorem Yqg{a:List Say}(h:OkR a):Pl (Ygn a):=Yw1 (by have:=h.1;lia) fun x _=>y6o x
theorem y0p(s:Option Nat):Pl (optD s):=by cases s<;>simp[optD,Pl]
theorem y8f{k:K3}{r:Rw}(h:OkRw r):Pl (rwD k r):=by
 obtain⟨a,s,xs,b⟩:=r
 have hx:Pl (.tup (xs.map nD)):=Yk4 h.2.2
 have ho:=y0p s
 cases k<;>simp[rwD,Pl,PlL,ho]<;>(rw[Pl]at hx;simpa using hx)
theorem Yw2{k:K3}{rs:List Rw}(h:OkRs rs):Pl (.tup (rs.map (rwD k))):=Yw1 (by have:=h.1;lia) fun r hr=>y8f (h.2 r hr)
theorem y8g{p:Pa}(h:OkPa p):Pl (paD p):=by
 unfold paD
 rw[Pl]
 match p with
 | .br=>simp[paL,PlL,Pl]
 | .cl _ a b=>exact⟨by simp[paL],by simp[PlL,Pl],Yqg h.1,Yqg h.2,trivial⟩
 | .cr a=>exact⟨by simp[paL],by simp[Pl],Yqg h,trivial⟩
 | .od a=>exact⟨by simp[paL],by simp[Pl],Yk4 h,trivial⟩
 | .lo s a b=>exact⟨by simp[paL],by simp[Pl],y0p s,Yk4 h.2.1,Yk4 h.2.2,trivial⟩
 | .pl k _ rs=>exact⟨by simp[paL],by simp[Pl],Yw2 h,trivial⟩
 | .ro a rs=>exact⟨by simp[paL],by simp[Pl],Yk4 h.1,Yw2 h.2,trivial⟩
theorem y3d{t:Str}(h:y2 [.str t]=some true):Yfd [.str t]=some (.lst [.bl true,.bl true,.bl false]):=by
 rw[Yfd,Ybg (by rfl)]
 have hst:Yl 5 [D.str t]=[some (.sh (.str t)),none,none,none,none]:=rfl
 have hb:Yhs [some (.sh (.str t)),none,none,none,none]=some (.rt (.lst [.bl true,.bl true,.bl false])):=by
  rw[Yhs,Ybt]
  simp[tryF,h,Yen,frz,frz1]
 rw[hst,hb]
 rfl
theorem law_true(ns:List Int)(hns:ns.length<=63):Ypw [.scr ns]=some (.bl true):=by
 rw[Ypw,Ybg (by rfl)]
 have hst:Yl 6 [D.scr ns]=[some (.sh (.scr ns)),none,none,none,none,none]:=rfl
 have hb:y2r [some (.sh (.scr ns)),none,none,none,none,none]=some (.rt (.bl true)):=by
  have c0:=Yrj ns 0 0 rfl
  have c1:=Yrj ns 1 1 rfl
  obtain⟨v,hv,hm⟩:=Yvt (ns.getD 0 0) 1442695040888963407
  obtain⟨p,t',hp,hany⟩:=y7t (ns.drop 2).reverse
  have ht:∀a b c d e,Yy2 (revF (lF (slF (getC 0) (some (kD (.int 2))) none))) Yf5 [some (.sh (.scr ns)),a,b,c,d,e]=some (paD p):=fun a b c d e=>by
   unfold Yy2
   have hr:revF (lF (slF (getC 0) (some (kD (.int 2))) none)) [some (.sh (.scr ns)),a,b,c,d,e]=some ((ns.drop 2).reverse.map D.int):=by
    have hc:=Yr8 (ns.map D.int) 2
    show((some (D.lst (cutD (ns.map D.int) (some ((2:Nat):Int)) none))).bind lstD).map List.reverse=_
    rw[hc,<-List.map_drop]
    show some ((ns.drop 2).map D.int).reverse=_
    rw[List.map_reverse]
   rw[hr,qd,Yue,qd,hany]
   rfl
  have hwd:=Ym4 hp
  have hrd:=Yoq hp
  have hjn:Yg8 (Str.ofString " ") [.lst ((paN p::paW p).map D.str)]=some (.str (paS p)):=y2w hp rfl
  have hself:=Yx2 (y8g hp) (by have:=y7y p;lia) false
  generalize ns.getD 0 0=x0 at *
  generalize ns.getD 1 0=x1 at *
  obtain⟨t1,f1,f2⟩:=Yzg hp (v+x1 % 8 * 4096)
  obtain⟨t2,g1,g2⟩:=y8e v
  have f1:Ycs [.lst ((paN p::paW p).map D.str),.int (v+x1 % 8 * 4096)]=some (.str t1):=f1
  have hmul:mulI (.int (x1 % 8)) (.int 4096)=some (.int (x1 % 8 * 4096)):=Yjp ⟨by lia,by lia⟩
  generalize paD p=pd at *
  generalize (paN p::paW p).map D.str=wd at *
  have h5:∀t,y2 [.str t]=some true->Ypv [some (.sh (.scr ns)),some (.sh (.int v)),some (.sh pd),some (.sh (.lst wd)),some (.sh (.str t)),none]=some (.rt (.bl true)):=fun t ht=>by
   have hk:=y3d ht
   have he:eqM true (.lst [.bl true,.bl true,.bl false]) (.lst [.bl true,.bl true,.bl false])=some false:=rfl
   rw[Ypv,Ybt]
   simp
   rw[Yvo,Ybt]
   simp[tryF,ht]
   rw[Yvn,Ybt]
   simp[hk,he]
   rw[Yvm]
   simp[hjn,hrd,hself]
  rw[y2r,Ybt]
  simp[c0,hm]
  rw[Yvs,Ybt,y1x,ht]
  simp
  rw[Yvr,Ybt]
  simp[hwd]
  rw[Yvq,Ybt]
  simp[c1,hmul,f1]
  rw[Yvp,Ybt]
  by_cases hq:x1 / 8 % 4=1
  ·simp[c1,hq,g1]
   exact h5 t2 g2
  ·simp[c1,hq]
   exact h5 t1 f2
 rw[hst,hb]
 rfl
end Lw
end
namespace Op
open PySem PySem.W PyProof.Rows PySem.Calls
set_option maxRecDepth 100000
noncomputable abbrev pg:Program:=PySem.Challenge.pw_duskbook_k60_paper_texts_refused
noncomputable def topm(i j:Nat):Stmt:=L2.inClass (Lw.top i) j
noncomputable abbrev en(P:Params)(x:Str)(t:Nat)(v:Value):DictEntry:=⟨PyData.keyHash P x,.str x t,v⟩
noncomputable abbrev fn(name qual:Str)(s:Stmt)(dV kV doc pm:Value)(an:Option Addr)(cdv ct:Value)(g b:Nat):Data:=.func ⟨name,qual,L2.defArgs s,.stmts (L2.defBody s),L2.defScope s,g,[],dV,kV,doc,pm,an,cdv,ct,b⟩
noncomputable abbrev tu(l:List Value):Obj:=⟨.type "tuple",none,.seq ⟨l⟩ 0,#[]⟩
noncomputable abbrev fl:Obj:=⟨.none,none,.fields #[],#[]⟩
noncomputable abbrev oZ(x:Str)(i:Nat):Obj:=⟨.none,none,fn x x (Lw.top i) .none .none .none .none none .none .none 0 0,#[]⟩
noncomputable abbrev oF(x:Str)(i:Nat)(pm:Value)(c:Nat):Obj:=⟨.type "function",none,.func (fnOf x x (L2.defArgs (Lw.top i)) (L2.defBody (Lw.top i)) (L2.defScope (Lw.top i)) .none .none .none pm none (.ref c) .none),#[]⟩
noncomputable abbrev oM(x q:Str)(i j:Nat)(pm:Value)(c:Nat):Obj:=⟨.type "function",none,.func (fnOf x q (L2.defArgs (L2.inClass (Lw.top i) j)) (L2.defBody (L2.inClass (Lw.top i) j)) (L2.defScope (L2.inClass (Lw.top i) j)) .none .none .none pm none (.ref c) .none),#[]⟩
noncomputable abbrev oC(x:Str)(t l n b:Nat)(u v:Value)(c k e:Nat):Obj:=⟨.type "code",none,.fields #[.str x t,.str x (t+1),.str "/claim/cut.py" (t+2),.int (.ofNat l) 0,.int (.ofNat n) 0,.int 0 0,.int 0 0,.int 3 0,.ref b,.bool true,.int (.ofNat k) 0,.ref (b+1),.none,u,v,.ref c,.int (.ofNat e) 0,.int (.ofNat l) 0,.str "/claim/cut.py" (e+1)],#[]⟩
noncomputable abbrev p0:Value:=(.str "duskbook.books" 335)
noncomputable abbrev p1:Value:=(.str "duskbook.pages" 346)
noncomputable abbrev p2:Value:=(.str "duskbook.papertexts" 379)
noncomputable abbrev p3:Value:=(.str "law_duskbook_k60_paper_texts_refused" 538)
noncomputable def et0(P:Params):List DictEntry:=[en P "__doc__" 166 .none,en P "__package__" 167 .none,en P "__loader__" 168 (.builtin "__main__.__loader__#opaque"),en P "__spec__" 169 .none,en P "__annotations__" 170 (.ref 6),en P "__builtins__" 171 (.ref 4),en P "__file__" 173 (.str "/claim/cut.py" 172),en P "__cached__" 174 .none,en P "DuskError" 206 (.ref 24),en P "NoBook" 222 (.ref 37),en P "NoHands" 238 (.ref 49),en P "Over" 254 (.ref 61),en P "NoLight" 270 (.ref 73),en P "NoneSettled" 286 (.ref 85),en P "NoTable" 302 (.ref 97),en P "NoPage" 318 (.ref 109),en P "NoPaper" 334 (.ref 121),en P "BEACON_COUNT" 338 (.int (60) 337),en P "is_beacon" 345 (.ref 130),en P "FIGURES" 349 (.str "0123456789" 348),en P "MOST_FIGURES" 351 (.int (3) 350),en P "TRUTHS_BY_MARK" 356 (.ref 131),en P "number_read" 362 (.ref 136),en P "beacon_read" 370 (.ref 143),en P "saying_read" 378 (.ref 150),en P "MOST_NUMBER" 382 (.int (200) 381),en P "TRUTHS_BY_WORD" 387 (.ref 151),en P "PAPERS" 419 (.ref 152),en P "ROWS" 434 (.ref 162),en P "SEVERAL" 444 (.ref 166),en P "Reader" 488 (.ref 197),en P "place_read" 496 (.ref 208),en P "checked" 503 (.ref 215),en P "thing_read" 511 (.ref 222),en P "part_read" 521 (.ref 229),en P "parts_read" 527 (.ref 234),en P "paper_read" 537 (.ref 241),en P "_law_cell" 547 (.ref 248),en P "_law_mixed" 555 (.ref 255),en P "_law_next" 562 (.ref 262)]
noncomputable def et1(P:Params):List DictEntry:=[en P "_law_many" 571 (.ref 269),en P "_law_any_road" 581 (.ref 276),en P "_law_any_numbers" 587 (.ref 281),en P "_law_any_rows" 598 (.ref 288),en P "_law_any" 610 (.ref 295),en P "_law_number_words" 616 (.ref 300),en P "_law_road_words" 622 (.ref 305),en P "_law_free_word" 629 (.ref 312),en P "_law_rows_words" 639 (.ref 319),en P "_law_paper_words" 648 (.ref 326),en P "_law_faulty" 659 (.ref 333),en P "_law_far_beacon" 668 (.ref 340),en P "_law_kinds" 679 (.ref 347),en P "law" 691 (.ref 354)]
noncomputable def et(P:Params):List DictEntry:=et0 P++et1 P
noncomputable abbrev ns(P:Params)(x:DictEntry)(n k:Nat):Obj:=⟨.type "dict",none,.dict ⟨x::(et P).take n⟩ k,#[]⟩
noncomputable def ff0:List Value:=[(.int (2) 0),(.int (0) 0),(.ref 20),(.int (4) 0),(.int (0) 0),(.ref 33),(.int (6) 0),(.int (0) 0),(.ref 45),(.int (8) 0),(.int (0) 0),(.ref 57),(.int (10) 0),(.int (0) 0),(.ref 69),(.int (12) 0),(.int (0) 0),(.ref 81),(.int (14) 0),(.int (0) 0),(.ref 93),(.int (16) 0),(.int (0) 0),(.ref 105),(.int (18) 0),(.int (0) 0),(.ref 117),(.int (22) 0),(.int (0) 0),(.ref 129),(.int (28) 0),(.int (0) 0),(.ref 135),(.int (34) 0),(.int (0) 0),(.ref 142),(.int (37) 0),(.int (0) 0),(.ref 149),(.int (48) 0)]
noncomputable def ff1:List Value:=[(.int (0) 0),(.ref 172),(.int (62) 0),(.int (0) 0),(.ref 207),(.int (65) 0),(.int (0) 0),(.ref 214),(.int (69) 0),(.int (0) 0),(.ref 221),(.int (79) 0),(.int (0) 0),(.ref 228),(.int (89) 0),(.int (0) 0),(.ref 233),(.int (91) 0),(.int (0) 0),(.ref 240),(.int (101) 0),(.int (0) 0),(.ref 247),(.int (105) 0),(.int (0) 0),(.ref 254),(.int (107) 0),(.int (0) 0),(.ref 261),(.int (111) 0),(.int (0) 0),(.ref 268),(.int (116) 0),(.int (0) 0),(.ref 275),(.int (122) 0),(.int (0) 0),(.ref 280),(.int (124) 0),(.int (0) 0)]
noncomputable def ff2:List Value:=[(.ref 287),(.int (135) 0),(.int (0) 0),(.ref 294),(.int (154) 0),(.int (0) 0),(.ref 299),(.int (156) 0),(.int (0) 0),(.ref 304),(.int (158) 0),(.int (0) 0),(.ref 311),(.int (162) 0),(.int (0) 0),(.ref 318),(.int (173) 0),(.int (0) 0),(.ref 325),(.int (190) 0),(.int (0) 0),(.ref 332),(.int (204) 0),(.int (0) 0),(.ref 339),(.int (211) 0),(.int (0) 0),(.ref 346),(.int (220) 0),(.int (0) 0),(.ref 353)]
noncomputable def ff:List Value:=ff0++ff1++ff2
noncomputable abbrev ft(n:Nat):Obj:=⟨.none,none,.fields ⟨ff.take n⟩,#[]⟩
noncomputable abbrev dF(x:Str)(i l n t b:Nat)(pm:Value)(k:Nat):List Obj:=[tu [],fl,oZ x i,oC x t l n b .none .none (b+2) k (t+3),oF x i pm (b+3)]
noncomputable abbrev dG(x:Str)(i l n t b:Nat)(pm:Value)(k:Nat)(u:List Value):List Obj:=[tu [],fl,tu u,tu [],oZ x i,oC x t l n b (.ref (b+2)) (.ref (b+3)) (b+4) k (t+3+u.length),oF x i pm (b+5)]
noncomputable def al0(P:Params):List Obj:=[boot_o_0 P,boot_o_1 P,boot_o_2 P,ns P (en P "__name__" 165 (.str "law_duskbook_k60_paper_texts_refused" 538)) 54 55,boot_o_4 P,boot_o_5 P,boot_o_6 P,boot_o_7 P,boot_o_8 P,boot_o_9 P,boot_o_10 P,tu [],ft 111,⟨(.type "code"),none,(.fields #[(.str "<module>" 182),(.str "<module>" 183),(.str "/claim/cut.py" 184),(.int (1) 0),(.int (0) 0),(.int (0) 0),(.int (0) 0),(.int (0) 0),(.ref 11),(.bool false),(.int (181) 0),(.ref 12),.none,.none,.none,.none,(.int (185) 0),(.int (1) 0),(.str "/claim/cut.py" 186)]),#[]⟩,⟨(.type "frame"),none,.plain,#[(some (.ref 13)),(some (.ref 3)),(some (.ref 3)),none,(some (.str "__main__" 164)),none,(some (.ref 0))]⟩,tu [(.type "ValueError")],⟨(.type "builtin_function_or_method"),none,(.fields #[(.builtin "type.__prepare__"),(.type "type")]),#[]⟩,⟨(.type "dict"),none,(.dict #[en P "__module__" 196 (.str "duskbook.errors" 187),en P "__qualname__" 198 (.str "DuskError" 197),en P "__firstlineno__" 200 (.int (2) 199),en P "__static_attributes__" 201 (.ref 22)] 4),#[]⟩,tu [],fl,⟨(.type "code"),none,(.fields #[(.str "DuskError" 191),(.str "DuskError" 192),(.str "/claim/cut.py" 193),(.int (2) 0),(.int (0) 0),(.int (0) 0),(.int (0) 0),(.int (0) 0),(.ref 18),(.bool false),(.int (181) 0),(.ref 19),.none,.none,.none,.none,(.int (194) 0),(.int (2) 0),(.str "/claim/cut.py" 195)]),#[]⟩,⟨(.type "frame"),none,.plain,#[(some (.ref 20)),(some (.ref 3)),(some (.ref 17)),none,(some (.str "duskbook.errors" 187)),none,(some (.ref 0))]⟩,tu [],⟨(.type "dict"),none,(.dict #[en P "__module__" 196 (.str "duskbook.errors" 187),en P "__firstlineno__" 200 (.int (2) 199),en P "__static_attributes__" 201 (.ref 22),en P "__weakref__" 203 (.ref 25),en P "__doc__" 204 .none] 3),#[]⟩,⟨(.type "type"),none,(.cls ⟨"DuskError",[(.type "ValueError")],[(.ref 24),(.type "ValueError"),(.type "Exception"),(.type "BaseException"),(.type "object")],23,"DuskError",true,[],[(.ref 37),(.ref 49),(.ref 61),(.ref 73),(.ref 85),(.ref 97),(.ref 109),(.ref 121)],false,none,false⟩),#[(some (.ref 15)),none,(some (.str "DuskError" 189)),(some (.str "DuskError" 197)),(some (.builtin "ValueError.__new__")),(some (.bool true))]⟩,⟨(.type "getset_descriptor"),none,(.fields #[(.str "__weakref__" 202),(.ref 24),(.builtin "ExceptionGroup.__weakref__"),.none]),#[]⟩,⟨(.type "super"),none,(.fields #[(.ref 24),(.ref 24),(.ref 24)]),#[]⟩,⟨(.type "builtin_function_or_method"),none,(.fields #[(.builtin "object.__init_subclass__"),(.ref 24)]),#[]⟩,tu [(.ref 24)],⟨(.type "builtin_function_or_method"),none,(.fields #[(.builtin "type.__prepare__"),(.type "type")]),#[]⟩,⟨(.type "dict"),none,(.dict #[en P "__module__" 214 (.str "duskbook.errors" 187),en P "__qualname__" 216 (.str "NoBook" 215),en P "__firstlineno__" 218 (.int (4) 217),en P "__static_attributes__" 219 (.ref 35)] 4),#[]⟩,tu [],fl,⟨(.type "code"),none,(.fields #[(.str "NoBook" 209),(.str "NoBook" 210),(.str "/claim/cut.py" 211),(.int (4) 0),(.int (0) 0),(.int (0) 0),(.int (0) 0),(.int (0) 0),(.ref 31),(.bool false),(.int (181) 0),(.ref 32),.none,.none,.none,.none,(.int (212) 0),(.int (4) 0),(.str "/claim/cut.py" 213)]),#[]⟩,⟨(.type "frame"),none,.plain,#[(some (.ref 33)),(some (.ref 3)),(some (.ref 30)),none,(some (.str "duskbook.errors" 187)),none,(some (.ref 0))]⟩,tu [],⟨(.type "dict"),none,(.dict #[en P "__module__" 214 (.str "duskbook.errors" 187),en P "__firstlineno__" 218 (.int (4) 217),en P "__static_attributes__" 219 (.ref 35),en P "__doc__" 220 .none] 2),#[]⟩,⟨(.type "type"),none,(.cls ⟨"NoBook",[(.ref 24)],[(.ref 37),(.ref 24),(.type "ValueError"),(.type "Exception"),(.type "BaseException"),(.type "object")],36,"NoBook",true,[],[],false,none,false⟩),#[(some (.ref 28)),none,(some (.str "NoBook" 207)),(some (.str "NoBook" 215)),(some (.builtin "ValueError.__new__")),(some (.bool true))]⟩,⟨(.type "super"),none,(.fields #[(.ref 37),(.ref 37),(.ref 37)]),#[]⟩,⟨(.type "builtin_function_or_method"),none,(.fields #[(.builtin "object.__init_subclass__"),(.ref 37)]),#[]⟩]++([tu [(.ref 24)],⟨(.type "builtin_function_or_method"),none,(.fields #[(.builtin "type.__prepare__"),(.type "type")]),#[]⟩,⟨(.type "dict"),none,(.dict #[en P "__module__" 230 (.str "duskbook.errors" 187),en P "__qualname__" 232 (.str "NoHands" 231),en P "__firstlineno__" 234 (.int (6) 233),en P "__static_attributes__" 235 (.ref 47)] 4),#[]⟩,tu [],fl,⟨(.type "code"),none,(.fields #[(.str "NoHands" 225),(.str "NoHands" 226),(.str "/claim/cut.py" 227),(.int (6) 0),(.int (0) 0),(.int (0) 0),(.int (0) 0),(.int (0) 0),(.ref 43),(.bool false),(.int (181) 0),(.ref 44),.none,.none,.none,.none,(.int (228) 0),(.int (6) 0),(.str "/claim/cut.py" 229)]),#[]⟩,⟨(.type "frame"),none,.plain,#[(some (.ref 45)),(some (.ref 3)),(some (.ref 42)),none,(some (.str "duskbook.errors" 187)),none,(some (.ref 0))]⟩,tu [],⟨(.type "dict"),none,(.dict #[en P "__module__" 230 (.str "duskbook.errors" 187),en P "__firstlineno__" 234 (.int (6) 233),en P "__static_attributes__" 235 (.ref 47),en P "__doc__" 236 .none] 2),#[]⟩,⟨(.type "type"),none,(.cls ⟨"NoHands",[(.ref 24)],[(.ref 49),(.ref 24),(.type "ValueError"),(.type "Exception"),(.type "BaseException"),(.type "object")],48,"NoHands",true,[],[],false,none,false⟩),#[(some (.ref 40)),none,(some (.str "NoHands" 223)),(some (.str "NoHands" 231)),(some (.builtin "ValueError.__new__")),(some (.bool true))]⟩,⟨(.type "super"),none,(.fields #[(.ref 49),(.ref 49),(.ref 49)]),#[]⟩,⟨(.type "builtin_function_or_method"),none,(.fields #[(.builtin "object.__init_subclass__"),(.ref 49)]),#[]⟩,tu [(.ref 24)],⟨(.type "builtin_function_or_method"),none,(.fields #[(.builtin "type.__prepare__"),(.type "type")]),#[]⟩,⟨(.type "dict"),none,(.dict #[en P "__module__" 246 (.str "duskbook.errors" 187),en P "__qualname__" 248 (.str "Over" 247),en P "__firstlineno__" 250 (.int (8) 249),en P "__static_attributes__" 251 (.ref 59)] 4),#[]⟩,tu [],fl,⟨(.type "code"),none,(.fields #[(.str "Over" 241),(.str "Over" 242),(.str "/claim/cut.py" 243),(.int (8) 0),(.int (0) 0),(.int (0) 0),(.int (0) 0),(.int (0) 0),(.ref 55),(.bool false),(.int (181) 0),(.ref 56),.none,.none,.none,.none,(.int (244) 0),(.int (8) 0),(.str "/claim/cut.py" 245)]),#[]⟩,⟨(.type "frame"),none,.plain,#[(some (.ref 57)),(some (.ref 3)),(some (.ref 54)),none,(some (.str "duskbook.errors" 187)),none,(some (.ref 0))]⟩,tu [],⟨(.type "dict"),none,(.dict #[en P "__module__" 246 (.str "duskbook.errors" 187),en P "__firstlineno__" 250 (.int (8) 249),en P "__static_attributes__" 251 (.ref 59),en P "__doc__" 252 .none] 2),#[]⟩,⟨(.type "type"),none,(.cls ⟨"Over",[(.ref 24)],[(.ref 61),(.ref 24),(.type "ValueError"),(.type "Exception"),(.type "BaseException"),(.type "object")],60,"Over",true,[],[],false,none,false⟩),#[(some (.ref 52)),none,(some (.str "Over" 239)),(some (.str "Over" 247)),(some (.builtin "ValueError.__new__")),(some (.bool true))]⟩,⟨(.type "super"),none,(.fields #[(.ref 61),(.ref 61),(.ref 61)]),#[]⟩,⟨(.type "builtin_function_or_method"),none,(.fields #[(.builtin "object.__init_subclass__"),(.ref 61)]),#[]⟩,tu [(.ref 24)],⟨(.type "builtin_function_or_method"),none,(.fields #[(.builtin "type.__prepare__"),(.type "type")]),#[]⟩,⟨(.type "dict"),none,(.dict #[en P "__module__" 262 (.str "duskbook.errors" 187),en P "__qualname__" 264 (.str "NoLight" 263),en P "__firstlineno__" 266 (.int (10) 265),en P "__static_attributes__" 267 (.ref 71)] 4),#[]⟩,tu [],fl,⟨(.type "code"),none,(.fields #[(.str "NoLight" 257),(.str "NoLight" 258),(.str "/claim/cut.py" 259),(.int (10) 0),(.int (0) 0),(.int (0) 0),(.int (0) 0),(.int (0) 0),(.ref 67),(.bool false),(.int (181) 0),(.ref 68),.none,.none,.none,.none,(.int (260) 0),(.int (10) 0),(.str "/claim/cut.py" 261)]),#[]⟩,⟨(.type "frame"),none,.plain,#[(some (.ref 69)),(some (.ref 3)),(some (.ref 66)),none,(some (.str "duskbook.errors" 187)),none,(some (.ref 0))]⟩,tu [],⟨(.type "dict"),none,(.dict #[en P "__module__" 262 (.str "duskbook.errors" 187),en P "__firstlineno__" 266 (.int (10) 265),en P "__static_attributes__" 267 (.ref 71),en P "__doc__" 268 .none] 2),#[]⟩,⟨(.type "type"),none,(.cls ⟨"NoLight",[(.ref 24)],[(.ref 73),(.ref 24),(.type "ValueError"),(.type "Exception"),(.type "BaseException"),(.type "object")],72,"NoLight",true,[],[],false,none,false⟩),#[(some (.ref 64)),none,(some (.str "NoLight" 255)),(some (.str "NoLight" 263)),(some (.builtin "ValueError.__new__")),(some (.bool true))]⟩,⟨(.type "super"),none,(.fields #[(.ref 73),(.ref 73),(.ref 73)]),#[]⟩,⟨(.type "builtin_function_or_method"),none,(.fields #[(.builtin "object.__init_subclass__"),(.ref 73)]),#[]⟩,tu [(.ref 24)],⟨(.type "builtin_function_or_method"),none,(.fields #[(.builtin "type.__prepare__"),(.type "type")]),#[]⟩,⟨(.type "dict"),none,(.dict #[en P "__module__" 278 (.str "duskbook.errors" 187),en P "__qualname__" 280 (.str "NoneSettled" 279),en P "__firstlineno__" 282 (.int (12) 281),en P "__static_attributes__" 283 (.ref 83)] 4),#[]⟩,tu []]++([fl,⟨(.type "code"),none,(.fields #[(.str "NoneSettled" 273),(.str "NoneSettled" 274),(.str "/claim/cut.py" 275),(.int (12) 0),(.int (0) 0),(.int (0) 0),(.int (0) 0),(.int (0) 0),(.ref 79),(.bool false),(.int (181) 0),(.ref 80),.none,.none,.none,.none,(.int (276) 0),(.int (12) 0),(.str "/claim/cut.py" 277)]),#[]⟩,⟨(.type "frame"),none,.plain,#[(some (.ref 81)),(some (.ref 3)),(some (.ref 78)),none,(some (.str "duskbook.errors" 187)),none,(some (.ref 0))]⟩,tu [],⟨(.type "dict"),none,(.dict #[en P "__module__" 278 (.str "duskbook.errors" 187),en P "__firstlineno__" 282 (.int (12) 281),en P "__static_attributes__" 283 (.ref 83),en P "__doc__" 284 .none] 2),#[]⟩,⟨(.type "type"),none,(.cls ⟨"NoneSettled",[(.ref 24)],[(.ref 85),(.ref 24),(.type "ValueError"),(.type "Exception"),(.type "BaseException"),(.type "object")],84,"NoneSettled",true,[],[],false,none,false⟩),#[(some (.ref 76)),none,(some (.str "NoneSettled" 271)),(some (.str "NoneSettled" 279)),(some (.builtin "ValueError.__new__")),(some (.bool true))]⟩,⟨(.type "super"),none,(.fields #[(.ref 85),(.ref 85),(.ref 85)]),#[]⟩,⟨(.type "builtin_function_or_method"),none,(.fields #[(.builtin "object.__init_subclass__"),(.ref 85)]),#[]⟩,tu [(.ref 24)],⟨(.type "builtin_function_or_method"),none,(.fields #[(.builtin "type.__prepare__"),(.type "type")]),#[]⟩,⟨(.type "dict"),none,(.dict #[en P "__module__" 294 (.str "duskbook.errors" 187),en P "__qualname__" 296 (.str "NoTable" 295),en P "__firstlineno__" 298 (.int (14) 297),en P "__static_attributes__" 299 (.ref 95)] 4),#[]⟩,tu [],fl,⟨(.type "code"),none,(.fields #[(.str "NoTable" 289),(.str "NoTable" 290),(.str "/claim/cut.py" 291),(.int (14) 0),(.int (0) 0),(.int (0) 0),(.int (0) 0),(.int (0) 0),(.ref 91),(.bool false),(.int (181) 0),(.ref 92),.none,.none,.none,.none,(.int (292) 0),(.int (14) 0),(.str "/claim/cut.py" 293)]),#[]⟩,⟨(.type "frame"),none,.plain,#[(some (.ref 93)),(some (.ref 3)),(some (.ref 90)),none,(some (.str "duskbook.errors" 187)),none,(some (.ref 0))]⟩,tu [],⟨(.type "dict"),none,(.dict #[en P "__module__" 294 (.str "duskbook.errors" 187),en P "__firstlineno__" 298 (.int (14) 297),en P "__static_attributes__" 299 (.ref 95),en P "__doc__" 300 .none] 2),#[]⟩,⟨(.type "type"),none,(.cls ⟨"NoTable",[(.ref 24)],[(.ref 97),(.ref 24),(.type "ValueError"),(.type "Exception"),(.type "BaseException"),(.type "object")],96,"NoTable",true,[],[],false,none,false⟩),#[(some (.ref 88)),none,(some (.str "NoTable" 287)),(some (.str "NoTable" 295)),(some (.builtin "ValueError.__new__")),(some (.bool true))]⟩,⟨(.type "super"),none,(.fields #[(.ref 97),(.ref 97),(.ref 97)]),#[]⟩,⟨(.type "builtin_function_or_method"),none,(.fields #[(.builtin "object.__init_subclass__"),(.ref 97)]),#[]⟩,tu [(.ref 24)],⟨(.type "builtin_function_or_method"),none,(.fields #[(.builtin "type.__prepare__"),(.type "type")]),#[]⟩,⟨(.type "dict"),none,(.dict #[en P "__module__" 310 (.str "duskbook.errors" 187),en P "__qualname__" 312 (.str "NoPage" 311),en P "__firstlineno__" 314 (.int (16) 313),en P "__static_attributes__" 315 (.ref 107)] 4),#[]⟩,tu [],fl,⟨(.type "code"),none,(.fields #[(.str "NoPage" 305),(.str "NoPage" 306),(.str "/claim/cut.py" 307),(.int (16) 0),(.int (0) 0),(.int (0) 0),(.int (0) 0),(.int (0) 0),(.ref 103),(.bool false),(.int (181) 0),(.ref 104),.none,.none,.none,.none,(.int (308) 0),(.int (16) 0),(.str "/claim/cut.py" 309)]),#[]⟩,⟨(.type "frame"),none,.plain,#[(some (.ref 105)),(some (.ref 3)),(some (.ref 102)),none,(some (.str "duskbook.errors" 187)),none,(some (.ref 0))]⟩,tu [],⟨(.type "dict"),none,(.dict #[en P "__module__" 310 (.str "duskbook.errors" 187),en P "__firstlineno__" 314 (.int (16) 313),en P "__static_attributes__" 315 (.ref 107),en P "__doc__" 316 .none] 2),#[]⟩,⟨(.type "type"),none,(.cls ⟨"NoPage",[(.ref 24)],[(.ref 109),(.ref 24),(.type "ValueError"),(.type "Exception"),(.type "BaseException"),(.type "object")],108,"NoPage",true,[],[],false,none,false⟩),#[(some (.ref 100)),none,(some (.str "NoPage" 303)),(some (.str "NoPage" 311)),(some (.builtin "ValueError.__new__")),(some (.bool true))]⟩,⟨(.type "super"),none,(.fields #[(.ref 109),(.ref 109),(.ref 109)]),#[]⟩,⟨(.type "builtin_function_or_method"),none,(.fields #[(.builtin "object.__init_subclass__"),(.ref 109)]),#[]⟩,tu [(.ref 24)],⟨(.type "builtin_function_or_method"),none,(.fields #[(.builtin "type.__prepare__"),(.type "type")]),#[]⟩,⟨(.type "dict"),none,(.dict #[en P "__module__" 326 (.str "duskbook.errors" 187),en P "__qualname__" 328 (.str "NoPaper" 327),en P "__firstlineno__" 330 (.int (18) 329),en P "__static_attributes__" 331 (.ref 119)] 4),#[]⟩,tu [],fl,⟨(.type "code"),none,(.fields #[(.str "NoPaper" 321),(.str "NoPaper" 322),(.str "/claim/cut.py" 323),(.int (18) 0),(.int (0) 0),(.int (0) 0),(.int (0) 0),(.int (0) 0),(.ref 115),(.bool false),(.int (181) 0),(.ref 116),.none,.none,.none,.none,(.int (324) 0),(.int (18) 0),(.str "/claim/cut.py" 325)]),#[]⟩,⟨(.type "frame"),none,.plain,#[(some (.ref 117)),(some (.ref 3)),(some (.ref 114)),none,(some (.str "duskbook.errors" 187)),none,(some (.ref 0))]⟩,tu []]++([⟨(.type "dict"),none,(.dict #[en P "__module__" 326 (.str "duskbook.errors" 187),en P "__firstlineno__" 330 (.int (18) 329),en P "__static_attributes__" 331 (.ref 119),en P "__doc__" 332 .none] 2),#[]⟩,⟨(.type "type"),none,(.cls ⟨"NoPaper",[(.ref 24)],[(.ref 121),(.ref 24),(.type "ValueError"),(.type "Exception"),(.type "BaseException"),(.type "object")],120,"NoPaper",true,[],[],false,none,false⟩),#[(some (.ref 112)),none,(some (.str "NoPaper" 319)),(some (.str "NoPaper" 327)),(some (.builtin "ValueError.__new__")),(some (.bool true))]⟩,⟨(.type "super"),none,(.fields #[(.ref 121),(.ref 121),(.ref 121)]),#[]⟩,⟨(.type "builtin_function_or_method"),none,(.fields #[(.builtin "object.__init_subclass__"),(.ref 121)]),#[]⟩]++(dG "is_beacon" 12 22 1 339 124 p0 181 [(.str "thing" 342)]++([⟨(.type "dict"),none,(.dict #[en P "+" 352 (.bool true),en P "-" 353 (.bool false)] 2),#[]⟩]++(dF "number_read" 17 28 1 357 132 p1 181++(dG "beacon_read" 18 34 1 363 137 p1 181 [(.str "word" 366),(.str "number" 367)]++(dG "saying_read" 19 37 1 371 144 p1 181 [(.str "word" 374),(.str "beacon" 375)]++([⟨(.type "dict"),none,(.dict #[en P "yes" 383 (.bool true),en P "no" 384 (.bool false)] 2),#[]⟩,⟨(.type "dict"),none,(.dict #[en P "broken" 388 (.ref 153),en P "clash" 389 (.ref 154),en P "cross" 392 (.ref 155),en P "late" 394 (.ref 156),en P "odd" 397 (.ref 157),en P "lone" 399 (.ref 158),en P "plan" 403 (.ref 159),en P "sums" 405 (.ref 160),en P "rows" 407 (.ref 161)] 9),#[]⟩,tu [],tu [(.str "road" 390),(.str "road" 391)],tu [(.str "road" 393)],tu [(.str "road" 395),(.str "road" 396)],tu [(.str "places" 398)],tu [(.str "source" 400),(.str "places" 401),(.str "places" 402)],tu [(.str "plan rows" 404)],tu [(.str "sum rows" 406)],tu [(.str "beacons" 408),(.str "if rows" 409)],⟨(.type "dict"),none,(.dict #[en P "plan rows" 420 (.ref 163),en P "sum rows" 424 (.ref 164),en P "if rows" 428 (.ref 165)] 3),#[]⟩,tu [(.str "beacon" 421),(.str "source" 422),(.str "truth" 423)],tu [(.str "beacon" 425),(.str "beacons" 426),(.str "truth" 427)],tu [(.str "beacon" 429),(.str "beacons" 430)],⟨(.type "dict"),none,(.dict #[en P "road" 435 (.str "saying" 436),en P "places" 437 (.str "place" 438),en P "beacons" 439 (.str "beacon" 440)] 3),#[]⟩,tu [],⟨(.type "builtin_function_or_method"),none,(.fields #[(.builtin "type.__prepare__"),(.type "type")]),#[]⟩,⟨(.type "dict"),none,(.dict #[en P "__module__" 452 (.str "duskbook.papertexts" 379),en P "__qualname__" 454 (.str "Reader" 453),en P "__firstlineno__" 456 (.int (48) 455),en P "__init__" 464 (.ref 180),en P "is_at_end" 471 (.ref 187),en P "taken" 478 (.ref 194),en P "__static_attributes__" 481 (.ref 195)] 7),#[]⟩,tu [],⟨.none,none,(.fields #[(.int (50) 0),(.int (4) 0),(.ref 179),(.int (54) 0),(.int (4) 0),(.ref 186),(.int (57) 0),(.int (4) 0),(.ref 193)]),#[]⟩,⟨(.type "code"),none,(.fields #[(.str "Reader" 447),(.str "Reader" 448),(.str "/claim/cut.py" 449),(.int (48) 0),(.int (0) 0),(.int (0) 0),(.int (0) 0),(.int (0) 0),(.ref 170),(.bool false),(.int (181) 0),(.ref 171),.none,.none,.none,.none,(.int (450) 0),(.int (48) 0),(.str "/claim/cut.py" 451)]),#[]⟩,⟨(.type "frame"),none,.plain,#[(some (.ref 172)),(some (.ref 3)),(some (.ref 169)),none,(some (.str "duskbook.papertexts" 379)),none,(some (.ref 0))]⟩,tu [],fl,tu [(.str "self" 460),(.str "text" 461)],tu [],⟨.none,none,(fn "__init__" "Reader.__init__" (topm 26 0) .none .none .none .none none .none .none 0 0),#[]⟩,⟨(.type "code"),none,(.fields #[(.str "__init__" 457),(.str "Reader.__init__" 458),(.str "/claim/cut.py" 459),(.int (50) 0),(.int (2) 0),(.int (0) 0),(.int (0) 0),(.int (3) 0),(.ref 174),(.bool true),(.int (181) 0),(.ref 175),.none,(.ref 176),(.ref 177),(.ref 178),(.int (462) 0),(.int (50) 0),(.str "/claim/cut.py" 463)]),#[]⟩,oM "__init__" "Reader.__init__" 26 0 p2 179,tu [],fl,tu [(.str "self" 468)],tu [],⟨.none,none,(fn "is_at_end" "Reader.is_at_end" (topm 26 1) .none .none .none .none none .none .none 0 0),#[]⟩,⟨(.type "code"),none,(.fields #[(.str "is_at_end" 465),(.str "Reader.is_at_end" 466),(.str "/claim/cut.py" 467),(.int (54) 0),(.int (1) 0),(.int (0) 0),(.int (0) 0),(.int (3) 0),(.ref 181),(.bool true),(.int (181) 0),(.ref 182),.none,(.ref 183),(.ref 184),(.ref 185),(.int (469) 0),(.int (54) 0),(.str "/claim/cut.py" 470)]),#[]⟩,oM "is_at_end" "Reader.is_at_end" 26 1 p2 186,tu [],fl,tu [(.str "self" 475)]]++([tu [],⟨.none,none,(fn "taken" "Reader.taken" (topm 26 2) .none .none .none .none none .none .none 0 0),#[]⟩,⟨(.type "code"),none,(.fields #[(.str "taken" 472),(.str "Reader.taken" 473),(.str "/claim/cut.py" 474),(.int (57) 0),(.int (1) 0),(.int (0) 0),(.int (0) 0),(.int (3) 0),(.ref 188),(.bool true),(.int (181) 0),(.ref 189),.none,(.ref 190),(.ref 191),(.ref 192),(.int (476) 0),(.int (57) 0),(.str "/claim/cut.py" 477)]),#[]⟩,oM "taken" "Reader.taken" 26 2 p2 193,tu [(.str "place" 479),(.str "words" 480)],⟨(.type "dict"),none,(.dict #[en P "__module__" 452 (.str "duskbook.papertexts" 379),en P "__firstlineno__" 456 (.int (48) 455),en P "__init__" 464 (.ref 180),en P "is_at_end" 471 (.ref 187),en P "taken" 478 (.ref 194),en P "__static_attributes__" 481 (.ref 195),en P "__dict__" 483 (.ref 198),en P "__weakref__" 485 (.ref 199),en P "__doc__" 486 .none] 4),#[]⟩,⟨(.type "type"),none,(.cls ⟨"Reader",[(.type "object")],[(.ref 197),(.type "object")],196,"Reader",true,[],[],false,none,false⟩),#[none,none,(some (.str "Reader" 445)),(some (.str "Reader" 453)),(some (.builtin "object.__new__")),(some (.bool true))]⟩,⟨(.type "getset_descriptor"),none,(.fields #[(.str "__dict__" 482),(.ref 197),(.builtin "function.__dict__"),(.builtin "function.__dict__#set")]),#[]⟩,⟨(.type "getset_descriptor"),none,(.fields #[(.str "__weakref__" 484),(.ref 197),(.builtin "ExceptionGroup.__weakref__"),.none]),#[]⟩,⟨(.type "super"),none,(.fields #[(.ref 197),(.ref 197),(.ref 197)]),#[]⟩,⟨(.type "builtin_function_or_method"),none,(.fields #[(.builtin "object.__init_subclass__"),(.ref 197)]),#[]⟩]++(dG "place_read" 27 62 1 489 202 p2 181 [(.str "word" 492),(.str "number" 493)]++(dG "checked" 28 65 1 497 209 p2 181 [(.str "thing" 500)]++(dG "thing_read" 29 69 2 504 216 p2 181 [(.str "form" 507),(.str "word" 508)]++(dG "part_read" 30 79 2 512 223 p2 181 [(.str "form" 515),(.str "reader" 516),(.str "parts" 517),(.str "count" 518)]++(dF "parts_read" 31 89 2 522 230 p2 181++(dG "paper_read" 32 91 1 528 235 p2 181 [(.str "text" 531),(.str "reader" 532),(.str "word" 533),(.str "parts" 534)]++(dG "_law_cell" 34 101 2 540 242 p3 181 [(.str "script" 543),(.str "k" 544)]++(dG "_law_mixed" 35 105 2 548 249 p3 181 [(.str "cell" 551),(.str "by" 552)]++(dG "_law_next" 36 107 1 556 256 p3 181 [(.str "tape" 559)]++(dG "_law_many" 37 111 2 563 263 p3 181 [(.str "tape" 566),(.str "most" 567),(.str "left" 568)]++(dG "_law_any_road" 38 116 1 572 270 p3 181 [(.str "tape" 575),(.str "road" 576),(.str "k" 577),(.str "left" 578)]++(dF "_law_any_numbers" 39 122 2 582 277 p3 181++(dG "_law_any_rows" 40 124 2 588 282 p3 181 [(.str "tape" 591),(.str "word" 592),(.str "rows" 593),(.str "k" 594),(.str "left" 595)]++(dG "_law_any" 41 135 1 599 289 p3 181 [(.str "tape" 602),(.str "left" 603),(.str "word" 604),(.str "road" 605),(.str "places" 606),(.str "numbers" 607)]))))))))))))))))))))))))
noncomputable def al1(P:Params):List Obj:=dF "_law_number_words" 42 154 1 611 296 p3 181++(dF "_law_road_words" 43 156 1 617 301 p3 181++(dG "_law_free_word" 44 158 1 623 306 p3 181 [(.str "beacon" 626)]++(dG "_law_rows_words" 45 162 2 630 313 p3 181 [(.str "word" 633),(.str "rows" 634),(.str "words" 635),(.str "row" 636)]++(dG "_law_paper_words" 46 173 1 640 320 p3 181 [(.str "paper" 643),(.str "word" 644),(.str "words" 645)]++(dG "_law_faulty" 47 190 2 649 327 p3 181 [(.str "words" 652),(.str "pick" 653),(.str "way" 654),(.str "at" 655),(.str "some" 656)]++(dG "_law_far_beacon" 48 204 1 660 334 p3 181 [(.str "pick" 663),(.str "far" 664),(.str "some" 665)]++(dG "_law_kinds" 49 211 1 669 341 p3 181 [(.str "written" 672),(.str "kinds" 673),(.str "e" 674),(.str "some" 675),(.str "more" 676)]++(dG "law" 50 220 1 680 348 p3 181 [(.str "script" 683),(.str "pick" 684),(.str "paper" 685),(.str "words" 686),(.str "written" 687),(.str "refused" 688)]))))))))
noncomputable def al(P:Params):List Obj:=al0 P++al1 P
noncomputable def upd(l:List (Nat × Obj))(xs:List Obj):List Obj:=l.foldl (fun xs p=>xs.set p.1 p.2) xs
noncomputable def ev:List Obj->List Obj
 | []=>[]
 | [x]=>[x]
 | x::_::r=>x::ev r
noncomputable def bt:Nat->List Obj->BT
 | 0,_=>.nil
 | _+1,[]=>.nil
 | n+1,x::xs=>.node x (bt n (ev xs)) (bt n (ev xs.tail))
noncomputable abbrev bd:List Stmt:=behindTheImports pg
noncomputable abbrev sl(i n:Nat):List Stmt:=(bd.drop i).take n
noncomputable abbrev env:Env:={ scope:=pg.main.scope,locals:=mainNs,globals:=mainNs,cells:=[],code:=(.ref 13),frame:=some 14 }
noncomputable abbrev cE:Code:=.body bd env
noncomputable abbrev B:List Frame:=[topFrame ⟨0,0,0,0⟩]
noncomputable abbrev ss(n:Nat)(l:Params->List (Nat × Obj))(t:Nat)(w:World)(os:OsState):SharedT:=⟨bt 12 (upd (l w.params) ((al w.params).take n)),n,{},.mk [],boot_drawn,t,os⟩
noncomputable def h0(P:Params):Heap:=⟨⟨upd [(3,boot_o_3 P),(12,fl)] ((al P).take 15)⟩,{}⟩
noncomputable abbrev s0(w:World)(os:OsState):Shared:=⟨h0 w.params,.mk [],boot_drawn,187,os⟩
noncomputable abbrev s1:World->OsState->SharedT:=ss 15 (fun P=>[(3,boot_o_3 P),(12,fl)]) 187
noncomputable abbrev s2:World->OsState->SharedT:=ss 28 (fun P=>[(3,ns P (en P "__name__" 165 (.str "duskbook.errors" 187)) 9 10),(12,ft 3),(24,⟨(.type "type"),none,(.cls ⟨"DuskError",[(.type "ValueError")],[(.ref 24),(.type "ValueError"),(.type "Exception"),(.type "BaseException"),(.type "object")],23,"DuskError",true,[],[],false,none,false⟩),#[(some (.ref 15)),none,(some (.str "DuskError" 189)),(some (.str "DuskError" 197)),(some (.builtin "ValueError.__new__")),(some (.bool true))]⟩)]) 207
noncomputable abbrev s3:World->OsState->SharedT:=ss 40 (fun P=>[(3,ns P (en P "__name__" 165 (.str "duskbook.errors" 187)) 10 11),(12,ft 6),(24,⟨(.type "type"),none,(.cls ⟨"DuskError",[(.type "ValueError")],[(.ref 24),(.type "ValueError"),(.type "Exception"),(.type "BaseException"),(.type "object")],23,"DuskError",true,[],[(.ref 37)],false,none,false⟩),#[(some (.ref 15)),none,(some (.str "DuskError" 189)),(some (.str "DuskError" 197)),(some (.builtin "ValueError.__new__")),(some (.bool true))]⟩)]) 223
noncomputable abbrev s4:World->OsState->SharedT:=ss 52 (fun P=>[(3,ns P (en P "__name__" 165 (.str "duskbook.errors" 187)) 11 12),(12,ft 9),(24,⟨(.type "type"),none,(.cls ⟨"DuskError",[(.type "ValueError")],[(.ref 24),(.type "ValueError"),(.type "Exception"),(.type "BaseException"),(.type "object")],23,"DuskError",true,[],[(.ref 37),(.ref 49)],false,none,false⟩),#[(some (.ref 15)),none,(some (.str "DuskError" 189)),(some (.str "DuskError" 197)),(some (.builtin "ValueError.__new__")),(some (.bool true))]⟩)]) 239
noncomputable abbrev s5:World->OsState->SharedT:=ss 64 (fun P=>[(3,ns P (en P "__name__" 165 (.str "duskbook.errors" 187)) 12 13),(12,ft 12),(24,⟨(.type "type"),none,(.cls ⟨"DuskError",[(.type "ValueError")],[(.ref 24),(.type "ValueError"),(.type "Exception"),(.type "BaseException"),(.type "object")],23,"DuskError",true,[],[(.ref 37),(.ref 49),(.ref 61)],false,none,false⟩),#[(some (.ref 15)),none,(some (.str "DuskError" 189)),(some (.str "DuskError" 197)),(some (.builtin "ValueError.__new__")),(some (.bool true))]⟩)]) 255
noncomputable abbrev s6:World->OsState->SharedT:=ss 76 (fun P=>[(3,ns P (en P "__name__" 165 (.str "duskbook.errors" 187)) 13 14),(12,ft 15),(24,⟨(.type "type"),none,(.cls ⟨"DuskError",[(.type "ValueError")],[(.ref 24),(.type "ValueError"),(.type "Exception"),(.type "BaseException"),(.type "object")],23,"DuskError",true,[],[(.ref 37),(.ref 49),(.ref 61),(.ref 73)],false,none,false⟩),#[(some (.ref 15)),none,(some (.str "DuskError" 189)),(some (.str "DuskError" 197)),(some (.builtin "ValueError.__new__")),(some (.bool true))]⟩)]) 271
noncomputable abbrev s7:World->OsState->SharedT:=ss 88 (fun P=>[(3,ns P (en P "__name__" 165 (.str "duskbook.errors" 187)) 14 15),(12,ft 18),(24,⟨(.type "type"),none,(.cls ⟨"DuskError",[(.type "ValueError")],[(.ref 24),(.type "ValueError"),(.type "Exception"),(.type "BaseException"),(.type "object")],23,"DuskError",true,[],[(.ref 37),(.ref 49),(.ref 61),(.ref 73),(.ref 85)],false,none,false⟩),#[(some (.ref 15)),none,(some (.str "DuskError" 189)),(some (.str "DuskError" 197)),(some (.builtin "ValueError.__new__")),(some (.bool true))]⟩)]) 287
noncomputable abbrev s8:World->OsState->SharedT:=ss 100 (fun P=>[(3,ns P (en P "__name__" 165 (.str "duskbook.errors" 187)) 15 16),(12,ft 21),(24,⟨(.type "type"),none,(.cls ⟨"DuskError",[(.type "ValueError")],[(.ref 24),(.type "ValueError"),(.type "Exception"),(.type "BaseException"),(.type "object")],23,"DuskError",true,[],[(.ref 37),(.ref 49),(.ref 61),(.ref 73),(.ref 85),(.ref 97)],false,none,false⟩),#[(some (.ref 15)),none,(some (.str "DuskError" 189)),(some (.str "DuskError" 197)),(some (.builtin "ValueError.__new__")),(some (.bool true))]⟩)]) 303
noncomputable abbrev s9:World->OsState->SharedT:=ss 112 (fun P=>[(3,ns P (en P "__name__" 165 (.str "duskbook.errors" 187)) 16 17),(12,ft 24),(24,⟨(.type "type"),none,(.cls ⟨"DuskError",[(.type "ValueError")],[(.ref 24),(.type "ValueError"),(.type "Exception"),(.type "BaseException"),(.type "object")],23,"DuskError",true,[],[(.ref 37),(.ref 49),(.ref 61),(.ref 73),(.ref 85),(.ref 97),(.ref 109)],false,none,false⟩),#[(some (.ref 15)),none,(some (.str "DuskError" 189)),(some (.str "DuskError" 197)),(some (.builtin "ValueError.__new__")),(some (.bool true))]⟩)]) 319
noncomputable abbrev s10:World->OsState->SharedT:=ss 144 (fun P=>[(3,ns P (en P "__name__" 165 (.str "duskbook.pages" 346)) 24 25),(12,ft 36)]) 371
noncomputable abbrev s11:World->OsState->SharedT:=ss 167 (fun P=>[(3,ns P (en P "__name__" 165 (.str "duskbook.papertexts" 379)) 30 31),(12,ft 39)]) 445
noncomputable abbrev s12:World->OsState->SharedT:=ss 223 (fun P=>[(3,ns P (en P "__name__" 165 (.str "duskbook.papertexts" 379)) 34 35),(12,ft 51)]) 512
noncomputable abbrev s13:World->OsState->SharedT:=ss 306 (fun P=>[(3,ns P (en P "__name__" 165 (.str "law_duskbook_k60_paper_texts_refused" 538)) 47 48),(12,ft 90)]) 623
noncomputable abbrev s14:World->OsState->SharedT:=ss 355 (fun P=>[]) 692
noncomputable def h15(P:Params):Heap:=⟨⟨upd [] ((al P).take 355)⟩,{}⟩
noncomputable abbrev s15(w:World)(os:OsState):Shared:=⟨h15 w.params,.mk [],boot_drawn,692,os⟩
noncomputable abbrev sz(w:World)(os:OsState):Shared:=⟨boot_heap w.params,.mk [],boot_drawn,boot_toks,os⟩
theorem e0:∀w:World,(fun os=>topGo treeTable pg w 11 (some (.ref 6)) 12 (sz w os) (topStub pg))=fun os=>some (s0 w os,⟨denote treeTable cE,cE,⟨0,0,0,0⟩,B⟩):=by
 rw[W.Fast.te15667345088766844465,W.Fast.te14364793385576792824,W.Fast.te11892475500146522536];intro w;kernel_rfl
theorem e1:∀w:World,(fun os=>segRun treeTable pg w 11 (some (.ref 6)) 1 1 (s0 w os) (blockOf bd env cE ⟨0,0,0,0⟩ B))=fun os=>some (.next,(s1 w os).abs,cE,⟨0,0,0,0⟩):=by
 rw[W.Fast.te14374325043358763698,W.Fast.te14364793385576792824];intro w;kernel_rfl
theorem e2:∀w:World,(fun os=>segRunT treeTable pg w 11 (some (.ref 6)) 1 196 (s1 w os) (piecesOf (sl 0 2) env cE ⟨0,0,0,0⟩ B))=fun os=>some (.next,s2 w os,cE,⟨2,0,3,8⟩):=by
 rw[W.Fast.te10110043849684766642,W.Fast.te14364793385576792824];intro w;kernel_rfl
theorem e3:∀w:World,(fun os=>segRunT treeTable pg w 11 (some (.ref 6)) 1 214 (s2 w os) (piecesOf (sl 2 1) env cE ⟨2,0,3,8⟩ B))=fun os=>some (.next,s3 w os,cE,⟨4,0,5,8⟩):=by
 rw[W.Fast.te10110043849684766642,W.Fast.te14364793385576792824];intro w;kernel_rfl
theorem e4:∀w:World,(fun os=>segRunT treeTable pg w 11 (some (.ref 6)) 1 214 (s3 w os) (piecesOf (sl 3 1) env cE ⟨4,0,5,8⟩ B))=fun os=>some (.next,s4 w os,cE,⟨6,0,7,8⟩):=by
 rw[W.Fast.te10110043849684766642,W.Fast.te14364793385576792824];intro w;kernel_rfl
theorem e5:∀w:World,(fun os=>segRunT treeTable pg w 11 (some (.ref 6)) 1 214 (s4 w os) (piecesOf (sl 4 1) env cE ⟨6,0,7,8⟩ B))=fun os=>some (.next,s5 w os,cE,⟨8,0,9,8⟩):=by
 rw[W.Fast.te10110043849684766642,W.Fast.te14364793385576792824];intro w;kernel_rfl
theorem e6:∀w:World,(fun os=>segRunT treeTable pg w 11 (some (.ref 6)) 1 214 (s5 w os) (piecesOf (sl 5 1) env cE ⟨8,0,9,8⟩ B))=fun os=>some (.next,s6 w os,cE,⟨10,0,11,8⟩):=by
 rw[W.Fast.te10110043849684766642,W.Fast.te14364793385576792824];intro w;kernel_rfl
theorem e7:∀w:World,(fun os=>segRunT treeTable pg w 11 (some (.ref 6)) 1 214 (s6 w os) (piecesOf (sl 6 1) env cE ⟨10,0,11,8⟩ B))=fun os=>some (.next,s7 w os,cE,⟨12,0,13,8⟩):=by
 rw[W.Fast.te10110043849684766642,W.Fast.te14364793385576792824];intro w;kernel_rfl
theorem e8:∀w:World,(fun os=>segRunT treeTable pg w 11 (some (.ref 6)) 1 214 (s7 w os) (piecesOf (sl 7 1) env cE ⟨12,0,13,8⟩ B))=fun os=>some (.next,s8 w os,cE,⟨14,0,15,8⟩):=by
 rw[W.Fast.te10110043849684766642,W.Fast.te14364793385576792824];intro w;kernel_rfl
theorem e9:∀w:World,(fun os=>segRunT treeTable pg w 11 (some (.ref 6)) 1 214 (s8 w os) (piecesOf (sl 8 1) env cE ⟨14,0,15,8⟩ B))=fun os=>some (.next,s9 w os,cE,⟨16,0,17,8⟩):=by
 rw[W.Fast.te10110043849684766642,W.Fast.te14364793385576792824];intro w;kernel_rfl
theorem e10:∀w:World,(fun os=>segRunT treeTable pg w 11 (some (.ref 6)) 1 382 (s9 w os) (piecesOf (sl 9 10) env cE ⟨16,0,17,8⟩ B))=fun os=>some (.next,s10 w os,cE,⟨34,0,36,48⟩):=by
 rw[W.Fast.te10110043849684766642,W.Fast.te14364793385576792824];refine byRow2 "special-get-raises" ?_ ?_<;>(intro w;kernel_rfl)
theorem e11:∀w:World,(fun os=>segRunT treeTable pg w 11 (some (.ref 6)) 1 375 (s10 w os) (piecesOf (sl 19 7) env cE ⟨34,0,36,48⟩ B))=fun os=>some (.next,s11 w os,cE,⟨47,0,47,7⟩):=by
 rw[W.Fast.te10110043849684766642,W.Fast.te14364793385576792824];refine byRow2 "special-get-raises" ?_ ?_<;>(intro w;kernel_rfl)
theorem e12:∀w:World,(fun os=>segRunT treeTable pg w 11 (some (.ref 6)) 1 375 (s11 w os) (piecesOf (sl 26 4) env cE ⟨47,0,47,7⟩ B))=fun os=>some (.next,s12 w os,cE,⟨69,0,78,37⟩):=by
 rw[W.Fast.te10110043849684766642,W.Fast.te14364793385576792824];intro w;kernel_rfl
theorem e13:∀w:World,(fun os=>segRunT treeTable pg w 11 (some (.ref 6)) 1 397 (s12 w os) (piecesOf (sl 30 14) env cE ⟨69,0,78,37⟩ B))=fun os=>some (.next,s13 w os,cE,⟨156,0,157,94⟩):=by
 rw[W.Fast.te10110043849684766642,W.Fast.te14364793385576792824];intro w;kernel_rfl
theorem e14:∀w:World,(fun os=>segRunT treeTable pg w 11 (some (.ref 6)) 1 224 (s13 w os) (piecesOf (sl 44 7) env cE ⟨156,0,157,94⟩ B))=fun os=>some (.next,s14 w os,cE,⟨220,0,234,47⟩):=by
 rw[W.Fast.te10110043849684766642,W.Fast.te14364793385576792824];intro w;kernel_rfl
theorem e15:∀w:World,(fun os=>topRun treeTable pg w 11 (some (.ref 6)) 2 (s14 w os).abs ⟨doneF .next,cE,⟨220,0,234,47⟩,B⟩)=fun os=>some (s15 w os):=by
 rw[W.Fast.te14082659384304107361,W.Fast.te14364793385576792824];intro w;kernel_rfl
noncomputable abbrev m15:Nat:=2
noncomputable abbrev t15:List Stmt:=[]
noncomputable abbrev R(w:World)(os:OsState)(m:Nat)(s:Shared)(t:List Stmt)(p:Pos):Prop:=topRun treeTable pg w 11 (some (.ref 6)) m s (restOf t env cE p B)=some (s15 w os)
theorem r15(w:World)(os:OsState):R w os m15 (s14 w os).abs t15 ⟨220,0,234,47⟩:=congrFun (e15 w) os
noncomputable abbrev m14:Nat:=224+m15
noncomputable abbrev t14:List Stmt:=sl 44 7++t15
theorem r14(w:World)(os:OsState):R w os m14 (s13 w os).abs t14 ⟨156,0,157,94⟩:=piece_app (segRun_of (congrFun (e14 w) os)) (r15 w os)
noncomputable abbrev m13:Nat:=397+m14
noncomputable abbrev t13:List Stmt:=sl 30 14++t14
theorem r13(w:World)(os:OsState):R w os m13 (s12 w os).abs t13 ⟨69,0,78,37⟩:=piece_app (segRun_of (congrFun (e13 w) os)) (r14 w os)
noncomputable abbrev m12:Nat:=375+m13
noncomputable abbrev t12:List Stmt:=sl 26 4++t13
theorem r12(w:World)(os:OsState):R w os m12 (s11 w os).abs t12 ⟨47,0,47,7⟩:=piece_app (segRun_of (congrFun (e12 w) os)) (r13 w os)
noncomputable abbrev m11:Nat:=375+m12
noncomputable abbrev t11:List Stmt:=sl 19 7++t12
theorem r11(w:World)(os:OsState):R w os m11 (s10 w os).abs t11 ⟨34,0,36,48⟩:=piece_app (segRun_of (congrFun (e11 w) os)) (r12 w os)
noncomputable abbrev m10:Nat:=382+m11
noncomputable abbrev t10:List Stmt:=sl 9 10++t11
theorem r10(w:World)(os:OsState):R w os m10 (s9 w os).abs t10 ⟨16,0,17,8⟩:=piece_app (segRun_of (congrFun (e10 w) os)) (r11 w os)
noncomputable abbrev m9:Nat:=214+m10
noncomputable abbrev t9:List Stmt:=sl 8 1++t10
theorem r9(w:World)(os:OsState):R w os m9 (s8 w os).abs t9 ⟨14,0,15,8⟩:=piece_app (segRun_of (congrFun (e9 w) os)) (r10 w os)
noncomputable abbrev m8:Nat:=214+m9
noncomputable abbrev t8:List Stmt:=sl 7 1++t9
theorem r8(w:World)(os:OsState):R w os m8 (s7 w os).abs t8 ⟨12,0,13,8⟩:=piece_app (segRun_of (congrFun (e8 w) os)) (r9 w os)
noncomputable abbrev m7:Nat:=214+m8
noncomputable abbrev t7:List Stmt:=sl 6 1++t8
theorem r7(w:World)(os:OsState):R w os m7 (s6 w os).abs t7 ⟨10,0,11,8⟩:=piece_app (segRun_of (congrFun (e7 w) os)) (r8 w os)
noncomputable abbrev m6:Nat:=214+m7
noncomputable abbrev t6:List Stmt:=sl 5 1++t7
theorem r6(w:World)(os:OsState):R w os m6 (s5 w os).abs t6 ⟨8,0,9,8⟩:=piece_app (segRun_of (congrFun (e6 w) os)) (r7 w os)
noncomputable abbrev m5:Nat:=214+m6
noncomputable abbrev t5:List Stmt:=sl 4 1++t6
theorem r5(w:World)(os:OsState):R w os m5 (s4 w os).abs t5 ⟨6,0,7,8⟩:=piece_app (segRun_of (congrFun (e5 w) os)) (r6 w os)
noncomputable abbrev m4:Nat:=214+m5
noncomputable abbrev t4:List Stmt:=sl 3 1++t5
theorem r4(w:World)(os:OsState):R w os m4 (s3 w os).abs t4 ⟨4,0,5,8⟩:=piece_app (segRun_of (congrFun (e4 w) os)) (r5 w os)
noncomputable abbrev m3:Nat:=214+m4
noncomputable abbrev t3:List Stmt:=sl 2 1++t4
theorem r3(w:World)(os:OsState):R w os m3 (s2 w os).abs t3 ⟨2,0,3,8⟩:=piece_app (segRun_of (congrFun (e3 w) os)) (r4 w os)
noncomputable abbrev m2:Nat:=196+m3
noncomputable abbrev t2:List Stmt:=sl 0 2++t3
theorem r2(w:World)(os:OsState):R w os m2 (s1 w os).abs t2 ⟨0,0,0,0⟩:=piece_app (segRun_of (congrFun (e2 w) os)) (r3 w os)
theorem tb:bd=t2:=by kernel_rfl
theorem run(w:World)(os:OsState):topRun treeTable pg w 11 (some (.ref 6)) (12+(1+m2)) (sz w os) (topStub pg)=some (s15 w os):=by
 have r:=r2 w os
 unfold R at r
 rw[<-congrArg (fun x=>restOf x env cE ⟨0,0,0,0⟩ B) tb]at r
 exact go_top (congrFun (e0 w) os) (piece_block (congrFun (e1 w) os) r)
theorem op:∀w:World,(fencedOpening treeTable pg w 6994).map (fun s=>(s.heap,s.gens,s.drawn,s.toks))=some (boot_heap w.params,Array.mk [],boot_drawn,boot_toks):=
 boot_open (by kernel_rfl) (by decide) (fun s=>by kernel_rfl)
theorem size:∀w:World,((boot_heap w.params).isNs mainGlobals&&(Array.mk []:Array GenState).size==0,(boot_heap w.params).objs.size,(boot_heap w.params).nsMap mainGlobals "__annotations__")=(true,11,(some (.ref 6))):=by
 rw[W.Fast.te8920871248978507458];intro w;kernel_rfl
noncomputable def K(P:Params):Frag:=(nat_lit 3,ns P (en P "__name__" 165 (.str "law_duskbook_k60_paper_texts_refused" 538)) 54 55)::(nat_lit 23,⟨(.type "dict"),none,(.dict #[en P "__module__" 196 (.str "duskbook.errors" 187),en P "__firstlineno__" 200 (.int (2) 199),en P "__static_attributes__" 201 (.ref 22),en P "__weakref__" 203 (.ref 25),en P "__doc__" 204 .none] 3),#[]⟩)::(nat_lit 24,⟨(.type "type"),none,(.cls ⟨"DuskError",[(.type "ValueError")],[(.ref 24),(.type "ValueError"),(.type "Exception"),(.type "BaseException"),(.type "object")],23,"DuskError",true,[],[(.ref 37),(.ref 49),(.ref 61),(.ref 73),(.ref 85),(.ref 97),(.ref 109),(.ref 121)],false,none,false⟩),#[(some (.ref 15)),none,(some (.str "DuskError" 189)),(some (.str "DuskError" 197)),(some (.builtin "ValueError.__new__")),(some (.bool true))]⟩)::(nat_lit 36,⟨(.type "dict"),none,(.dict #[en P "__module__" 214 (.str "duskbook.errors" 187),en P "__firstlineno__" 218 (.int (4) 217),en P "__static_attributes__" 219 (.ref 35),en P "__doc__" 220 .none] 2),#[]⟩)::(nat_lit 37,⟨(.type "type"),none,(.cls ⟨"NoBook",[(.ref 24)],[(.ref 37),(.ref 24),(.type "ValueError"),(.type "Exception"),(.type "BaseException"),(.type "object")],36,"NoBook",true,[],[],false,none,false⟩),#[(some (.ref 28)),none,(some (.str "NoBook" 207)),(some (.str "NoBook" 215)),(some (.builtin "ValueError.__new__")),(some (.bool true))]⟩)::(nat_lit 48,⟨(.type "dict"),none,(.dict #[en P "__module__" 230 (.str "duskbook.errors" 187),en P "__firstlineno__" 234 (.int (6) 233),en P "__static_attributes__" 235 (.ref 47),en P "__doc__" 236 .none] 2),#[]⟩)::(nat_lit 49,⟨(.type "type"),none,(.cls ⟨"NoHands",[(.ref 24)],[(.ref 49),(.ref 24),(.type "ValueError"),(.type "Exception"),(.type "BaseException"),(.type "object")],48,"NoHands",true,[],[],false,none,false⟩),#[(some (.ref 40)),none,(some (.str "NoHands" 223)),(some (.str "NoHands" 231)),(some (.builtin "ValueError.__new__")),(some (.bool true))]⟩)::(nat_lit 60,⟨(.type "dict"),none,(.dict #[en P "__module__" 246 (.str "duskbook.errors" 187),en P "__firstlineno__" 250 (.int (8) 249),en P "__static_attributes__" 251 (.ref 59),en P "__doc__" 252 .none] 2),#[]⟩)::(nat_lit 61,⟨(.type "type"),none,(.cls ⟨"Over",[(.ref 24)],[(.ref 61),(.ref 24),(.type "ValueError"),(.type "Exception"),(.type "BaseException"),(.type "object")],60,"Over",true,[],[],false,none,false⟩),#[(some (.ref 52)),none,(some (.str "Over" 239)),(some (.str "Over" 247)),(some (.builtin "ValueError.__new__")),(some (.bool true))]⟩)::(nat_lit 72,⟨(.type "dict"),none,(.dict #[en P "__module__" 262 (.str "duskbook.errors" 187),en P "__firstlineno__" 266 (.int (10) 265),en P "__static_attributes__" 267 (.ref 71),en P "__doc__" 268 .none] 2),#[]⟩)::(nat_lit 73,⟨(.type "type"),none,(.cls ⟨"NoLight",[(.ref 24)],[(.ref 73),(.ref 24),(.type "ValueError"),(.type "Exception"),(.type "BaseException"),(.type "object")],72,"NoLight",true,[],[],false,none,false⟩),#[(some (.ref 64)),none,(some (.str "NoLight" 255)),(some (.str "NoLight" 263)),(some (.builtin "ValueError.__new__")),(some (.bool true))]⟩)::(nat_lit 84,⟨(.type "dict"),none,(.dict #[en P "__module__" 278 (.str "duskbook.errors" 187),en P "__firstlineno__" 282 (.int (12) 281),en P "__static_attributes__" 283 (.ref 83),en P "__doc__" 284 .none] 2),#[]⟩)::(nat_lit 85,⟨(.type "type"),none,(.cls ⟨"NoneSettled",[(.ref 24)],[(.ref 85),(.ref 24),(.type "ValueError"),(.type "Exception"),(.type "BaseException"),(.type "object")],84,"NoneSettled",true,[],[],false,none,false⟩),#[(some (.ref 76)),none,(some (.str "NoneSettled" 271)),(some (.str "NoneSettled" 279)),(some (.builtin "ValueError.__new__")),(some (.bool true))]⟩)::(nat_lit 96,⟨(.type "dict"),none,(.dict #[en P "__module__" 294 (.str "duskbook.errors" 187),en P "__firstlineno__" 298 (.int (14) 297),en P "__static_attributes__" 299 (.ref 95),en P "__doc__" 300 .none] 2),#[]⟩)::(nat_lit 97,⟨(.type "type"),none,(.cls ⟨"NoTable",[(.ref 24)],[(.ref 97),(.ref 24),(.type "ValueError"),(.type "Exception"),(.type "BaseException"),(.type "object")],96,"NoTable",true,[],[],false,none,false⟩),#[(some (.ref 88)),none,(some (.str "NoTable" 287)),(some (.str "NoTable" 295)),(some (.builtin "ValueError.__new__")),(some (.bool true))]⟩)::(nat_lit 108,⟨(.type "dict"),none,(.dict #[en P "__module__" 310 (.str "duskbook.errors" 187),en P "__firstlineno__" 314 (.int (16) 313),en P "__static_attributes__" 315 (.ref 107),en P "__doc__" 316 .none] 2),#[]⟩)::(nat_lit 109,⟨(.type "type"),none,(.cls ⟨"NoPage",[(.ref 24)],[(.ref 109),(.ref 24),(.type "ValueError"),(.type "Exception"),(.type "BaseException"),(.type "object")],108,"NoPage",true,[],[],false,none,false⟩),#[(some (.ref 100)),none,(some (.str "NoPage" 303)),(some (.str "NoPage" 311)),(some (.builtin "ValueError.__new__")),(some (.bool true))]⟩)::(nat_lit 120,⟨(.type "dict"),none,(.dict #[en P "__module__" 326 (.str "duskbook.errors" 187),en P "__firstlineno__" 330 (.int (18) 329),en P "__static_attributes__" 331 (.ref 119),en P "__doc__" 332 .none] 2),#[]⟩)::(nat_lit 121,⟨(.type "type"),none,(.cls ⟨"NoPaper",[(.ref 24)],[(.ref 121),(.ref 24),(.type "ValueError"),(.type "Exception"),(.type "BaseException"),(.type "object")],120,"NoPaper",true,[],[],false,none,false⟩),#[(some (.ref 112)),none,(some (.str "NoPaper" 319)),(some (.str "NoPaper" 327)),(some (.builtin "ValueError.__new__")),(some (.bool true))]⟩)::(nat_lit 129,oC "is_beacon" 339 22 1 124 (.ref 126) (.ref 127) 128 181 343)::(nat_lit 130,oF "is_beacon" 12 p0 129)::(nat_lit 131,⟨(.type "dict"),none,(.dict #[en P "+" 352 (.bool true),en P "-" 353 (.bool false)] 2),#[]⟩)::(nat_lit 135,oC "number_read" 357 28 1 132 .none .none 134 181 360)::(nat_lit 136,oF "number_read" 17 p1 135)::(nat_lit 142,oC "beacon_read" 363 34 1 137 (.ref 139) (.ref 140) 141 181 368)::(nat_lit 143,oF "beacon_read" 18 p1 142)::(nat_lit 149,oC "saying_read" 371 37 1 144 (.ref 146) (.ref 147) 148 181 376)::(nat_lit 150,oF "saying_read" 19 p1 149)::(nat_lit 151,⟨(.type "dict"),none,(.dict #[en P "yes" 383 (.bool true),en P "no" 384 (.bool false)] 2),#[]⟩)::(nat_lit 152,⟨(.type "dict"),none,(.dict #[en P "broken" 388 (.ref 153),en P "clash" 389 (.ref 154),en P "cross" 392 (.ref 155),en P "late" 394 (.ref 156),en P "odd" 397 (.ref 157),en P "lone" 399 (.ref 158),en P "plan" 403 (.ref 159),en P "sums" 405 (.ref 160),en P "rows" 407 (.ref 161)] 9),#[]⟩)::(nat_lit 153,tu [])::(nat_lit 154,tu [(.str "road" 390),(.str "road" 391)])::(nat_lit 155,tu [(.str "road" 393)])::(nat_lit 156,tu [(.str "road" 395),(.str "road" 396)])::(nat_lit 157,tu [(.str "places" 398)])::(nat_lit 158,tu [(.str "source" 400),(.str "places" 401),(.str "places" 402)])::(nat_lit 159,tu [(.str "plan rows" 404)])::(nat_lit 160,tu [(.str "sum rows" 406)])::(nat_lit 161,tu [(.str "beacons" 408),(.str "if rows" 409)])::(nat_lit 162,⟨(.type "dict"),none,(.dict #[en P "plan rows" 420 (.ref 163),en P "sum rows" 424 (.ref 164),en P "if rows" 428 (.ref 165)] 3),#[]⟩)::(nat_lit 163,tu [(.str "beacon" 421),(.str "source" 422),(.str "truth" 423)])::(nat_lit 164,tu [(.str "beacon" 425),(.str "beacons" 426),(.str "truth" 427)])::(nat_lit 165,tu [(.str "beacon" 429),(.str "beacons" 430)])::(nat_lit 166,⟨(.type "dict"),none,(.dict #[en P "road" 435 (.str "saying" 436),en P "places" 437 (.str "place" 438),en P "beacons" 439 (.str "beacon" 440)] 3),#[]⟩)::(nat_lit 179,⟨(.type "code"),none,(.fields #[(.str "__init__" 457),(.str "Reader.__init__" 458),(.str "/claim/cut.py" 459),(.int (50) 0),(.int (2) 0),(.int (0) 0),(.int (0) 0),(.int (3) 0),(.ref 174),(.bool true),(.int (181) 0),(.ref 175),.none,(.ref 176),(.ref 177),(.ref 178),(.int (462) 0),(.int (50) 0),(.str "/claim/cut.py" 463)]),#[]⟩)::(nat_lit 180,oM "__init__" "Reader.__init__" 26 0 p2 179)::(nat_lit 186,⟨(.type "code"),none,(.fields #[(.str "is_at_end" 465),(.str "Reader.is_at_end" 466),(.str "/claim/cut.py" 467),(.int (54) 0),(.int (1) 0),(.int (0) 0),(.int (0) 0),(.int (3) 0),(.ref 181),(.bool true),(.int (181) 0),(.ref 182),.none,(.ref 183),(.ref 184),(.ref 185),(.int (469) 0),(.int (54) 0),(.str "/claim/cut.py" 470)]),#[]⟩)::(nat_lit 187,oM "is_at_end" "Reader.is_at_end" 26 1 p2 186)::(nat_lit 193,⟨(.type "code"),none,(.fields #[(.str "taken" 472),(.str "Reader.taken" 473),(.str "/claim/cut.py" 474),(.int (57) 0),(.int (1) 0),(.int (0) 0),(.int (0) 0),(.int (3) 0),(.ref 188),(.bool true),(.int (181) 0),(.ref 189),.none,(.ref 190),(.ref 191),(.ref 192),(.int (476) 0),(.int (57) 0),(.str "/claim/cut.py" 477)]),#[]⟩)::(nat_lit 194,oM "taken" "Reader.taken" 26 2 p2 193)::(nat_lit 196,⟨(.type "dict"),none,(.dict #[en P "__module__" 452 (.str "duskbook.papertexts" 379),en P "__firstlineno__" 456 (.int (48) 455),en P "__init__" 464 (.ref 180),en P "is_at_end" 471 (.ref 187),en P "taken" 478 (.ref 194),en P "__static_attributes__" 481 (.ref 195),en P "__dict__" 483 (.ref 198),en P "__weakref__" 485 (.ref 199),en P "__doc__" 486 .none] 4),#[]⟩)::(nat_lit 197,⟨(.type "type"),none,(.cls ⟨"Reader",[(.type "object")],[(.ref 197),(.type "object")],196,"Reader",true,[],[],false,none,false⟩),#[none,none,(some (.str "Reader" 445)),(some (.str "Reader" 453)),(some (.builtin "object.__new__")),(some (.bool true))]⟩)::(nat_lit 207,oC "place_read" 489 62 1 202 (.ref 204) (.ref 205) 206 181 494)::(nat_lit 208,oF "place_read" 27 p2 207)::(nat_lit 214,oC "checked" 497 65 1 209 (.ref 211) (.ref 212) 213 181 501)::(nat_lit 215,oF "checked" 28 p2 214)::(nat_lit 221,oC "thing_read" 504 69 2 216 (.ref 218) (.ref 219) 220 181 509)::(nat_lit 222,oF "thing_read" 29 p2 221)::(nat_lit 228,oC "part_read" 512 79 2 223 (.ref 225) (.ref 226) 227 181 519)::(nat_lit 229,oF "part_read" 30 p2 228)::(nat_lit 233,oC "parts_read" 522 89 2 230 .none .none 232 181 525)::(nat_lit 234,oF "parts_read" 31 p2 233)::(nat_lit 240,oC "paper_read" 528 91 1 235 (.ref 237) (.ref 238) 239 181 535)::(nat_lit 241,oF "paper_read" 32 p2 240)::(nat_lit 247,oC "_law_cell" 540 101 2 242 (.ref 244) (.ref 245) 246 181 545)::(nat_lit 248,oF "_law_cell" 34 p3 247)::(nat_lit 254,oC "_law_mixed" 548 105 2 249 (.ref 251) (.ref 252) 253 181 553)::(nat_lit 255,oF "_law_mixed" 35 p3 254)::(nat_lit 261,oC "_law_next" 556 107 1 256 (.ref 258) (.ref 259) 260 181 560)::(nat_lit 262,oF "_law_next" 36 p3 261)::(nat_lit 268,oC "_law_many" 563 111 2 263 (.ref 265) (.ref 266) 267 181 569)::(nat_lit 269,oF "_law_many" 37 p3 268)::(nat_lit 275,oC "_law_any_road" 572 116 1 270 (.ref 272) (.ref 273) 274 181 579)::(nat_lit 276,oF "_law_any_road" 38 p3 275)::(nat_lit 280,oC "_law_any_numbers" 582 122 2 277 .none .none 279 181 585)::(nat_lit 281,oF "_law_any_numbers" 39 p3 280)::(nat_lit 287,oC "_law_any_rows" 588 124 2 282 (.ref 284) (.ref 285) 286 181 596)::(nat_lit 288,oF "_law_any_rows" 40 p3 287)::(nat_lit 294,oC "_law_any" 599 135 1 289 (.ref 291) (.ref 292) 293 181 608)::(nat_lit 295,oF "_law_any" 41 p3 294)::(nat_lit 299,oC "_law_number_words" 611 154 1 296 .none .none 298 181 614)::(nat_lit 300,oF "_law_number_words" 42 p3 299)::(nat_lit 304,oC "_law_road_words" 617 156 1 301 .none .none 303 181 620)::(nat_lit 305,oF "_law_road_words" 43 p3 304)::(nat_lit 311,oC "_law_free_word" 623 158 1 306 (.ref 308) (.ref 309) 310 181 627)::(nat_lit 312,oF "_law_free_word" 44 p3 311)::(nat_lit 318,oC "_law_rows_words" 630 162 2 313 (.ref 315) (.ref 316) 317 181 637)::(nat_lit 319,oF "_law_rows_words" 45 p3 318)::(nat_lit 325,oC "_law_paper_words" 640 173 1 320 (.ref 322) (.ref 323) 324 181 646)::(nat_lit 326,oF "_law_paper_words" 46 p3 325)::(nat_lit 332,oC "_law_faulty" 649 190 2 327 (.ref 329) (.ref 330) 331 181 657)::(nat_lit 333,oF "_law_faulty" 47 p3 332)::(nat_lit 339,oC "_law_far_beacon" 660 204 1 334 (.ref 336) (.ref 337) 338 181 666)::(nat_lit 340,oF "_law_far_beacon" 48 p3 339)::(nat_lit 346,oC "_law_kinds" 669 211 1 341 (.ref 343) (.ref 344) 345 181 677)::(nat_lit 347,oF "_law_kinds" 49 p3 346)::(nat_lit 353,oC "law" 680 220 1 348 (.ref 350) (.ref 351) 352 181 689)::(nat_lit 354,oF "law" 50 p3 353)::[]
noncomputable def hk:Hook:=kHook K (3::23::24::36::37::48::49::60::61::72::73::84::85::96::97::108::109::120::121::129::130::131::135::136::142::143::149::150::151::152::153::154::155::156::157::158::159::160::161::162::163::164::165::166::179::180::186::187::193::194::196::197::207::208::214::215::221::222::228::229::233::234::240::241::247::248::254::255::261::262::268::269::275::276::280::281::287::288::294::295::299::300::304::305::311::312::318::319::325::326::332::333::339::340::346::347::353::354::[]) (fun _=>by kernel_rfl)
noncomputable def Q:Program:={ pg with main:={ pg.main with body:=[Lw.top 50] } }
noncomputable def ls:List Str:=(["DuskError","NoBook","NoHands","Over","NoLight","NoneSettled","NoTable","NoPage","NoPaper","BEACON_COUNT","is_beacon","FIGURES","MOST_FIGURES","TRUTHS_BY_MARK","number_read","beacon_read","saying_read","MOST_NUMBER","TRUTHS_BY_WORD","PAPERS","ROWS","SEVERAL","Reader","place_read","checked","thing_read","part_read","parts_read","paper_read","_law_cell","_law_mixed","_law_next","_law_many","_law_any_road","_law_any_numbers","_law_any_rows","_law_any","_law_number_words","_law_road_words","_law_free_word","_law_rows_words","_law_paper_words","_law_faulty","_law_far_beacon","_law_kinds"]).map Str.ofString
noncomputable abbrev Xt(s:Shared):Bool:=xlAt Q [] s&&recOk (RowW.records (OpenRow.toRowW PySem.Challenge.rw_duskbook_k60_paper_texts_refused.row)) s
theorem y8h:∀w:World,(fun os=>((staticsOk (importedModules pg.main.body) (boot_heap w.params) (h15 w.params)&&namesBound pg (h15 w.params)&&gensDone (s15 w os)&&laidKept (boot_heap w.params) (h15 w.params)),openSeen Q ls (importedModules pg.main.body) Xt true (s15 w os),Hook.obs hk (s15 w os)))=fun _=>(true,openGood Q ls,Hook.val hk w):=by
 rw[W.Fast.te5923862056798008813,W.Fast.te4187177175401517315];intro w;kernel_rfl
theorem left:LeftO pg Q ls Xt (Hook.obs hk) (Hook.val hk) 6994:=LeftO.of_pieces (H₁:=h15) (M:=12+(1+m2)) op size run (by decide) y8h
end Op
open PySem PySem.W PyProof.Rows
set_option maxRecDepth 100000 in
theorem PySem.Challenge.cw_duskbook_k60_paper_texts_refused_holds : PySem.Challenge.rw_duskbook_k60_paper_texts_refused.Holds := by
 w_on;o_law
 refine holds_open (q:=Op.Q) (loose:=Op.ls) (Xt:=Op.Xt) (XP:=XL Op.Q []) (Yf:=Hook.obs Op.hk) (Ya:=Hook.val Op.hk) (YP:=InK Op.K) (N:=6994) Op.left (Hook.of Op.hk) (Hook.keeps Op.hk) (fun s e=>xl_of s (Bool.and_eq_true_iff.mp e).1) XL.keeps (by rfl) (by rfl) (by rfl) (fun s e=>recFacts_of (Bool.and_eq_true_iff.mp e).2) (by rfl) (by assumption) (by decide +kernel) ⟨rfl,rfl,rfl,rfl,rfl,by decide +kernel⟩ ?hw ?hc
 (case hw=>w_witness2)
 k_fill
 refine Lw.walk Lw.law_true (l:=PySem.Challenge.rw_duskbook_k60_paper_texts_refused) rfl rfl (K:=Op.K) (fun w h Y=>Y) ?F
 case F=>
  intro w mg fa h KX G hmg
  refine' Lw.all_mk KX G hmg ?_ ?_ ?_ ?_ ?_ ?_ ?_ ?_ ?_ ?_ ?_ ?_ ?_ ?_ ?_ ?_ ?_ ?_ ?_ ?_ ?_ ?_ ?_ ?_ ?_ ?_ ?_ ?_ ?_ ?_ ?_ ?_ ?_ ?_ ?_ ?_ ?_ ?_ ?_ ?_ ?_ ?_ ?_ ?_ ?_ ?_ ?_ ?_ ?_ ?_ ?_ ?_ ?_ ?_ ?_ ?_ ?_ ?_ ?_ ?_ ?_ ?_ ?_ ?_ ?_ ?_ ?_ ?_ ?_ ?_ ?_ ?_ ?_ ?_ ?_ ?_ ?_ ?_ ?_ ?_ ?_ ?_
  all_goals (try (first | (refine' M.xk_mk ?a ?b ?c ?d ?e ?f;(case a=>k_is);(case b=>k_is);(case c=>kernel_rfl);(case d=>kernel_rfl);(case e=>kernel_rfl);(case f=>kernel_rfl)) | (refine' M.mq_mk ?a ?pg ?hd ?po ?sa ?i ?n ?l ?cd ?k;(case a=>k_is);(case pg=>k_is);(case hd=>k_is);(case po=>k_is);(case sa=>k_is);(case i=>k_is);(case n=>k_is);(case l=>k_is);(case cd=>k_is);(case k=>k_is)) | (refine' M.nq_mk ?a ?pg ?hd ?po ?sa ?n;(case a=>k_is);(case pg=>k_is);(case hd=>k_is);(case po=>k_is);(case sa=>k_is);(case n=>k_is)) | (refine' M.iqr_mk ?a ?mk ?kc ?i ?n ?l ?cd ?k;(case a=>k_is);(case mk=>k_is);(case kc=>k_is);(case i=>k_is);(case n=>k_is);(case l=>k_is);(case cd=>k_is);(case k=>k_is)) | k_is | (refine' Lw.fk_mk ?a ?l ?c ?k;(case a=>k_is);(case l=>k_is);(case c=>k_is);(case k=>k_is))))
