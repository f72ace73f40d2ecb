import PyProof.Rows.All
import Wide.All
import OpenK.AllK
import Wide.FinOn
import Lean
import PyProof.EqAt
import PyProof.EqKinds
import PyProof.TupleCall
import PySem.Challenge.RW_duskbook_k54_tables_refused
set_option Elab.async false
set_option linter.all false
set_option maxRecDepth 100000
abbrev fsc(l:List (PySem.Str × PySem.NameKind)):PySem.Scope:={ kind:=.function,names:=l,isGenerator:=false,isCoroutine:=false,more:=[] }
theorem qa{α β:Type _}{o:Option α}{f:α->Option β}{b:β}(h:o.bind f=some b):∃a,o=some a/\f a=some b:=Option.bind_eq_some_iff.mp h
theorem qb{α β:Type _}{o:Option α}{f:α->β}{b:β}(h:o.map f=some b):∃a,o=some a/\f a=b:=Option.map_eq_some_iff.mp h
def qc:=@Option.bind_some
def qd:=@PySem.Heap.get?_push_of_some
def qe:=@List.length_map
def qf:=@List.mem_cons_of_mem
def qg:=@List.mem_cons_self
def qh:=@Bool.false_ne_true
def qi:=@Array.length_toList
def qj:=@List.size_toArray
def qk:=@PySem.Heap.lt_size
def ql:=@Nat.ne_of_lt
theorem qm{α:Type _}{l:List α}{i:Nat}{a:α}(h:l[i]?=some a):∃h:i < l.length,l[i]=a:=List.getElem?_eq_some_iff.mp h
def qo:=@PySem.Heap.get?_push_size
def qp:=@List.getElem?_eq_getElem
def qq:=@List.length_cons
theorem qr{α:Type _}{a b:α}{l:List α}(h:a∈b::l):a=b\/a∈l:=List.mem_cons.mp h
def qt:=@Nat.le_refl
theorem qu{α:Type _}{a:α}{s t:List α}(h:a∈s++t):a∈s\/a∈t:=List.mem_append.mp h
def qv:=@Nat.lt_succ_of_lt
theorem qw{α β:Type _}{b:β}{f:α->β}{l:List α}(h:b∈l.map f):∃a,a∈l/\f a=b:=List.mem_map.mp h
def qx:=@List.length_append
def qy:=@Nat.lt_succ_self
theorem qz{m n:Nat}(h:m∈List.range n):m < n:=List.mem_range.mp h
theorem Qa{α:Type _}{p:α->Bool}{l:List α}{a:α}(h:a∈l.filter p):a∈l/\p a=true:=List.mem_filter.mp h
def Qb:=@List.map_cons
def Qc:=@Nat.lt_of_lt_of_le
def Qd:=@List.getElem?_set_ne
def Qe:=@Nat.lt_irrefl
def Qf:=@Bool.and_eq_true
def Qg:=@List.getElem?_map
def Qh:=@List.mem_append_right
set_option maxHeartbeats 4000000
noncomputable section
namespace L2
open PySem PySem.Spec PyProof.Rows
abbrev Key:=Sum Int Str
def y0i:Key->Value->Bool
 | .inl k,v=>Value.isInt k v
 | .inr x,v=>Value.isStrOf x v
def keyH(w:World):Key->Int
 | .inl k=>hashInt k
 | .inr x=>hashStr w x
theorem Yat:∀{k:Key} {v:Value},y0i k v=true->(∃i t,k=Sum.inl i/\v=Value.int i t)\/(∃x t,k=Sum.inr x/\v=Value.str x t)
 | .inl i,v,h=>by
   obtain⟨t,e⟩:=Value.isInt_shape (k:=i) (v:=v) h
   exact .inl ⟨i,t,rfl,e⟩
 | .inr x,v,h=>by
   obtain⟨t,e⟩:=Value.isStrOf_shape (x:=x) (v:=v) h
   exact .inr ⟨x,t,rfl,e⟩
theorem y0j(a b:Int):decide ((Sum.inl a:Key)=Sum.inl b)=(a==b):=by
 by_cases e:a=b
 ·subst e;simp
 ·have h:¬(Sum.inl a:Key)=Sum.inl b:=fun q=>e (Sum.inl.inj q)
  rw[decide_eq_false h]
  exact(beq_eq_false_iff_ne.mpr e).symm
theorem y0k(a b:Str):decide ((Sum.inr a:Key)=Sum.inr b)=decide (a=b):=by
 by_cases e:a=b
 ·subst e;simp
 ·have h:¬(Sum.inr a:Key)=Sum.inr b:=fun q=>e (Sum.inr.inj q)
  rw[decide_eq_false h,decide_eq_false e]
theorem y0l(a:Int)(b:Str):decide ((Sum.inl a:Key)=Sum.inr b)=false:=decide_eq_false (fun q=>nomatch q)
theorem y0m(a:Str)(b:Int):decide ((Sum.inr a:Key)=Sum.inl b)=false:=decide_eq_false (fun q=>nomatch q)
def Ynu(prog:Program)(w:World):KeyKind prog w Key where
 is:=y0i
 hash:=keyH w
 inj:=fun v a b ha hb=>by
  rcases Yat ha with⟨i,t,rfl,rfl⟩ | ⟨x,t,rfl,rfl⟩
  ·rcases Yat hb with⟨j,u,rfl,e⟩ | ⟨y,u,rfl,e⟩
   ·injection e with e1 _;rw[e1]
   ·exact nomatch e
  ·rcases Yat hb with⟨j,u,rfl,e⟩ | ⟨y,u,rfl,e⟩
   ·exact nomatch e
   ·injection e with e1 _;rw[e1]
 byValue:=fun k v h=>by
  rcases Yat h with⟨i,t,rfl,rfl⟩ | ⟨x,t,rfl,rfl⟩<;>rfl
 pyHash:=fun hv h=>by
  rcases Yat hv with⟨i,t,rfl,rfl⟩ | ⟨x,t,rfl,rfl⟩
  ·exact wpAny_pyHash_int h
  ·exact wpAny_pyHash_str h
 eqBool:=fun hu hv h=>by
  rcases Yat hu with⟨i,t,rfl,rfl⟩ | ⟨x,t,rfl,rfl⟩
  ·rcases Yat hv with⟨j,u,rfl,rfl⟩ | ⟨y,u,rfl,rfl⟩
   ·rw[y0j]at h;exact wpAny_eqBool_int h
   ·rw[y0l]at h;exact SeqAt.EqAt.int_str i t y u _ _ _ _ h
  ·rcases Yat hv with⟨j,u,rfl,rfl⟩ | ⟨y,u,rfl,rfl⟩
   ·rw[y0m]at h;exact SeqAt.EqAt.str_int x t j u _ _ _ _ h
   ·rw[y0k]at h;exact wpAny_eqBool_str h
 «strs»:=fun k x t v h=>by
  rcases Yat h with⟨i,u,rfl,e⟩ | ⟨y,u,rfl,e⟩
  ·exact nomatch e
  ·injection e with e1 _
   subst e1
   cases v<;>rfl
end L2
namespace L2
open PySem PySem.Spec PyProof.Rows
inductive V where
 | non | bl (b:Bool) | int (i:Int) | str (x:Str) | byt (b:Array UInt8) | flt (b:UInt64) | ref (a:Addr) | ty (n:String)
 deriving DecidableEq
def RelV:V->Value->Prop
 | .non,u=>u=Value.none
 | .bl b,u=>u=Value.bool b
 | .int i,u=>∃t,u=Value.int i t
 | .str x,u=>∃t,u=Value.str x t
 | .byt b,u=>∃t,u=Value.bytes b t
 | .flt b,u=>∃t,u=Value.float b t
 | .ref a,u=>u=Value.ref a
 | .ty n,u=>u=Value.type n
abbrev Vals:List V->List Value->Prop:=Paired RelV
theorem Vals.length{xs:List V}{us:List Value}(r:Vals xs us):xs.length=us.length:=Paired.length r
theorem Vals.get:∀{xs:List V} {us:List Value} {i:Nat} {x:V},Vals xs us->xs[i]?=some x->∃u,us[i]?=some u/\RelV x u
 | _,_,_,_,.nil,e=>by simp at e
 | _,_,0,_,.cons r _,e=>by simp at e;subst e;exact⟨_,rfl,r⟩
 | _,_,i+1,x,.cons _ t,e=>by
   obtain⟨u,h1,h2⟩:=Vals.get (i:=i) (x:=x) t (by simpa using e)
   exact⟨u,by simpa using h1,h2⟩
theorem Vals.append:∀{xs ys:List V} {us ws:List Value},Vals xs us->Vals ys ws->Vals (xs++ys) (us++ws)
 | _,_,_,_,.nil,s=>s
 | _,_,_,_,.cons r t,s=>.cons r (Vals.append t s)
theorem Vals.take:∀{xs:List V} {us:List Value} (n:Nat),Vals xs us->Vals (xs.take n) (us.take n)
 | _,_,0,_=>.nil
 | _,_,_+1,.nil=>.nil
 | _,_,n+1,.cons r t=>.cons r (Vals.take n t)
theorem Vals.drop:∀{xs:List V} {us:List Value} (n:Nat),Vals xs us->Vals (xs.drop n) (us.drop n)
 | _,_,0,r=>r
 | _,_,_+1,.nil=>.nil
 | _,_,n+1,.cons _ t=>Vals.drop n t
def RelO:Option V->Option Value->Prop
 | some v,some u=>RelV v u
 | none,none=>True
 | _,_=>False
def KV{κ:Type}:List (κ × V)->List (κ × Value)->Prop:=Paired fun(p:κ × V) (q:κ × Value)=>p.1=q.1/\RelV p.2 q.2
def kV:Key->V
 | .inl i=>.int i
 | .inr x=>.str x
inductive HO where
 | lst (xs:List V)
 | tup (xs:List V)
 | dK (kvs:List (Key × V)) | dT (kvs:List (List Key × V))
 | set (S:Int->Bool) (n:Nat)
 | ins (C dx:Addr) (fs:List (Str × V))
 | own (x:Addr)
 | xd (fs:List (Str × V))
 | met (f x:Addr)
 | rng (lo hi:Int)
 | frz (o:Obj) (u:HO)
 | tbl (ps:Array Value)
 | ext (φ:Heap->Prop)
abbrev Hp:=Addr->Option HO
def upd(H:Hp)(a:Addr)(o:HO):Hp:=fun b=>if b=a then some o else H b
theorem Yt{H:Hp}{a:Addr}{o:HO}:upd H a o a=some o:=by unfold upd;rw[if_pos rfl]
theorem Yv{H:Hp}{a b:Addr}{o:HO}(h:b≠a):upd H a o b=H b:=by unfold upd;rw[if_neg h]
theorem Ys{H:Hp}{a b:Addr}{o:HO}(h:H a=some o)(h':H b=none):a≠b:=by
 intro e;subst e;rw[h]at h';cases h'
section
variable (P:Program) (w:World)
def ObjOk(H:Hp)(h:Heap)(a:Addr):HO->Prop
 | .lst xs=>xs.length<=sizeLine/\∃(its:List Value) (n:Nat),Vals xs its/\h.get? a=some { cls:=.type "list",data:=.seq its.toArray n }
 | .tup xs=>xs.length<=sizeLine/\∃its:List Value,Vals xs its/\IsTup h a its.toArray
 | .dK kvs=>kvs.length<=sizeLine/\(a==sysModules)=false/\∃vs,KV kvs vs/\h.DictOf (Ynu P w) a vs
 | .dT kvs=>kvs.length<=sizeLine/\(a==sysModules)=false/\∃xs:List (List Key × Addr × Value),
  Paired (fun(p:List Key × V) (q:List Key × Addr × Value)=>p.1=q.1/\H q.2.1=some (.tup (p.1.map kV))/\RelV p.2 q.2.2) kvs xs/\
  ∃o es ep,h.get? a=some o/\o.ExactDict/\o.data=.dict es ep/\es.toList=xs.map (entryOfKey (tupleKind (Ynu P w)))/\(xs.map (·.1)).Nodup
 | .set S n=>h.SetOf (intKind P w) a S n
 | .ins C dx fs=>H dx=some (.own a)/\fs.length<=1000/\dx≠a/\h.get? a=some (W.instObj C dx)/\
  ∃mA,h.Ns1 dx mA/\(∀f,RelO (fs.lookup f) (mA f))/\PySem.Within mA (fs.map (·.1))
 | .own _=>∃o,h.get? a=some o
 | .xd fs=>∃mA,h.Ns1 a mA/\∀f,RelO (fs.lookup f) (mA f)
 | .rng lo hi=>∃t u v,h.get? a=some { cls:=.type "range",data:=.fields #[.int lo t,.int hi u,.int 1 v] }
 | .frz o u=>h.get? a=some o/\ObjOk H h a u
 | .tbl ps=>h.get? a=some { cls:=.none,data:=.fields ps }
 | .met f x=>h.get? a=some (W.methodObj (.ref f) (.ref x))
 | .ext φ=>φ h/\(∃o,h.get? a=some o)/\∀h1 h2:Heap,φ h1->(∀o,h1.get? a=some o->h2.get? a=some o)->φ h2
def HOk(H:Hp)(h:Heap):Prop:=∀a o,H a=some o->ObjOk P w H h a o
end
section
variable {P:Program} {w:World} {H H':Hp} {h h':Heap} {a:Addr} {o:HO}
theorem ObjOk.lt(x:ObjOk P w H h a o):a < h.objs.size:=by
 cases o with
 | lst xs=>obtain⟨_,_,_,_,e⟩:=x;exact qk e
 | tup xs=>obtain⟨_,_,_,p⟩:=x;exact p.lt
 | dK kvs=>obtain⟨_,_,_,_,o,_,_,e,_⟩:=x;exact qk e
 | dT kvs=>obtain⟨_,_,_,_,o,_,_,e,_⟩:=x;exact qk e
 | set S n=>obtain⟨o,_,_,_,e,_⟩:=x;exact qk e
 | ins C dx fs=>obtain⟨_,_,_,e,_⟩:=x;exact qk e
 | own y=>obtain⟨_,e⟩:=x;exact qk e
 | xd fs=>obtain⟨_,⟨_,_,_,e,_⟩,_⟩:=x;exact qk e
 | rng lo hi=>obtain⟨_,_,_,e⟩:=x;exact qk e
 | frz ob u=>obtain⟨e,_⟩:=x;exact qk e
 | tbl ps=>exact qk (show h.get? a=some _ from x)
 | met f y=>exact qk (show h.get? a=some _ from x)
 | ext φ=>obtain⟨_,⟨_,e⟩,_⟩:=x;exact qk e
theorem Paired.mapP{α β:Type}{F G:α->β->Prop}:∀{l₁:List α} {l₂:List β},Paired F l₁ l₂->(∀a b,F a b->G a b)->Paired G l₁ l₂
 | _,_,.nil,_=>.nil
 | _,_,.cons r t,f=>.cons (f _ _ r) (Paired.mapP t f)
theorem ObjOk.stay(x:ObjOk P w H h a o)(k:∀b u,(b=a\/H b=some (.own a))->h.get? b=some u->h'.get? b=some u)
 (ho:∀b,H b=some (.own a)->H' b=some (.own a)) (ht:∀b xs,H b=some (.tup xs)->H' b=some (.tup xs)):ObjOk P w H' h' a o:=by
 induction o with
 | lst xs=>obtain⟨z,its,n,r,e⟩:=x;exact⟨z,its,n,r,k _ _ (.inl rfl) e⟩
 | tup xs=>obtain⟨z,its,r,ob,e,c⟩:=x;exact⟨z,its,r,ob,k _ _ (.inl rfl) e,c⟩
 | dK kvs=>obtain⟨z,y,vs,r,ob,es,ep,e,c⟩:=x;exact⟨z,y,vs,r,ob,es,ep,k _ _ (.inl rfl) e,c⟩
 | dT kvs=>
   obtain⟨z,y,xs,r,ob,es,ep,e,c⟩:=x
   exact⟨z,y,xs,Paired.mapP r fun p q z=>⟨z.1,ht _ _ z.2.1,z.2.2⟩,ob,es,ep,k _ _ (.inl rfl) e,c⟩
 | set S n=>obtain⟨ob,es,ep,t,e,c⟩:=x;exact⟨ob,es,ep,t,k _ _ (.inl rfl) e,c⟩
 | ins C dx fs=>
   obtain⟨d,z,ne,e,mA,⟨od,es,ep,e2,c⟩,r⟩:=x
   exact⟨ho _ d,z,ne,k _ _ (.inl rfl) e,mA,⟨od,es,ep,k _ _ (.inr d) e2,c⟩,r⟩
 | own y=>obtain⟨ob,e⟩:=x;exact⟨ob,k _ _ (.inl rfl) e⟩
 | xd fs=>obtain⟨mA,⟨od,es,ep,e,c⟩,r⟩:=x;exact⟨mA,⟨od,es,ep,k _ _ (.inl rfl) e,c⟩,r⟩
 | rng lo hi=>obtain⟨t,u,v,e⟩:=x;exact⟨t,u,v,k _ _ (.inl rfl) e⟩
 | frz ob u ih=>obtain⟨e,q⟩:=x;exact⟨k _ _ (.inl rfl) e,ih q⟩
 | tbl ps=>
   have e:h.get? a=some { cls:=.none,data:=.fields ps }:=x
   show h'.get? a=some { cls:=.none,data:=.fields ps }
   exact k a _ (.inl rfl) e
 | met f y=>
   have e:h.get? a=some (W.methodObj (.ref f) (.ref y)):=x
   show h'.get? a=some (W.methodObj (.ref f) (.ref y))
   exact k a _ (.inl rfl) e
 | ext φ=>obtain⟨p,⟨o,e⟩,st⟩:=x;exact⟨st _ _ p fun o q=>k _ _ (.inl rfl) q,⟨o,k _ _ (.inl rfl) e⟩,st⟩
theorem HOk.lt(x:HOk P w H h)(e:H a=some o):a < h.objs.size:=(x a o e).lt
theorem HOk.fresh(x:HOk P w H h)(e:h.objs.size<=a):H a=none:=by
 cases q:H a with
 | none=>rfl
 | some u=>exact absurd (Qc (x.lt q) e) (Qe _)
theorem HOk.kept(x:HOk P w H h)(k:∀b u,h.get? b=some u->h'.get? b=some u):HOk P w H h':=fun a o e=>
 (x a o e).stay (fun b u _ q=>k b u q) (fun _ q=>q) fun _ _ q=>q
theorem HOk.laid(x:HOk P w H h)(k:∀b u,h.get? b=some u->h'.get? b=some u)(hp:h.objs.size<=a)(new:ObjOk P w (upd H a o) h' a o):HOk P w (upd H a o) h':=fun b u e=>by
 have hn:=x.fresh hp
 by_cases hb:b=a
 ·subst hb;rw[Yt]at e;cases e;exact new
 ·rw[Yv hb]at e
  exact(x b u e).stay (fun c v _ q=>k c v q) (fun c q=>by rw[Yv (Ys q hn)];exact q) fun c xs q=>by rw[Yv (Ys q hn)];exact q
end
def Rd(H:Hp)(a:Addr)(u:HO):Prop:=H a=some u\/∃o,H a=some (.frz o u)
theorem Rd.ok{P:Program}{w:World}{H:Hp}{h:Heap}{a:Addr}{u:HO}(r:Rd H a u)(x:HOk P w H h):ObjOk P w H h a u:=by
 rcases r with r | ⟨o,r⟩
 ·exact x a u r
 ·obtain⟨_,q⟩:=x a _ r
  exact q
def Mut:Option HO->Prop
 | some (.lst _)=>True
 | some (.dK _)=>True
 | some (.dT _)=>True
 | some (.set _ _)=>True
 | some (.ins _ _ _)=>True
 | some (.ext _)=>True
 | _=>False
section
variable {P:Program} {w:World} {H:Hp} {h h':Heap} {x e:Addr} {o':HO}
theorem HOk.write(ok:HOk P w H h)(mu:Mut (H x))(he:e=x\/H e=some (.own x))(k:∀b u,b≠e->h.get? b=some u->h'.get? b=some u)(heo:∃u,h'.get? e=some u)
 (new:ObjOk P w (upd H x o') h' x o'):HOk P w (upd H x o') h':=fun b u q=>by
 have nown:∀c y,H c=some (.own y)->c≠x:=fun c y r z=>by subst z;rw[r]at mu;exact mu
 have ntup:∀c xs,H c=some (.tup xs)->c≠x:=fun c xs r z=>by subst z;rw[r]at mu;exact mu
 by_cases hb:b=x
 ·subst hb;rw[Yt]at q;cases q;exact new
 ·rw[Yv hb]at q
  by_cases hbe:b=e
  ·have q':H b=some (.own x):=by
    rcases he with z | z
    ·exact absurd (hbe.trans z) hb
    ·rw[hbe];exact z
   rw[q]at q';cases q'
   obtain⟨v,hv⟩:=heo
   exact⟨v,by rw[hbe];exact hv⟩
  ·refine(ok b u q).stay (fun c v hc r=>k c v ?_ r) (fun c r=>by rw[Yv (nown c b r)];exact r) fun c xs r=>by rw[Yv (ntup c xs r)];exact r
   rcases hc with rfl | hc
   ·exact hbe
   ·rintro rfl
    rcases he with z | z
    ·exact nown c b hc z
    ·rw[hc]at z;cases z;exact hb rfl
end
structure Un(fs ex:List Addr)(H H':Hp)(h h':Heap):Prop where
 keep:∀b o,h.get? b=some o->H b=none->b∉fs->b∉ex->h'.get? b=some o
 slot:∀b o,h.get? b=some o->H b=none->b∈fs->b∉ex->∃sl,h'.get? b=some { o with slots:=sl }
 free:∀b o,h.get? b=some o->H b=none->b∉ex->H' b=none
 there:∀b o,h.get? b=some o->b∉ex->∃o',h'.get? b=some o'
 tups:∀b xs,H b=some (.tup xs)->H' b=some (.tup xs)
 frzs:∀b o u,H b=some (.frz o u)->H' b=some (.frz o u)
 tbls:∀b ps,H b=some (.tbl ps)->∃more,H' b=some (.tbl (ps++more))
section
variable {fs fs' ex ex':List Addr} {H H1 H2:Hp} {h h1 h2 h':Heap} {a x e:Addr} {o:HO}
theorem Un.any(u:Un fs ex H H1 h h1){b:Addr}{ob:Obj}(q:h.get? b=some ob)(n:H b=none)(hx:b∉ex):∃sl,h1.get? b=some { ob with slots:=sl }:=by
 by_cases hb:b∈fs
 ·exact u.slot b ob q n hb hx
 ·exact⟨ob.slots,u.keep b ob q n hb hx⟩
theorem Un.kept(k:∀b u,h.get? b=some u->h'.get? b=some u):Un fs ex H H h h':=
 ⟨fun b ob q _ _ _=>k b ob q,fun b ob q _ _ _=>⟨ob.slots,k b ob q⟩,fun _ _ _ n _=>n,fun b ob q _=>⟨ob,k b ob q⟩,fun _ _ q=>q,fun _ _ _ q=>q,fun _ ps q=>⟨#[],by rw[q];simp⟩⟩
theorem Un.refl:Un fs ex H H h h:=Un.kept fun _ _ q=>q
theorem Un.laid(k:∀b u,h.get? b=some u->h'.get? b=some u)(hp:h.objs.size<=a)(hn:H a=none):Un fs ex H (upd H a o) h h' where
 keep:=fun b u q _ _ _=>k b u q
 slot:=fun b u q _ _ _=>⟨u.slots,k b u q⟩
 free:=fun b u q n _=>by rw[Yv (ql (Qc (qk q) hp))];exact n
 there:=fun b u q _=>⟨u,k b u q⟩
 tups:=fun b xs q=>by rw[Yv (Ys q hn)];exact q
 frzs:=fun b u xs q=>by rw[Yv (Ys q hn)];exact q
 tbls:=fun b ps q=>⟨#[],by rw[Yv (Ys q hn),q];simp⟩
theorem Un.write(mu:Mut (H x))(he:e=x\/H e=some (.own x))(k:∀b u,b≠e->h.get? b=some u->h'.get? b=some u)(heo:∃u,h'.get? e=some u):Un fs ex H (upd H x o) h h':=by
 have hx:∀b,H b=none->b≠x:=fun b n z=>by subst z;rw[n]at mu;exact mu
 have hb:∀b,H b=none->b≠e:=fun b n z=>by
  subst z
  rcases he with r | r
  ·exact hx b n r
  ·rw[n]at r;cases r
 have hm:∀b u,H b=some u->¬Mut (some u)->b≠x:=fun b u q nm z=>by subst z;rw[q]at mu;exact nm mu
 refine⟨fun b u q n _ _=>k b u (hb b n) q,fun b u q n _ _=>⟨u.slots,k b u (hb b n) q⟩,fun b u q n _=>by rw[Yv (hx b n)];exact n,fun b u q _=>?_,
  fun b xs q=>by rw[Yv (hm b _ q fun z=>z)];exact q,fun b u xs q=>by rw[Yv (hm b _ q fun z=>z)];exact q,fun b ps q=>⟨#[],by rw[Yv (hm b _ q fun z=>z),q];simp⟩⟩
 by_cases hbe:b=e
 ·subst hbe;exact heo
 ·exact⟨u,k b u hbe q⟩
end
def trk(h:Heap)(H:Hp):List Addr:=(List.range h.objs.size).filter fun a=>(H a).isSome
def hidT(h:Heap)(H:Hp):Heap:=W.hideAll h (trk h H)
theorem Yrd(h:Heap)(H:Hp):(hidT h H).objs.size=h.objs.size:=W.hideAll_size _ _
theorem Yuz{h:Heap}{H:Hp}{b:Addr}{o:Obj}(e:h.get? b=some o)(n:H b=none):(hidT h H).get? b=some o:=
 W.hideAll_get _ e fun hm=>by
  have q:(H b).isSome=true:=(Qa hm).2
  rw[n]at q;simp at q
theorem Yxm{h:Heap}{H:Hp}{b:Addr}{o:Obj}(e:(hidT h H).get? b=some o):h.get? b=some o/\H b=none:=by
 have e':h.get? b=some o:=W.of_hideAll (trk h H) e
 refine⟨e',?_⟩
 cases q:H b with
 | none=>rfl
 | some x=>
   have hm:b∈trk h H:=List.mem_filter.mpr ⟨List.mem_range.mpr (qk e'),by simp[q]⟩
   have z:(hidT h H).get? b=none:=W.hideAll_none (trk h H) hm
   rw[z]at e;cases e
end L2
namespace L2
open PySem PySem.Spec PyProof.Rows
structure Mod(K:W.Frag)(mg:Str->Option Value)(base:Heap):Prop where
 kin:K.In base
 glob:base.Ns mainGlobals mg
 blt:∃mb,base.Ns builtinsNs mb/\∀x:Str,x≠"__name__"->mb x=bootBuiltins x
 nolimit:base.NoLimit
structure Cx where
 prog:Program
 w:World
 K:W.Frag
 mg:Str->Option Value
 base:Heap
 A:Around
 N:List Str
 s₀:Shared
 H₀:Hp
 env:Env
 outer:List Env
 stack:List Env
 ex:List Addr
 fn:Str->Bool
 calm:Bool
 pn:List (Addr × Obj)
 xe:Value->Shared->Prop
def frs(l:List Env):List Addr:=l.filterMap (·.frame)
abbrev Cx.fs(X:Cx):List Addr:=frs X.outer
def Vis(sc:Scope)(x:Str):Prop:=sc.names.lookup x=some .local\/sc.names.lookup x=some .cell\/sc.names.lookup x=some .free
def Loc(sc:Scope)(x:Str):Prop:=sc.names.lookup x=some .local\/sc.names.lookup x=some .cell
def Look(env:Env)(h:Heap)(m:Str->Option Value)(x:Str)(u:Value):Prop:=
 (env.kindOf x=some .local/\m x=some u)\/((env.kindOf x=some .cell\/env.kindOf x=some .free)/\∃c,env.cells.lookup x=some c/\h.IsCell c (some u))
structure Cx.Ok(X:Cx):Prop where
 mod:Mod X.K X.mg X.base
 kind:X.env.scope.kind=.function
 glob:X.env.globals=mainGlobals
 blt:X.env.builtins=builtinsNs
 above:X.s₀.heap.objs.size<=X.env.locals
 inj:∀x y c,X.env.cells.lookup x=some c->X.env.cells.lookup y=some c->x=y
 has:∀x,(X.env.kindOf x=some .cell\/X.env.kindOf x=some .free)->∃c,X.env.cells.lookup x=some c
 cab:∀x c,X.fn x=true->X.env.cells.lookup x=some c->X.s₀.heap.objs.size<=c
 hd:X.calm=true->X.A.handled=none
 frames:X.A.frames=some X.stack
 stk:X.stack=X.outer\/(X.stack=X.env::X.outer/\X.env.frame=some X.env.locals)
 exf:∀b∈X.ex,b≠X.env.locals/\∀x c,X.env.cells.lookup x=some c->c≠b
 bs:∀b o,X.base.get? b=some o->X.s₀.heap.get? b=some o/\X.H₀ b=none
 bsz:X.base.objs.size<=X.s₀.heap.objs.size
 noex:∀b o,X.base.get? b=some o->b∉X.ex
 exfs:∀b∈X.ex,b∉X.fs
 funs:X.s₀.heap.FunFrames X.base X.outer
 frf:∀b∈X.fs,X.H₀ b=none
structure Inv(X:Cx)(pins:List (Addr × Obj))(σ:List (Option V))(H:Hp)(s:Shared):Prop where
 ok:X.Ok
 os:s.os=X.s₀.os
 bare:AllBare s.gens
 base:Un X.fs X.ex X.H₀ H X.s₀.heap s.heap
 loc:∃m,s.heap.Ns X.env.locals m/\∀(i:Nat) (x:Str) (v:V),X.N[i]?=some x->σ[i]?=some (some v)->Vis X.env.scope x->∃u,RelV v u/\Look X.env s.heap m x u
 cell:∀x c,X.env.cells.lookup x=some c->∃v,s.heap.IsCell c v
 free:H X.env.locals=none
 freeC:∀x c,X.env.cells.lookup x=some c->H c=none
 pin:∀p∈X.pn++pins,s.heap.get? p.1=some p.2/\H p.1=none/\p.1≠X.env.locals/\p.1∉X.fs/\∀v,p.2.data≠.cell v
 hok:HOk X.prog X.w H s.heap
 len:σ.length=X.N.length
section
variable {X:Cx} {pins:List (Addr × Obj)} {σ:List (Option V)} {H H':Hp} {s:Shared} {h':Heap}
theorem Cx.Ok.nofr(ok:X.Ok){b:Addr}{o:Obj}(e:X.base.get? b=some o):b∉X.fs:=fun hb=>by
 have:=(ok.funs.mem hb).1
 rw[e]at this;cases this
theorem Inv.bs(I:Inv X pins σ H s):∀b o,X.base.get? b=some o->s.heap.get? b=some o/\H b=none:=fun b o e=>
 ⟨I.base.keep b o (I.ok.bs b o e).1 (I.ok.bs b o e).2 (I.ok.nofr e) (I.ok.noex b o e),I.base.free b o (I.ok.bs b o e).1 (I.ok.bs b o e).2 (I.ok.noex b o e)⟩
theorem Inv.bk(I:Inv X pins σ H s):∀b o,X.base.get? b=some o->s.heap.get? b=some o:=fun b o e=>(I.bs b o e).1
theorem Inv.mod(I:Inv X pins σ H s):Mod X.K X.mg X.base:=I.ok.mod
theorem Inv.kIn(I:Inv X pins σ H s):X.K.In s.heap:=I.ok.mod.kin.keeps I.bk
theorem Inv.lt(I:Inv X pins σ H s):X.env.locals < s.heap.objs.size:=let ⟨_,hn,_⟩:=I.loc;hn.lt
theorem Inv.sz(I:Inv X pins σ H s):X.s₀.heap.objs.size<=s.heap.objs.size:=Nat.le_trans I.ok.above (Nat.le_of_lt I.lt)
theorem Inv.nofs(I:Inv X pins σ H s){a:Addr}(h:s.heap.objs.size<=a):a∉X.fs:=fun hb=>by
 obtain⟨_,o,ho,_⟩:=I.ok.funs.mem hb
 exact absurd (Qc (qk ho) (Nat.le_trans I.sz h)) (Qe _)
theorem Inv.cne(I:Inv X pins σ H s):∀x c,X.env.cells.lookup x=some c->c≠X.env.locals:=fun x c e z=>by
 obtain⟨v,o,ho,hd⟩:=I.cell x c e
 obtain⟨m,⟨o',es,ep,ho',hd',_⟩,_⟩:=I.loc
 rw[z,ho']at ho;cases ho;rw[hd']at hd;cases hd
theorem Inv.funs(I:Inv X pins σ H s):s.heap.FunFrames X.base X.outer:=by
 have all:∀(l:List Env),(∀b∈frs l,b∈X.fs)->X.s₀.heap.FunFrames X.base l->s.heap.FunFrames X.base l:=by
  intro l
  induction l with
  | nil=>intro _ _;trivial
  | cons env r ih=>
    intro hs hl
    obtain⟨hk,⟨L,o,hf,hn,ho,hd⟩,hr⟩:=hl
    have hL:L∈X.fs:=hs L (by unfold frs;rw[List.filterMap_cons,hf];exact qg)
    obtain⟨sl,e⟩:=I.base.slot L o ho (I.ok.frf L hL) hL fun z=>I.ok.exfs L z hL
    exact⟨hk,⟨L,_,hf,hn,e,hd⟩,ih (fun b hb=>hs b (by unfold frs;rw[List.filterMap_cons,hf];exact qf _ hb)) hr⟩
 exact all X.outer (fun _ hb=>hb) I.ok.funs
theorem Inv.stack(I:Inv X pins σ H s):s.heap.FunFrames X.base X.stack:=by
 rcases I.ok.stk with e | ⟨e,hf⟩
 ·rw[e];exact I.funs
 ·rw[e]
  obtain⟨m,hn,_⟩:=I.loc
  refine .cons (by rw[I.ok.kind];decide) hf hn ?_ I.funs
  exact Heap.get?_none_of_le (Nat.le_trans I.ok.bsz I.ok.above)
theorem Inv.stkSub(I:Inv X pins σ H s):∀b∈frs X.stack,b∈X.env.locals::X.fs:=fun b hb=>by
 rcases I.ok.stk with e | ⟨e,hf⟩
 ·rw[e]at hb;exact qf _ hb
 ·rw[e]at hb
  unfold frs at hb
  rw[List.filterMap_cons,hf]at hb
  exact hb
theorem Inv.stkFree(I:Inv X pins σ H s):∀b∈frs X.stack,H b=none:=fun b hb=>by
 rcases qr (I.stkSub b hb)with e | hb
 ·rw[e];exact I.free
 ·obtain⟨_,o,ho,_⟩:=I.ok.funs.mem hb
  exact I.base.free b o ho (I.ok.frf b hb) fun z=>I.ok.exfs b z hb
theorem Inv.step{g':Array GenState}{t':Nat}{d':Drawn}{ch:List Addr}(I:Inv X pins σ H s)
 (hch:∀b∈ch,(b∈X.ex\/X.s₀.heap.objs.size<=b)/\b≠X.env.locals/\(∀x c,X.env.cells.lookup x=some c->c≠b)/\∀p∈X.pn++pins,p.1≠b)
 (keep:∀b o,b≠X.env.locals->b∉X.fs->b∉ch->s.heap.get? b=some o->H b=none->h'.get? b=some o)
 (slot:∀b o,b≠X.env.locals->b∈X.fs->b∉ch->s.heap.get? b=some o->H b=none->∃sl,h'.get? b=some { o with slots:=sl }) (free:∀b o,b∉ch->s.heap.get? b=some o->H b=none->H' b=none)
 (there:∀b o,b∉ch->s.heap.get? b=some o->∃o',h'.get? b=some o')
 (tups:∀b xs,H b=some (.tup xs)->H' b=some (.tup xs)) (frzs:∀b o u,H b=some (.frz o u)->H' b=some (.frz o u)) (tbls:∀b ps,H b=some (.tbl ps)->∃more,H' b=some (.tbl (ps++more)))
 (ns:∀m,s.heap.Ns X.env.locals m->h'.Ns X.env.locals m) (hok:HOk X.prog X.w H' h') (hg:AllBare g') :
 Inv X pins σ H' { s with heap:=h',gens:=g',drawn:=d',toks:=t' }:=by
 have neL:∀b o,X.s₀.heap.get? b=some o->b≠X.env.locals:=fun b o e=>ql (Qc (qk e) I.ok.above)
 have neC:∀b o,X.s₀.heap.get? b=some o->b∉X.ex->b∉ch:=fun b o e hx hb=>by
  rcases(hch b hb).1 with z | z
  ·exact hx z
  ·exact absurd (Qc (qk e) z) (Qe _)
 have cellK:∀x c,X.env.cells.lookup x=some c->∀v,s.heap.IsCell c v->h'.IsCell c v:=fun x c e v hx_=>by
  obtain⟨o,ho,hd⟩:=hx_
  have nch:c∉ch:=fun z=>(hch c z).2.2.1 x c e rfl
  by_cases hc:c∈X.fs
  ·obtain⟨sl,q⟩:=slot c o (I.cne x c e) hc nch ho (I.freeC x c e)
   exact⟨_,q,hd⟩
  ·exact⟨o,keep c o (I.cne x c e) hc nch ho (I.freeC x c e),hd⟩
 refine⟨I.ok,I.os,hg,⟨fun b o e n hb hx=>?_,fun b o e n hb hx=>?_,fun b o e n hx=>?_,fun b o e hx=>?_,fun b xs e=>tups b xs (I.base.tups b xs e),fun b o xs e=>frzs b o xs (I.base.frzs b o xs e),fun b ps e=>?_⟩,?_,fun x c e=>?_,?_,fun x c e=>?_,fun p hp=>?_,hok,I.len⟩
 ·exact keep b o (neL b o e) hb (neC b o e hx) (I.base.keep b o e n hb hx) (I.base.free b o e n hx)
 ·obtain⟨sl,e1⟩:=I.base.slot b o e n hb hx
  obtain⟨sl',e2⟩:=slot b _ (neL b o e) hb (neC b o e hx) e1 (I.base.free b o e n hx)
  exact⟨sl',e2⟩
 ·obtain⟨o',e1⟩:=I.base.there b o e hx
  exact free b o' (neC b o e hx) e1 (I.base.free b o e n hx)
 ·obtain⟨o',e1⟩:=I.base.there b o e hx
  exact there b o' (neC b o e hx) e1
 ·obtain⟨m1,e1⟩:=I.base.tbls b ps e
  obtain⟨m2,e2⟩:=tbls b _ e1
  exact⟨m1++m2,by rw[e2,Array.append_assoc]⟩
 ·obtain⟨m,hn,hl⟩:=I.loc
  refine⟨m,ns m hn,fun i x v e1 e2 e3=>?_⟩
  obtain⟨u,r,l⟩:=hl i x v e1 e2 e3
  refine⟨u,r,?_⟩
  rcases l with l | ⟨k,c,e,z⟩
  ·exact .inl l
  ·exact .inr ⟨k,c,e,cellK x c e _ z⟩
 ·obtain⟨v,z⟩:=I.cell x c e
  exact⟨v,cellK x c e v z⟩
 ·obtain⟨m,⟨o,_,_,ho,_⟩,_⟩:=I.loc
  exact free _ o (fun z=>(hch _ z).2.1 rfl) ho I.free
 ·obtain⟨v,o,ho,hd⟩:=I.cell x c e
  exact free c o (fun z=>(hch c z).2.2.1 x c e rfl) ho (I.freeC x c e)
 ·obtain⟨e,n,ne,nf,d⟩:=I.pin p hp
  have nch:p.1∉ch:=fun z=>(hch p.1 z).2.2.2 p hp rfl
  exact⟨keep p.1 p.2 ne nf nch e n,free p.1 p.2 nch e n,ne,nf,d⟩
theorem Inv.un{t':Nat}(I:Inv X pins σ H s)(u:Un X.fs [] H H' s.heap h')(hok:HOk X.prog X.w H' h'):Inv X pins σ H' { s with heap:=h',toks:=t' }:=by
 obtain⟨m,⟨o,es,ep,ho,r⟩,_⟩:=id I.loc
 obtain⟨sl,hL⟩:=u.any ho I.free (by simp)
 exact I.step (g':=s.gens) (d':=s.drawn) (ch:=[]) (fun _ z=>nomatch z) (fun b o _ hb _ e n=>u.keep b o e n hb (by simp)) (fun b o _ hb _ e n=>u.slot b o e n hb (by simp)) (fun b o _ e n=>u.free b o e n (by simp)) (fun b o _ e=>u.there b o e (by simp)) u.tups u.frzs u.tbls (fun m' hm=>by
  obtain⟨o',es',ep',ho',r'⟩:=hm
  rw[ho]at ho';cases ho'
  exact⟨_,es',ep',hL,r'⟩) hok I.bare
theorem Inv.call{g':Array GenState}{t':Nat}{d':Drawn}{ch:List Addr}(I:Inv X pins σ H s)(u:Un (frs X.stack) ch H H' s.heap h')(hok:HOk X.prog X.w H' h')(hg:AllBare g')
 (hch:∀b∈ch,(b∈X.ex\/X.s₀.heap.objs.size<=b)/\b≠X.env.locals/\(∀x c,X.env.cells.lookup x=some c->c≠b)/\∀p∈X.pn++pins,p.1≠b) :
 Inv X pins σ H' { s with heap:=h',gens:=g',drawn:=d',toks:=t' }:=by
 obtain⟨m,⟨o,es,ep,ho,r⟩,_⟩:=id I.loc
 obtain⟨sl,hL⟩:=u.any ho I.free fun z=>(hch _ z).2.1 rfl
 exact I.step (ch:=ch) hch (fun b o hL hb hc e n=>u.keep b o e n (fun z=>(qr (I.stkSub b z)).elim hL hb) hc) (fun b o _ _ hc e n=>u.any e n hc) (fun b o hc e n=>u.free b o e n hc) (fun b o hc e=>u.there b o e hc) u.tups u.frzs u.tbls (fun m' hm=>by
  obtain⟨o',es',ep',ho',r'⟩:=hm
  rw[ho]at ho';cases ho'
  exact⟨_,es',ep',hL,r'⟩) hok hg
theorem Inv.turned{t':Nat}{it:Addr}(I:Inv X pins σ H s)(k:∀b o,b≠it->s.heap.get? b=some o->h'.get? b=some o)(hn:H it=none)(hL:it≠X.env.locals)
 (h1:it∈X.ex\/X.s₀.heap.objs.size<=it) (h2:∀x c,X.env.cells.lookup x=some c->c≠it) (h3:∀p∈X.pn++pins,p.1≠it):Inv X pins σ H { s with heap:=h',toks:=t' }:=by
 have nit:∀b u,H b=some u->b≠it:=fun b u e z=>by rw[z,hn]at e;cases e
 refine I.step (g':=s.gens) (d':=s.drawn) (ch:=[it]) (fun b hb=>?_) (fun b o _ _ hc e _=>k b o (fun z=>hc (by simp[z])) e) (fun b o _ _ hc e _=>⟨o.slots,k b o (fun z=>hc (by simp[z])) e⟩) (fun _ _ _ _ n=>n)
  (fun b o hc e=>⟨o,k b o (fun z=>hc (by simp[z])) e⟩) (fun _ _ e=>e) (fun _ _ _ e=>e) (fun b ps e=>⟨#[],by rw[e];simp⟩) (fun m hm=>?_) (fun b u e=>?_) I.bare
 ·have e:b=it:=by simpa using hb
  subst e
  exact⟨h1,hL,h2,h3⟩
 ·obtain⟨o,es,ep,ho,r⟩:=hm
  exact⟨o,es,ep,k _ o (Ne.symm hL) ho,r⟩
 ·refine(I.hok b u e).stay (fun c v hc q=>k c v ?_ q) (fun _ q=>q) fun _ _ q=>q
  rcases hc with z | z
  ·rw[z];exact nit b u e
  ·exact nit c _ z
theorem Inv.tok(I:Inv X pins σ H s)(t:Nat):Inv X pins σ H { s with toks:=t }:=I.un (h':=s.heap) (t':=t) Un.refl I.hok
theorem Inv.kept{t':Nat}(I:Inv X pins σ H s)(k:∀b u,s.heap.get? b=some u->h'.get? b=some u):Inv X pins σ H { s with heap:=h',toks:=t' }:=I.un (Un.kept k) (I.hok.kept k)
theorem Inv.laid{a:Addr}{o:HO}{t':Nat}(I:Inv X pins σ H s)(k:∀b u,s.heap.get? b=some u->h'.get? b=some u)(hp:s.heap.objs.size<=a)(new:ObjOk X.prog X.w (upd H a o) h' a o) :
 Inv X pins σ (upd H a o) { s with heap:=h',toks:=t' }:=I.un (Un.laid k hp (I.hok.fresh hp)) (I.hok.laid k hp new)
theorem Inv.write{x e:Addr}{o:HO}{t':Nat}(I:Inv X pins σ H s)(mu:Mut (H x))(he:e=x\/H e=some (.own x))(k:∀b u,b≠e->s.heap.get? b=some u->h'.get? b=some u)(heo:∃u,h'.get? e=some u)
 (new:ObjOk X.prog X.w (upd H x o) h' x o):Inv X pins σ (upd H x o) { s with heap:=h',toks:=t' }:=I.un (Un.write mu he k heo) (I.hok.write mu he k heo new)
theorem Inv.pins_of{pins':List (Addr × Obj)}(I:Inv X pins σ H s)(h:∀p∈pins',s.heap.get? p.1=some p.2/\H p.1=none/\p.1≠X.env.locals/\p.1∉X.fs/\∀v,p.2.data≠.cell v):Inv X pins' σ H s:=
 ⟨I.ok,I.os,I.bare,I.base,I.loc,I.cell,I.free,I.freeC,fun p hp=>(qu hp).elim (fun z=>I.pin p (List.mem_append_left _ z)) (h p),I.hok,I.len⟩
theorem Ykg{N:List Str}(hN:N.Nodup){i j:Nat}{x:Str}(a:N[i]?=some x)(b:N[j]?=some x):i=j:=by
 obtain⟨h1,e1⟩:=qm a
 obtain⟨h2,e2⟩:=qm b
 exact(List.getElem_inj hN).mp (e1.trans e2.symm)
theorem Yls{M:Model}{A:Around}{E:Value->Shared->Prop}{i:Nat}{x:Str}{v:V}{u:Value}{Q:Unit->Shared->Prop}(I:Inv X pins σ H s)(hN:X.N.Nodup)(hi:X.N[i]?=some x)(hx:Loc X.env.scope x)(r:RelV v u)
 (h:∀s',Inv X pins (σ.set i (some v)) H s'->(∃a,Heap.SameBut a s.heap s'.heap/\(a=X.env.locals\/X.env.cells.lookup x=some a))->Q () s') (hf:X.fn x=true\/X.env.scope.names.lookup x=some .local:=by first | exact .inl rfl | exact .inr rfl | assumption):wpAny M A (storeName X.env x u) Q E s:=by
 obtain⟨m,hn,hl⟩:=id I.loc
 have hcls:(X.env.scope.kind==.class||(X.env.scope.kind==.module&&X.env.locals != X.env.globals))=false:=by rw[I.ok.kind];rfl
 have hiσ:i < σ.length:=by rw[I.len];exact(qm hi).1
 have cne:=I.cne
 have tracked:∀{a:Addr} {h':Heap},(∃o,s.heap.get? a=some o/\H a=none)->Heap.SameBut a s.heap h'->HOk X.prog X.w H h':=fun {a h'} ha hs b ob e=>by
  obtain⟨_,_,hfree⟩:=ha
  refine(I.hok b ob e).stay (fun c w' hc q=>(hs.2 c ?_).trans q) (fun _ q=>q) fun _ _ q=>q
  rintro rfl
  rcases hc with rfl | hc
  ·rw[hfree]at e;cases e
  ·rw[hfree]at hc;cases hc
 rcases hx with hk | hk
 ·refine wpAny_storeName_local hk hn (fun h' hn' hs=>?_) hcls
  obtain⟨oL,_,_,hoL,_⟩:=id hn
  refine h _ ⟨I.ok,I.os,I.bare,⟨fun b o e n hb hx=>?_,fun b o e n hb hx=>?_,I.base.free,fun b o e hx=>?_,I.base.tups,I.base.frzs,I.base.tbls⟩,⟨_,hn',fun j y v' e1 e2 e3=>?_⟩,fun y c e=>?_,I.free,I.freeC,fun p hp=>?_,tracked ⟨oL,hoL,I.free⟩ hs,by simpa using I.len⟩ ⟨_,hs,.inl rfl⟩
  ·exact(hs.2 b (ql (Qc (qk e) I.ok.above))).trans (I.base.keep b o e n hb hx)
  ·obtain⟨sl,e1⟩:=I.base.slot b o e n hb hx
   exact⟨sl,(hs.2 b (ql (Qc (qk e) I.ok.above))).trans e1⟩
  ·obtain⟨o',e1⟩:=I.base.there b o e hx
   exact⟨o',(hs.2 b (ql (Qc (qk e) I.ok.above))).trans e1⟩
  ·by_cases hj:j=i
   ·subst hj
    rw[hi]at e1;cases e1
    rw[List.getElem?_set_self hiσ]at e2
    cases e2
    exact⟨u,r,.inl ⟨hk,by simp⟩⟩
   ·rw[Qd (Ne.symm hj)]at e2
    obtain⟨u',r',q⟩:=hl j y v' e1 e2 e3
    refine⟨u',r',?_⟩
    rcases q with⟨k,e⟩ | ⟨k,c,e,z⟩
    ·refine .inl ⟨k,?_⟩
     have:y≠x:=fun e=>hj (Ykg hN e1 (e ▸ hi))
     simp[this,e]
    ·exact .inr ⟨k,c,e,z.sameBut hs (cne y c e)⟩
  ·obtain⟨w',z⟩:=I.cell y c e
   exact⟨w',z.sameBut hs (cne y c e)⟩
  ·obtain⟨e,n,ne,nf,d⟩:=I.pin p hp
   exact⟨(hs.2 p.1 ne).trans e,n,ne,nf,d⟩
 ·have hfn:X.fn x=true:=by
   rcases hf with z | z
   ·exact z
   ·rw[z]at hk;cases hk
  obtain⟨c,hc⟩:=I.ok.has x (.inl hk)
  obtain⟨w',z⟩:=I.cell x c hc
  refine wpAny_storeName_cell I.ok.kind hk hc z (fun h' hc' hs=>?_)
  obtain⟨oc,hoc,hocd⟩:=id z
  refine h { s with heap:=h' } ⟨I.ok,I.os,I.bare,⟨fun b o e n hb hx=>?_,fun b o e n hb hx=>?_,I.base.free,fun b o e hx=>?_,I.base.tups,I.base.frzs,I.base.tbls⟩,⟨m,hn.sameBut hs (Ne.symm (cne x c hc)),fun j y v' e1 e2 e3=>?_⟩,fun y c' e=>?_,I.free,I.freeC,fun p hp=>?_,tracked ⟨oc,hoc,I.freeC x c hc⟩ hs,by simpa using I.len⟩ ⟨c,hs,.inr hc⟩
  ·exact(hs.2 b (ql (Qc (qk e) (I.ok.cab x c hfn hc)))).trans (I.base.keep b o e n hb hx)
  ·obtain⟨sl,e1⟩:=I.base.slot b o e n hb hx
   exact⟨sl,(hs.2 b (ql (Qc (qk e) (I.ok.cab x c hfn hc)))).trans e1⟩
  ·obtain⟨o',e1⟩:=I.base.there b o e hx
   exact⟨o',(hs.2 b (ql (Qc (qk e) (I.ok.cab x c hfn hc)))).trans e1⟩
  ·by_cases hj:j=i
   ·subst hj
    rw[hi]at e1;cases e1
    rw[List.getElem?_set_self hiσ]at e2
    cases e2
    exact⟨u,r,.inr ⟨.inl hk,c,hc,hc'⟩⟩
   ·rw[Qd (Ne.symm hj)]at e2
    obtain⟨u',r',q⟩:=hl j y v' e1 e2 e3
    refine⟨u',r',?_⟩
    rcases q with q | ⟨k,c',e,z'⟩
    ·exact .inl q
    ·refine .inr ⟨k,c',e,z'.sameBut hs ?_⟩
     rintro rfl
     exact hj (Ykg hN e1 (I.ok.inj _ _ _ e hc ▸ hi))
  ·by_cases hcc:c'=c
   ·subst hcc;exact⟨_,hc'⟩
   ·obtain⟨w2,z2⟩:=I.cell y c' e
    exact⟨w2,z2.sameBut hs hcc⟩
  ·obtain⟨e,n,ne,nf,d⟩:=I.pin p hp
   refine⟨(hs.2 p.1 ?_).trans e,n,ne,nf,d⟩
   intro q
   rw[q,hoc]at e
   have q':oc=p.2:=Option.some.inj e
   exact d w' (by rw[<-q'];exact hocd)
theorem Ykh{M:Model}{A:Around}{E:Value->Shared->Prop}{i:Nat}{x:Str}{v:V}{u:Value}{Q:Unit->Shared->Prop}(I:Inv X pins σ H s)(hN:X.N.Nodup)(hi:X.N[i]?=some x)(hx:Loc X.env.scope x)(r:RelV v u)
 (h:∀s',Inv X pins (σ.set i (some v)) H s'->Q () s') (hf:X.fn x=true\/X.env.scope.names.lookup x=some .local:=by first | exact .inl rfl | exact .inr rfl | assumption):wpAny M A (storeName X.env x u) Q E s:=
 Yls I hN hi hx r (fun s' I' _=>h s' I') hf
theorem Inv.call'{s':Shared}{ch:List Addr}(I:Inv X pins σ H s)(ho:s'.os=s.os)(u:Un (frs X.stack) ch H H' s.heap s'.heap)(hok:HOk X.prog X.w H' s'.heap)(hg:AllBare s'.gens)
 (hch:∀b∈ch,(b∈X.ex\/X.s₀.heap.objs.size<=b)/\b≠X.env.locals/\(∀x c,X.env.cells.lookup x=some c->c≠b)/\∀p∈X.pn++pins,p.1≠b):Inv X pins σ H' s':=by
 obtain⟨h',g',d',t',o'⟩:=s'
 have e:o'=s.os:=ho
 subst e
 exact I.call (g':=g') (t':=t') (d':=d') u hok hg hch
end
abbrev XK:=Value->Option Addr->Hp->Prop
abbrev St:=List (Option V)
abbrev VK:=V->Hp->Prop
abbrev TE:=St->Hp->VK->Prop
abbrev TT:=St->Hp->(Bool->Hp->Prop)->Prop
abbrev TA:=St->Hp->(List V->Hp->Prop)->Prop
structure Ends where
 nx:St->Hp->Prop
 rt:VK
 bk:St->Hp->Prop:=fun _ _=>False
 ct:St->Hp->Prop:=fun _ _=>False
abbrev TS:=Ends->St->Hp->Prop
def EP(X:Cx)(pins:List (Addr × Obj))(σ:St)(Q:VK)(u:Value)(s':Shared):Prop:=∃v H',Inv X pins σ H' s'/\RelV v u/\Q v H'
def TP(X:Cx)(pins:List (Addr × Obj))(σ:St)(Q:Bool->Hp->Prop)(b:Bool)(s':Shared):Prop:=∃H',Inv X pins σ H' s'/\Q b H'
def AP(X:Cx)(pins:List (Addr × Obj))(σ:St)(Q:List V->Hp->Prop)(us:List Value)(s':Shared):Prop:=∃vs H',Inv X pins σ H' s'/\Vals vs us/\Q vs H'
def SP(X:Cx)(pins:List (Addr × Obj))(D:Ends)(f:Flow)(s':Shared):Prop:=
 match f with
 | .next=>∃σ' H',Inv X pins σ' H' s'/\D.nx σ' H'
 | .brk=>∃σ' H',Inv X pins σ' H' s'/\D.bk σ' H'
 | .cont=>∃σ' H',Inv X pins σ' H' s'/\D.ct σ' H'
 | .ret u=>∃v σ' H',Inv X pins σ' H' s'/\RelV v u/\D.rt v H'
def PE(X:Cx)(e:Expr)(t:TE):Prop:=
 ∀(pins:List (Addr × Obj)) (s:Shared) (σ:St) (H:Hp) (Q:VK),Inv X pins σ H s->t σ H Q->wpAny (model X.prog X.w) X.A (eval e X.env) (EP X pins σ Q) X.xe s
def PT(X:Cx)(e:Expr)(t:TT):Prop:=
 ∀(pins:List (Addr × Obj)) (s:Shared) (σ:St) (H:Hp) (Q:Bool->Hp->Prop),Inv X pins σ H s->t σ H Q->wpAny (model X.prog X.w) X.A (isTrue e X.env (eval e X.env)) (TP X pins σ Q) X.xe s
def PW(X:Cx)(e:Expr)(t:TT):Prop:=
 ∀(whole:Sem Value) (pins:List (Addr × Obj)) (s:Shared) (σ:St) (H:Hp) (Q:Bool->Hp->Prop),Inv X pins σ H s->t σ H Q->wpAny (model X.prog X.w) X.A (isTrue e X.env whole) (TP X pins σ Q) X.xe s
theorem PW.pt{X:Cx}{e:Expr}{t:TT}(h:PW X e t):PT X e t:=h _
def PA(X:Cx)(es:List Expr)(t:TA):Prop:=
 ∀(pos:Pos) (pins:List (Addr × Obj)) (s:Shared) (σ:St) (H:Hp) (Q:List V->Hp->Prop),Inv X pins σ H s->t σ H Q->wpAny (model X.prog X.w) X.A (spliced (backTo pos (starEach es X.env))) (AP X pins σ Q) X.xe s
def PS(X:Cx)(st:Stmt)(t:TS):Prop:=
 ∀(pins:List (Addr × Obj)) (s:Shared) (σ:St) (H:Hp) (D:Ends),Inv X pins σ H s->t D σ H->wpAny (model X.prog X.w) X.A (exec st X.env) (SP X pins D) X.xe s
def PSs(X:Cx)(st:List Stmt)(t:TS):Prop:=
 ∀(pins:List (Addr × Obj)) (s:Shared) (σ:St) (H:Hp) (D:Ends),Inv X pins σ H s->t D σ H->wpAny (model X.prog X.w) X.A (execs st X.env) (SP X pins D) X.xe s
theorem thn{α:Type}{t:Sem α}{Q Q':α->Shared->Prop}{M:Model}{A:Around}{E:Value->Shared->Prop}{s:Shared}(h:wpAny M A t Q E s)(hQ:∀a s,Q a s->Q' a s):wpAny M A t Q' E s:=wpAny_mono h hQ fun _ _ x=>x
end L2
namespace L2
open PySem PySem.Spec PyProof.Rows
section
variable {X:Cx}
def tVar(i:Nat):TE:=fun σ H Q=>∃v,σ[i]?=some (some v)/\Q v H
def tC(v:V):TE:=fun _ H Q=>Q v H
theorem Yhb{i:Nat}{x:Str}{pos:Pos}(hN:X.N[i]?=some x)(hv:Vis X.env.scope x)(hd:(x==("__debug__":Str))=false:=by decide)(hcd:(x==("__classdict__":Str))=false:=by decide):PE X (.Name x pos) (tVar i):=by
 intro pins s σ H Q I h
 obtain⟨v,e,h⟩:=h
 obtain⟨m,hn,hl⟩:=I.loc
 obtain⟨u,r,l⟩:=hl i x v hN e hv
 have fin:EP X pins σ Q u s:=⟨v,H,I,r,h⟩
 rcases l with⟨hk,hm⟩ | ⟨hk,c,hc,hcell⟩
 ·exact wpAny_Name (wpAny_loadName_local I.ok.kind hk hn hm fin) hd
 ·rcases hk with hk | hk
  ·exact wpAny_Name (wpAny_loadName_cell I.ok.kind hk hc hcell fin) hd
  ·exact wpAny_Name (wpAny_loadName_free I.ok.kind hk hc hcell fin hcd) hd
theorem y0n{i j pos}:PE X (.Constant (.int i) j pos) (tC (.int i)):=fun _ _ _ H _ I h=>wpAny_Constant_int ⟨.int i,H,I.tok _,⟨_,rfl⟩,h⟩
theorem y3k{b j pos}:PE X (.Constant (.bool b) j pos) (tC (.bl b)):=fun _ _ _ H _ I h=>Constant_bool ⟨.bl b,H,I,rfl,h⟩
theorem y0o{j pos}:PE X (.Constant .none j pos) (tC .non):=fun _ _ _ H _ I h=>Constant_none ⟨.non,H,I,rfl,h⟩
theorem y0p{x j pos}:PE X (.Constant (.str x) j pos) (tC (.str x)):=fun _ _ _ H _ I h=>Calls.Constant_str ⟨.str x,H,I.tok _,⟨_,rfl⟩,h⟩
def Gl(X:Cx)(x:Str):Prop:=X.env.kindOf x=some .globalImplicit
theorem Yem{E:Value->Shared->Prop}{pins:List (Addr × Obj)}{s:Shared}{σ:St}{H:Hp}{x:Str}{u:Value}{pos:Pos}{Q:Value->Shared->Prop}(I:Inv X pins σ H s)(hg:Gl X x)(hm:X.mg x=some u)(h:Q u s)
 (hd:(x==("__debug__":Str))=false:=by decide):wpAny (model X.prog X.w) X.A (eval (.Name x pos) X.env) Q E s:=
 Calls.Name_function_global I.ok.kind hg (Calls.loadGlobal_global (by rw[I.ok.glob];exact I.mod.glob.keeps I.bk) hm h) hd
theorem Yhc{E:Value->Shared->Prop}{pins:List (Addr × Obj)}{s:Shared}{σ:St}{H:Hp}{x:Str}{u:Value}{pos:Pos}{Q:Value->Shared->Prop}(I:Inv X pins σ H s)(hg:Gl X x)(hm:X.mg x=none)(hv:bootBuiltins x=some u)(h:Q u s)
 (hn:x≠"__name__":=by decide) (hd:(x==("__debug__":Str))=false:=by decide):wpAny (model X.prog X.w) X.A (eval (.Name x pos) X.env) Q E s:=by
 obtain⟨mb,h1,h2⟩:=I.mod.blt
 exact Calls.Name_function_global I.ok.kind hg (Calls.loadGlobal_builtin (by rw[I.ok.glob];exact I.mod.glob.keeps I.bk) hm (by rw[I.ok.blt];exact h1.keeps I.bk) ((h2 x hn).trans hv) h) hd
theorem Ynv{x:Str}{v:V}{u:Value}{pos:Pos}(hg:Gl X x)(hm:X.mg x=some u)(r:RelV v u)(hd:(x==("__debug__":Str))=false:=by decide):PE X (.Name x pos) (tC v):=
 fun _ _ _ H _ I h=>Yem I hg hm ⟨v,H,I,r,h⟩ hd
theorem Yre{x:Str}{v:V}{u:Value}{pos:Pos}(hg:Gl X x)(hm:X.mg x=none)(hv:bootBuiltins x=some u)(r:RelV v u)(hn:x≠"__name__":=by decide)(hd:(x==("__debug__":Str))=false:=by decide):PE X (.Name x pos) (tC v):=
 fun _ _ _ H _ I h=>Yhc I hg hm hv ⟨v,H,I,r,h⟩ hn hd
variable {a b:Expr} {ta tb:TE} {pos:Pos}
variable {tA tB':TT} {rest:List Expr}
def tAnd(t u:TT):TT:=fun σ H Q=>t σ H fun c H1=>if c=true then u σ H1 Q else Q false H1
def tOr(t u:TT):TT:=fun σ H Q=>t σ H fun c H1=>if c=true then Q true H1 else u σ H1 Q
def tNot(t:TT):TT:=fun σ H Q=>t σ H fun c H1=>Q (!c) H1
theorem Yxn(ha:PT X a tA):PW X (.BoolOp .And [a] pos) tA:=by
 intro wh pins s σ H Q I h
 refine isTrue_and (thn (ha pins s σ H Q I h) fun c s1 e=>?_)
 cases c with
 | true=>exact isTrue_and_nil e
 | false=>exact e
theorem y0q(ha:PT X a tA):PW X (.BoolOp .Or [a] pos) tA:=by
 intro wh pins s σ H Q I h
 refine isTrue_or (thn (ha pins s σ H Q I h) fun c s1 e=>?_)
 cases c with
 | false=>exact isTrue_or_nil e
 | true=>exact e
theorem y0r(ha:PT X a tA)(hb:PW X (.BoolOp .And (b::rest) pos) tB'):PW X (.BoolOp .And (a::b::rest) pos) (tAnd tA tB'):=by
 intro wh pins s σ H Q I h
 refine isTrue_and (thn (ha pins s σ H _ I h) fun c s1 hx_=>?_)
 obtain⟨H1,I1,q1⟩:=hx_
 cases c with
 | true=>exact hb wh pins s1 σ H1 Q I1 q1
 | false=>exact⟨H1,I1,q1⟩
theorem y3l(ha:PT X a tA)(hb:PW X (.BoolOp .Or (b::rest) pos) tB'):PW X (.BoolOp .Or (a::b::rest) pos) (tOr tA tB'):=by
 intro wh pins s σ H Q I h
 refine isTrue_or (thn (ha pins s σ H _ I h) fun c s1 hx_=>?_)
 obtain⟨H1,I1,q1⟩:=hx_
 cases c with
 | true=>exact⟨H1,I1,q1⟩
 | false=>exact hb wh pins s1 σ H1 Q I1 q1
theorem y0s(ha:PT X a tA):PT X (.UnaryOp .Not a pos) (tNot tA):=by
 intro pins s σ H Q I h
 exact isTrue_not (ha pins s σ H (fun c H1=>Q (!c) H1) I h)
def y3m(ta tb:TE):TE:=fun σ H Q=>ta σ H fun x H1=>∃c,x=.bl c/\if c=true then tb σ H1 Q else Q (.bl false) H1
def tOrV(ta tb:TE):TE:=fun σ H Q=>ta σ H fun x H1=>∃c,x=.bl c/\if c=true then Q (.bl true) H1 else tb σ H1 Q
def y3n(ta:TE):TE:=fun σ H Q=>ta σ H fun x H1=>∃c,x=.bl c/\Q (.bl (!c)) H1
theorem Yws{op}{t:TE}(h:PE X a t):PE X (.BoolOp op [a] pos) t:=fun pins s σ H Q I hw=>BoolOp_one (h pins s σ H Q I hw)
theorem y0t(ha:PE X a ta)(hb:PE X (.BoolOp .And (b::rest) pos) tb):PE X (.BoolOp .And (a::b::rest) pos) (y3m ta tb):=by
 intro pins s σ H Q I h
 refine BoolOp_and (thn (ha pins s σ H _ I h) fun v s1 hx_=>?_)
 obtain⟨x,H1,I1,r1,q1⟩:=hx_
 obtain⟨c,rfl,q1⟩:=q1
 cases r1
 refine wpAny_truthy_bool ?_
 cases c with
 | true=>exact hb pins s1 σ H1 Q I1 q1
 | false=>exact⟨.bl false,H1,I1,rfl,q1⟩
theorem y3o(ha:PE X a ta)(hb:PE X (.BoolOp .Or (b::rest) pos) tb):PE X (.BoolOp .Or (a::b::rest) pos) (tOrV ta tb):=by
 intro pins s σ H Q I h
 refine BoolOp_or (thn (ha pins s σ H _ I h) fun v s1 hx_=>?_)
 obtain⟨x,H1,I1,r1,q1⟩:=hx_
 obtain⟨c,rfl,q1⟩:=q1
 cases r1
 refine wpAny_truthy_bool ?_
 cases c with
 | false=>exact hb pins s1 σ H1 Q I1 q1
 | true=>exact⟨.bl true,H1,I1,rfl,q1⟩
theorem y0u(ha:PE X a ta):PE X (.UnaryOp .Not a pos) (y3n ta):=by
 intro pins s σ H Q I h
 refine UnaryOp_ (thn (ha pins s σ H _ I h) fun v s1 hx_=>?_)
 obtain⟨x,H1,I1,r1,q1⟩:=hx_
 obtain⟨c,rfl,q1⟩:=q1
 cases r1
 exact not_of (wpAny_truthy_bool ⟨.bl (!c),H1,I1,rfl,q1⟩)
def tIf(t:TT)(ta tb:TE):TE:=fun σ H Q=>t σ H fun c H1=>if c=true then ta σ H1 Q else tb σ H1 Q
theorem Yu0{c:Expr}(hc:PT X c tA)(ha:PE X a ta)(hb:PE X b tb):PE X (.IfExp c a b pos) (tIf tA ta tb):=by
 intro pins s σ H Q I h
 refine wpAny_IfExp (thn (hc pins s σ H _ I h) fun d s1 hx_=>?_)
 obtain⟨H1,I1,q1⟩:=hx_
 cases d with
 | true=>exact ha pins s1 σ H1 Q I1 q1
 | false=>exact hb pins s1 σ H1 Q I1 q1
end
end L2
namespace L2
open PySem PySem.Spec PyProof.Rows
def SqL(K:W.Frag)(H:Hp)(a:Addr)(xs:List V):Prop:=
 Rd H a (.lst xs)\/
  ∃(o:Obj) (its:Array Value) (n:Nat),K.lookup a=some o/\o.cls=.type "list"/\o.dict=none/\o.data=.seq its n/\its.size<=sizeLine/\Vals xs its.toList
def SqT(K:W.Frag)(H:Hp)(a:Addr)(xs:List V):Prop:=
 Rd H a (.tup xs)\/
  ∃(o:Obj) (its:Array Value) (n:Nat),K.lookup a=some o/\o.cls=.type "tuple"/\o.data=.seq its n/\its.size<=sizeLine/\Vals xs its.toList
def absV:Value->Option V
 | .none=>some .non
 | .bool b=>some (.bl b)
 | .int i _=>some (.int i)
 | .str x _=>some (.str x)
 | .bytes b _=>some (.byt b)
 | .float b _=>some (.flt b)
 | .ref a=>some (.ref a)
 | .type n=>some (.ty n)
 | _=>none
theorem RelV.abs{x:V}{u:Value}(r:RelV x u):absV u=some x:=by
 cases x with
 | non=>cases r;rfl
 | bl _=>cases r;rfl
 | int _=>obtain⟨t,rfl⟩:=r;rfl
 | str _=>obtain⟨t,rfl⟩:=r;rfl
 | byt _=>obtain⟨t,rfl⟩:=r;rfl
 | flt _=>obtain⟨t,rfl⟩:=r;rfl
 | ref _=>cases r;rfl
 | ty _=>cases r;rfl
theorem RelV.inj{x y:V}{u:Value}(r:RelV x u)(q:RelV y u):x=y:=Option.some.inj (r.abs.symm.trans q.abs)
theorem Vals.inj:∀{xs ys:List V} {us:List Value},Vals xs us->Vals ys us->xs=ys
 :=by
  intro xs ys us h
  induction h generalizing ys with
  | nil=>
    intro h2
    cases h2
    rfl
  | cons r t ih=>
    intro h2
    cases h2 with
    | cons r' t'=>rw[r.inj r',ih t']
section
variable {X:Cx} {pins:List (Addr × Obj)} {σ:St} {H:Hp} {s:Shared} {a:Addr} {xs ys:List V}
theorem SqL.of{K:W.Frag}(h:H a=some (.lst xs)):SqL K H a xs:=.inl (.inl h)
theorem SqT.of{K:W.Frag}(h:H a=some (.tup xs)):SqT K H a xs:=.inl (.inl h)
theorem Inv.list(I:Inv X pins σ H s)(h:SqL X.K H a xs):∃its:List Value,Vals xs its/\PlainL s.heap a its.toArray/\xs.length<=sizeLine:=by
 rcases h with h | ⟨o,its,n,hk,hc,hd,hs,hz,r⟩
 ·obtain⟨z,its,n,r,e⟩:=h.ok I.hok
  exact⟨its,r,⟨_,n,e,rfl,rfl,rfl⟩,z⟩
 ·refine⟨its.toList,r,⟨o,n,I.kIn a o hk,hc,hd,by simpa using hs⟩,?_⟩
  have e:=r.length
  simp only[qi]at e
  lia
theorem Inv.tuple(I:Inv X pins σ H s)(h:SqT X.K H a xs):∃its:List Value,Vals xs its/\IsTup s.heap a its.toArray/\xs.length<=sizeLine:=by
 rcases h with h | ⟨o,its,n,hk,hc,hs,hz,r⟩
 ·obtain⟨z,its,r,p⟩:=h.ok I.hok
  exact⟨its,r,p,z⟩
 ·refine⟨its.toList,r,⟨o,I.kIn a o hk,hc,n,by simpa using hs⟩,?_⟩
  have e:=r.length
  simp only[qi]at e
  lia
theorem Inv.list_inj(I:Inv X pins σ H s)(h:SqL X.K H a xs)(h':SqL X.K H a ys):xs=ys:=by
 obtain⟨its,r,⟨o,n,e,_,_,d⟩,_⟩:=I.list h
 obtain⟨its',r',⟨o',n',e',_,_,d'⟩,_⟩:=I.list h'
 rw[e]at e';cases e'
 rw[d]at d'
 injection d' with d1 _
 have:its=its':=by simpa using congrArg Array.toList d1
 subst this
 exact r.inj r'
theorem Inv.tuple_inj(I:Inv X pins σ H s)(h:SqT X.K H a xs)(h':SqT X.K H a ys):xs=ys:=by
 obtain⟨its,r,⟨o,e,_,n,d⟩,_⟩:=I.tuple h
 obtain⟨its',r',⟨o',e',_,n',d'⟩,_⟩:=I.tuple h'
 rw[e]at e';cases e'
 rw[d]at d'
 injection d' with d1 _
 have:its=its':=by simpa using congrArg Array.toList d1
 subst this
 exact r.inj r'
end
abbrev Cx.wish(X:Cx)(E:Value->Shared->Prop):Cx:={ X with xe:=E }
abbrev Cx.nox(X:Cx):Cx:=X.wish fun _ _=>False
theorem Cx.Ok.wish{X:Cx}(ok:X.Ok)(E:Value->Shared->Prop):(X.wish E).Ok:=
 ⟨ok.mod,ok.kind,ok.glob,ok.blt,ok.above,ok.inj,ok.has,ok.cab,ok.hd,ok.frames,ok.stk,ok.exf,ok.bs,ok.bsz,ok.noex,ok.exfs,ok.funs,ok.frf⟩
theorem Cx.Ok.unwish{X:Cx}{E:Value->Shared->Prop}(ok:(X.wish E).Ok):X.Ok:=
 ⟨ok.mod,ok.kind,ok.glob,ok.blt,ok.above,ok.inj,ok.has,ok.cab,ok.hd,ok.frames,ok.stk,ok.exf,ok.bs,ok.bsz,ok.noex,ok.exfs,ok.funs,ok.frf⟩
section
variable {X:Cx} {pins:List (Addr × Obj)} {σ:St} {H:Hp} {s:Shared} {E:Value->Shared->Prop} {st:Stmt} {rest:List Stmt} {t u:TS} {e:Expr} {te:TE} {pos:Pos}
theorem Inv.wish(I:Inv X pins σ H s)(E:Value->Shared->Prop):Inv (X.wish E) pins σ H s:=⟨I.ok.wish E,I.os,I.bare,I.base,I.loc,I.cell,I.free,I.freeC,I.pin,I.hok,I.len⟩
theorem Inv.unwish(I:Inv (X.wish E) pins σ H s):Inv X pins σ H s:=⟨I.ok.unwish,I.os,I.bare,I.base,I.loc,I.cell,I.free,I.freeC,I.pin,I.hok,I.len⟩
theorem SP.unwish{D:Ends}{f:Flow}{s':Shared}(h:SP (X.wish E) pins D f s'):SP X pins D f s':=by
 cases f with
 | next=>obtain⟨σ',H',I,q⟩:=h;exact⟨σ',H',I.unwish,q⟩
 | brk=>obtain⟨σ',H',I,q⟩:=h;exact⟨σ',H',I.unwish,q⟩
 | cont=>obtain⟨σ',H',I,q⟩:=h;exact⟨σ',H',I.unwish,q⟩
 | ret u=>obtain⟨v,σ',H',I,r,q⟩:=h;exact⟨v,σ',H',I.unwish,r,q⟩
theorem PT.nox{e:Expr}{t:TT}(h:PT X.nox e t):PT X e t:=fun pins s σ H Q I hw=>
 wpAny_mono (h pins s σ H Q (I.wish _) hw) (fun _ _ ⟨H',I',q⟩=>⟨H',I'.unwish,q⟩) fun _ _ z=>False.elim z
theorem PSs.nox{st:List Stmt}{t:TS}(h:PSs X.nox st t):PSs X st t:=fun pins s σ H D I hw=>
 wpAny_mono (h pins s σ H D (I.wish _) hw) (fun _ _ q=>q.unwish) fun _ _ z=>False.elim z
def y3p:TS:=fun D σ H=>D.nx σ H
def tSeq(t u:TS):TS:=fun D σ H=>t { D with nx:=u D } σ H
theorem Yrf:PSs X [] y3p:=fun _ _ σ H _ I h=>wpAny_execs_nil ⟨σ,H,I,h⟩
theorem Yg0(h1:PS X st t)(h2:PSs X rest u):PSs X (st::rest) (tSeq t u):=by
 intro pins s σ H D I h
 refine wpAny_execs_cons (thn (h1 pins s σ H { D with nx:=u D } I h) fun f s1 q=>?_)
 cases f with
 | next=>
   obtain⟨σ',H',I',q⟩:=q
   exact h2 pins s1 σ' H' D I' q
 | ret v=>exact q
 | brk=>exact q
 | cont=>exact q
theorem Yxo(h1:PS X st t):PSs X [st] t:=by
 intro pins s σ H D I h
 refine wpAny_execs_cons (thn (h1 pins s σ H D I h) fun f s1 q=>?_)
 cases f with
 | next=>exact wpAny_execs_nil q
 | ret v=>exact q
 | brk=>exact q
 | cont=>exact q
theorem Inv.quiet{pins:List (Addr × Obj)}{σ:St}{H:Hp}{s:Shared}(I:Inv X pins σ H s):interactive X.env=false:=by simp[interactive,I.ok.kind]
def y3q(te:TE):TS:=fun D σ H=>te σ H fun _ H1=>D.nx σ H1
theorem Yhd(he:PE X e te)(hs:swapsWith e none pos.line X.env=pure false:=by rfl):PS X (.Expr e pos) (y3q te):=by
 intro pins s σ H D I h
 refine wpAny_Expr_any (thn (he pins s σ H _ I h) fun v s1 hx_=>?_) I.quiet hs
 obtain⟨x,H1,I1,r1,q1⟩:=hx_
 exact⟨σ,H1,I1,q1⟩
def tRet(te:TE):TS:=fun D σ H=>te σ H D.rt
theorem y0v(he:PE X e te):PS X (.Return (some e) pos) (tRet te):=by
 intro pins s σ H D I h
 refine wpAny_Return_some (thn (he pins s σ H _ I h) fun v s1 hx_=>?_)
 obtain⟨x,H1,I1,r1,q1⟩:=hx_
 exact⟨x,σ,H1,I1,r1,q1⟩
def tIfS(c:TT)(t u:TS):TS:=fun D σ H=>c σ H fun b H1=>if b=true then t D σ H1 else u D σ H1
theorem y0w{c:Expr}{a b:List Stmt}{tc:TT}(hc:PT X c tc)(ha:PSs X a t)(hb:PSs X b u):PS X (.If c a b pos) (tIfS tc t u):=by
 intro pins s σ H D I h
 refine wpAny_If (thn (hc pins s σ H _ I h) fun d s1 hx_=>?_)
 obtain⟨H1,I1,q1⟩:=hx_
 cases d with
 | true=>exact ha pins s1 σ H1 D I1 q1
 | false=>exact hb pins s1 σ H1 D I1 q1
def y0x:TS:=fun _ _ _=>False
theorem Yhe{sts:List Stmt}:PSs X sts y0x:=fun _ _ _ _ _ _ h=>h.elim
end
abbrev TG:=V->St->Hp->(St->Hp->Prop)->Prop
abbrev TGs:=List V->St->Hp->(St->Hp->Prop)->Prop
def PG(X:Cx)(target:Expr)(t:TG):Prop:=
 ∀(pins:List (Addr × Obj)) (s:Shared) (σ:St) (H:Hp) (v:V) (u:Value) (Q:St->Hp->Prop),Inv X pins σ H s->RelV v u->t v σ H Q->
  wpAny (model X.prog X.w) X.A (assign target X.env u) (fun _ s'=>∃σ' H',Inv X pins σ' H' s'/\Q σ' H') X.xe s
def PGs(X:Cx)(ts:List Expr)(t:TGs):Prop:=
 ∀(pins:List (Addr × Obj)) (s:Shared) (σ:St) (H:Hp) (vs:List V) (us:List Value) (Q:St->Hp->Prop),Inv X pins σ H s->Vals vs us->t vs σ H Q->
  wpAny (model X.prog X.w) X.A (assignInOrder ((assignEach ts X.env).map (·.2)) us) (fun _ s'=>∃σ' H',Inv X pins σ' H' s'/\Q σ' H') X.xe s
section
variable {X:Cx} {pos:Pos}
def Yqj(i:Nat):TG:=fun v σ H Q=>Q (σ.set i (some v)) H
theorem Ynw{i:Nat}{x:Str}(hN:X.N.Nodup)(hi:X.N[i]?=some x)(hx:Loc X.env.scope x)(hf:X.fn x=true\/X.env.scope.names.lookup x=some .local:=by first | exact .inl rfl | exact .inr rfl | assumption):PG X (.Name x pos) (Yqj i):=by
 intro pins s σ H v u Q I r h
 exact wpAny_assign_Name (Ykh I hN hi hx r (fun s' I'=>⟨_,H,I',h⟩) hf)
def gNil:TGs:=fun vs σ H Q=>vs=[]/\Q σ H
def y3r(t:TG)(u:TGs):TGs:=fun vs σ H Q=>∃v r,vs=v::r/\t v σ H fun σ' H'=>u r σ' H' Q
theorem Yxp:PGs X [] gNil:=by
 intro pins s σ H vs us Q I r h
 obtain⟨e,h⟩:=h
 subst e
 cases r
 exact assignInOrder_nil ⟨σ,H,I,h⟩
theorem Ypf{e:Expr}{es:List Expr}{t:TG}{u:TGs}(h1:PG X e t)(h2:PGs X es u)
 (hs:(assignEach (e::es) X.env).map (·.2)=assign e X.env::(assignEach es X.env).map (·.2):=by rfl):PGs X (e::es) (y3r t u):=by
 intro pins s σ H vs us Q I r h
 obtain⟨v,vr,e1,h⟩:=h
 subst e1
 cases r with
 | cons r rr=>
   rw[hs]
   refine assignInOrder_cons (thn (h1 pins s σ H _ _ _ I r h) fun _ s1 hx_=>?_)
   obtain⟨σ1,H1,I1,q1⟩:=hx_
   exact h2 pins s1 σ1 H1 _ _ Q I1 rr q1
def gTup(K:W.Frag)(n:Nat)(t:TGs):TG:=fun v σ H Q=>∃a xs,v=.ref a/\SqT K H a xs/\xs.length=n/\t xs σ H Q
theorem y0y{es:List Expr}{k:Nat}{t:TGs}{n:Nat}(hc:X.calm=true)(h:PGs X es t)
 (hn:(assignEach es X.env).length=n:=by rfl) (hst:(assignEach es X.env).findIdx? (·.1)=none:=by rfl):PG X (.Tuple es k pos) (gTup X.K n t):=by
 intro pins s σ H v u Q I r hw
 obtain⟨a,xs,e1,hq,hl,hw⟩:=hw
 subst e1
 cases r
 obtain⟨its,rv,ht,hz⟩:=I.tuple hq
 refine assign_Tuple_tuple (I.ok.hd hc) ht (by simp[hn,<-hl,rv.length]) hst fun h' hx=>?_
 have I1:Inv X pins σ H { s with heap:=h' }:=I.kept (t':=s.toks) fun b o e=>hx b o (ql (qk e)) e
 exact h pins _ σ H xs _ Q I1 (by simpa using rv) hw
def tAsg(te:TE)(g:TG):TS:=fun D σ H=>te σ H fun x H1=>g x σ H1 D.nx
theorem Ywt{i:Nat}{x:Str}{e:Expr}{te:TE}{pos':Pos}(hN:X.N.Nodup)(hi:X.N[i]?=some x)(hx:Loc X.env.scope x)(he:PE X e te)(hs:swapsWith e (some (.Name x pos')) pos.line X.env=pure false:=by rfl)(hf:X.fn x=true\/X.env.scope.names.lookup x=some .local:=by first | exact .inl rfl | exact .inr rfl | assumption) :
 PS X (.Assign [.Name x pos'] e pos) (tAsg te (Yqj i)):=by
 intro pins s σ H D I h
 refine wpAny_Assign_Name (thn (he pins s σ H _ I h) fun v s1 hx_=>?_) hs
 obtain⟨y,H1,I1,r1,q1⟩:=hx_
 exact Ykh I1 hN hi hx r1 (fun s2 I2=>⟨_,H1,I2,q1⟩) hf
end
structure It where
 go:Nat->Hp->Prop
 yld:Nat->Hp->V->Hp->Prop
 stop:Nat->Hp->Prop
def FpOk(X:Cx)(pins:List (Addr × Obj))(H:Hp)(b:Addr):Prop:=
 H b=none/\b≠X.env.locals/\b∉X.fs/\(b∈X.ex\/X.s₀.heap.objs.size<=b)/\(∀x c,X.env.cells.lookup x=some c->c≠b)/\∀p∈X.pn++pins,p.1≠b
theorem Inv.fpOk{X:Cx}{pins:List (Addr × Obj)}{σ:St}{H H':Hp}{s:Shared}{b:Addr}(I:Inv X pins σ H s)(hb:s.heap.objs.size<=b)(hn:H' b=none):FpOk X pins H' b:=by
 refine⟨hn,Nat.ne_of_gt (Qc I.lt hb),I.nofs hb,.inr (Nat.le_trans I.sz hb),fun x c e z=>?_,fun p hp z=>?_⟩
 ·obtain⟨v,q⟩:=I.cell x c e
  exact absurd (Qc q.lt (by rw[z];exact hb)) (Qe _)
 ·exact absurd (Qc (qk (I.pin p hp).1) (by rw[z];exact hb)) (Qe _)
structure Turn(P:Program)(w:World)(K:W.Frag)(tg:Expr)(J:It)(fp:List Addr)(it:Addr)(tn:Nat->Heap->Prop):Prop where
 mem:it∈fp
 obj:∀i h,tn i h->∀b∈fp,∃o,h.get? b=some o/\∀v,o.data≠.cell v
 keep:∀i h h',tn i h->(∀b∈fp,∀o,h.get? b=some o->h'.get? b=some o)->tn i h'
 item:∀(X:Cx),X.prog=P->X.w=w->X.K=K->X.calm=true->∀(i:Nat) (pins:List (Addr × Obj)) (s:Shared) (σ:St) (H:Hp) (E:Value->Shared->Prop),Inv X pins σ H s->(∀b∈fp,FpOk X pins H b)->tn i s.heap->J.go i H->
  wpAny (model P w) X.A (pyNext (.ref it)) (fun r s1=>∃u,r=some u/\
   wpAny (model P w) X.A (letOwnedTupleGo tg (.ref it) u) (fun _ s2=>∃x H',Inv X pins σ H' s2/\RelV x u/\J.yld i H x H'/\tn (i+1) s2.heap/\∀b∈fp,H' b=none) E s1) E s
 done:∀(X:Cx),X.prog=P->X.w=w->X.K=K->X.calm=true->∀(i:Nat) (pins:List (Addr × Obj)) (s:Shared) (σ:St) (H:Hp) (E:Value->Shared->Prop),Inv X pins σ H s->(∀b∈fp,FpOk X pins H b)->tn i s.heap->J.stop i H->
  wpAny (model P w) X.A (pyNext (.ref it)) (fun r s1=>r=none/\Inv X pins σ H s1) E s
 self:∀(A:Around) (i:Nat) (s:Shared) (Q:Value->Shared->Prop) (E:Value->Shared->Prop),tn i s.heap->Q (.ref it) s->wpAny (model P w) A (pyIter (.ref it)) Q E s
abbrev TI:=St->Hp->(It->Hp->Prop)->Prop
def PIE(X:Cx)(pins:List (Addr × Obj))(σ:St)(tg:Expr)(R:It->Hp->Prop)(itv:Value)(s2:Shared):Prop:=
 ∃(it:Addr) (fp:List Addr) (tn:Nat->Heap->Prop) (J:It) (H':Hp),itv=.ref it/\Inv X pins σ H' s2/\Turn X.prog X.w X.K tg J fp it tn/\tn 0 s2.heap/\(∀b∈fp,FpOk X pins H' b)/\R J H'
def PI(X:Cx)(tg iter:Expr)(wi:TI):Prop:=
 ∀(pins:List (Addr × Obj)) (s:Shared) (σ:St) (H:Hp) (R:It->Hp->Prop),Inv X pins σ H s->wi σ H R->
  wpAny (model X.prog X.w) X.A (eval iter X.env) (fun v s1=>wpAny (model X.prog X.w) X.A (pyIter v) (PIE X pins σ tg R) X.xe s1) X.xe s
theorem Yxq{M:Model}{A:Around}{E:Value->Shared->Prop}{s:Shared}{tg:Expr}{it:Addr}{u:Value}{o:Obj}{n:String}{vs:Array Value}{Q:Unit->Shared->Prop}(ho:s.heap.get? it=some o)(hc:o.cls=.type n)(hd:o.data=.fields vs)
 (hn:["enumerate","zip","dict_itemiterator","dict_reverseitemiterator","odict_iterator","itertools.zip_longest","itertools.pairwise"].contains n=false) (hQ:Q () s):wpAny M A (letOwnedTupleGo tg (.ref it) u) Q E s:=by
 unfold letOwnedTupleGo
 cases tg<;>first
  | exact wpAny_pure hQ
  | (cases u<;>first
   | exact wpAny_pure hQ
   | (refine wpAny_bind (wpAny_load ho ?_)
      rw[hc,hd]
      show wpAny M A (if (["enumerate","zip","dict_itemiterator","dict_reverseitemiterator","odict_iterator","itertools.zip_longest","itertools.pairwise"].contains n&&vs[0]?==some (rawInt _))=true then _ else _) Q E s
      rw[if_neg (by intro h;rw[hn,Bool.false_and]at h;cases h)]
      exact wpAny_pure hQ))
def Itl(K:W.Frag)(a:Addr):It:=
 ⟨fun i H=>∃xs x,SqL K H a xs/\xs[i]?=some x,fun i H x H'=>H'=H/\∀xs,SqL K H a xs->xs[i]?=some x,fun i H=>∃xs,SqL K H a xs/\xs.length<=i⟩
def Itt(K:W.Frag)(a:Addr):It:=
 ⟨fun i H=>∃xs x,SqT K H a xs/\xs[i]?=some x,fun i H x H'=>H'=H/\∀xs,SqT K H a xs->xs[i]?=some x,fun i H=>∃xs,SqT K H a xs/\xs.length<=i⟩
def Itr(lo:Int)(n:Nat):It:=⟨fun i _=>i < n,fun i H x H'=>H'=H/\x=.int (lo+i),fun i _=>n<=i⟩
theorem Yrg{P:Program}{w:World}{K:W.Frag}{tg:Expr}(a it:Addr):Turn P w K tg (Itl K a) [it] it (fun i h=>h.IsListIter it a i) where
 mem:=by simp
 obj:=fun i h st b hb=>by
  have e:b=it:=by simpa using hb
  subst e
  obtain⟨o,e,c,d⟩:=st
  exact⟨o,e,fun v z=>by rw[d]at z;cases z⟩
 keep:=fun i h h' st k=>st.at fun o e=>k it (by simp) o e
 item:=by
  intro X hP hw hK hc i pins s σ H E I hf st hg
  subst hP hw hK
  obtain⟨xs,x,hq,hx⟩:=hg
  obtain⟨its,rv,p,hz⟩:=I.list hq
  obtain⟨u,hu,ru⟩:=rv.get hx
  obtain⟨f0,f1,f2,f3,f4,f5⟩:=hf it (by simp)
  refine wpAny_pyNext_list_item st p.isList (x:=u) (by simpa using hu) fun h' st' sb=>?_
  have I1:Inv X pins σ H { s with heap:=h' }:=I.turned (t':=s.toks) (fun b o hb e=>(sb.2 b hb).trans e) f0 f1 f3 f4 f5
  obtain⟨o,e,c,d⟩:=id st'
  exact⟨u,rfl,Yxq (s:={ s with heap:=h' }) e c d (by decide) ⟨x,H,I1,ru,⟨rfl,fun ys hy=>by rw[I.list_inj hy hq];exact hx⟩,st',fun b hb=>(hf b hb).1⟩⟩
 done:=by
  intro X hP hw hK hc i pins s σ H E I hf st hg
  subst hP hw hK
  obtain⟨xs,hq,hx⟩:=hg
  obtain⟨its,rv,p,hz⟩:=I.list hq
  obtain⟨f0,f1,f2,f3,f4,f5⟩:=hf it (by simp)
  have hl:=rv.length
  exact wpAny_pyNext_list_end (I.ok.hd hc) st p.isList (by simp;lia) fun h' eb=>⟨rfl,I.turned (t':=s.toks) (fun b o hb e=>eb b o hb e) f0 f1 f3 f4 f5⟩
 self:=fun _ _ _ _ _ st h=>wpAny_pyIter_listiter st h
theorem Yqk{P:Program}{w:World}{K:W.Frag}{tg:Expr}(a it:Addr):Turn P w K tg (Itt K a) [it] it (fun i h=>h.IsTupleIter it a i) where
 mem:=by simp
 obj:=fun i h st b hb=>by
  have e:b=it:=by simpa using hb
  subst e
  obtain⟨o,e,c,d⟩:=st
  exact⟨o,e,fun v z=>by rw[d]at z;cases z⟩
 keep:=fun i h h' st k=>st.at fun o e=>k it (by simp) o e
 item:=by
  intro X hP hw hK hc i pins s σ H E I hf st hg
  subst hP hw hK
  obtain⟨xs,x,hq,hx⟩:=hg
  obtain⟨its,rv,p,hz⟩:=I.tuple hq
  obtain⟨u,hu,ru⟩:=rv.get hx
  obtain⟨f0,f1,f2,f3,f4,f5⟩:=hf it (by simp)
  refine wpAny_pyNext_tuple_item st (show s.heap.IsTuple a its.toArray from p) (x:=u) (by simpa using hu) fun h' st' sb=>?_
  have I1:Inv X pins σ H { s with heap:=h' }:=I.turned (t':=s.toks) (fun b o hb e=>(sb.2 b hb).trans e) f0 f1 f3 f4 f5
  obtain⟨o,e,c,d⟩:=id st'
  exact⟨u,rfl,Yxq (s:={ s with heap:=h' }) e c d (by decide) ⟨x,H,I1,ru,⟨rfl,fun ys hy=>by rw[I.tuple_inj hy hq];exact hx⟩,st',fun b hb=>(hf b hb).1⟩⟩
 done:=by
  intro X hP hw hK hc i pins s σ H E I hf st hg
  subst hP hw hK
  obtain⟨xs,hq,hx⟩:=hg
  obtain⟨its,rv,p,hz⟩:=I.tuple hq
  obtain⟨f0,f1,f2,f3,f4,f5⟩:=hf it (by simp)
  have hl:=rv.length
  exact wpAny_pyNext_tuple_end (I.ok.hd hc) st (show s.heap.IsTuple a its.toArray from p) (by simp;lia) fun h' eb=>⟨rfl,I.turned (t':=s.toks) (fun b o hb e=>eb b o hb e) f0 f1 f3 f4 f5⟩
 self:=fun _ _ _ _ _ st h=>wpAny_pyIter_tupleiter st h
theorem Yql{P:Program}{w:World}{K:W.Frag}{tg:Expr}(it:Addr)(lo:Int)(n:Nat):Turn P w K tg (Itr lo n) [it] it (fun i h=>IsRangeIter h it (lo+(i:Nat) * 1) ((n:Int) - (i:Nat)) 1) where
 mem:=by simp
 obj:=fun i h st b hb=>by
  have e:b=it:=by simpa using hb
  subst e
  exact⟨_,st,fun v z=>by
   have z':Data.fields _=Data.cell v:=z
   cases z'⟩
 keep:=fun i h h' st k=>k it (by simp) _ st
 item:=by
  intro X hP hw hK hc i pins s σ H E I hf st hg
  subst hP hw hK
  obtain⟨f0,f1,f2,f3,f4,f5⟩:=hf it (by simp)
  have W:=Walks.range (prog:=X.prog) (w:=X.w) (I.ok.hd hc) it lo 1 n
  refine W.item i s _ _ hg st fun v h' tk hv st' kk=>?_
  obtain⟨t,rfl⟩:=hv
  have I1:Inv X pins σ H { s with heap:=h',toks:=tk }:=I.turned (fun b o hb e=>kk b o (by simpa using hb) e) f0 f1 f3 f4 f5
  refine⟨_,rfl,Yxq (s:={ s with heap:=h',toks:=tk }) (n:="range_iterator") st' rfl rfl (by decide) ⟨.int (lo+i),H,I1,⟨t,?_⟩,⟨rfl,rfl⟩,st',fun b hb=>(hf b hb).1⟩⟩
  rw[Int.mul_one]
 done:=by
  intro X hP hw hK hc i pins s σ H E I hf st hg
  subst hP hw hK
  obtain⟨f0,f1,f2,f3,f4,f5⟩:=hf it (by simp)
  exact wpAny_pyNext_range_end (I.ok.hd hc) st (by have:n<=i:=hg;lia) fun h' eb=>⟨rfl,I.turned (t':=s.toks) (fun b o hb e=>eb b o hb e) f0 f1 f3 f4 f5⟩
 self:=fun _ _ _ _ _ st h=>wpAny_pyIter_rangeiter st h
end L2
namespace L2
open PySem PySem.Spec PyProof.Rows
section
variable {X:Cx} {tg:Expr}
theorem Yu1{pins:List (Addr × Obj)}{σ:St}{H:Hp}{s:Shared}{R:It->Hp->Prop}{E:Value->Shared->Prop}{lo hi:Int}{t u v:Tok}{tk:Nat}(I:Inv X pins σ H s)(h1:-(2 ^ 62)<=lo)(h2:lo < 2 ^ 62)(h3:-(2 ^ 62)<=hi)(h4:hi < 2 ^ 62)
 (q:R (Itr lo (hi - lo).toNat) H):wpAny (model X.prog X.w) X.A (pyIter (.ref s.heap.objs.size)) (PIE X pins σ tg R) E { s with heap:=s.heap.push { cls:=.type "range",data:=.fields #[.int lo t,.int hi u,.int 1 v] },toks:=tk }:=by
 refine wpAny_pyIter_range (IsRange.new ..) (small_one h1 h2 h3 h4) ?_
 have I1:Inv X pins σ H { s with heap:=s.heap.push { cls:=.type "range",data:=.fields #[.int lo t,.int hi u,.int 1 v] },toks:=tk }:=I.kept fun b o e=>qd _ e
 refine⟨(s.heap.push { cls:=.type "range",data:=.fields #[.int lo t,.int hi u,.int 1 v] }).objs.size,[(s.heap.push { cls:=.type "range",data:=.fields #[.int lo t,.int hi u,.int 1 v] }).objs.size],_,_,H,rfl,
  I1.kept (t':=tk) fun b o e=>qd _ e,Yql _ lo (hi - lo).toNat,?_,fun b hb=>?_,q⟩
 ·have e1:lo+((0:Nat):Int) * 1=lo:=by simp
  have e2:(((hi - lo).toNat:Nat):Int) - ((0:Nat):Int)=Builtin.Range.rangeSize lo hi 1:=by rw[rangeSize_one];split<;>lia
  show IsRangeIter _ _ (lo+((0:Nat):Int) * 1) ((((hi - lo).toNat:Nat):Int) - ((0:Nat):Int)) 1
  rw[e1,e2]
  exact qo _ rfl
 ·have e:b=(s.heap.push { cls:=.type "range",data:=.fields #[.int lo t,.int hi u,.int 1 v] }).objs.size:=by simpa using hb
  subst e
  exact I1.fpOk (qt _) (I1.hok.fresh (qt _))
def y3s(ta:TA):TI:=fun σ H R=>ta σ H fun vs H1=>∃j:Int,vs=[.int j]/\-(2 ^ 62)<=j/\j < 2 ^ 62/\R (Itr 0 j.toNat) H1
theorem Yrh{a:Expr}{ta:TA}{p pos:Pos}(hg:Gl X "range")(hm:X.mg "range"=none)(ha:PA X [a] ta)(hs:starEach [a] X.env=[(false,eval a X.env)]:=by rfl):PI X tg (.Call (.Name "range" p) [a] [] pos) (y3s ta):=by
 intro pins s σ H R I h
 refine Call_ (Yhc I hg hm boot_range (PyProof.Rows.callWith_type1 (thn (ha pos pins s σ H _ I h) fun us s1 hx_=>?_) hs rfl))
 obtain⟨vs,H1,I1,r1,q1⟩:=hx_
 obtain⟨j,e,q1,q2,q⟩:=q1
 subst e
 cases r1 with
 | cons r rr=>
   cases rr
   obtain⟨t,rfl⟩:=r
   exact call_range_1 (Yu1 I1 (by lia) (by lia) q1 q2 (by simpa using q))
def tFor(wi:TI)(g:TG)(tb:TS):TS:=fun D σ H=>wi σ H fun J H1=>∃W:Nat->Nat->St->Hp->Prop,(∃m,W 0 m σ H1)/\∀i m σ H,W i m σ H->
 (J.stop i H/\D.nx σ H)\/(J.go i H/\∃N:St->Hp->Prop,(∀σ' H',N σ' H'->∃m',m' < m/\W (i+1) m' σ' H')/\∀x H',J.yld i H x H'->g x σ H' fun σ2 H2=>tb { D with nx:=N,ct:=N,bk:=D.nx } σ2 H2)
def Ylt(fp:List Addr)(h:Heap):List (Addr × Obj):=fp.filterMap fun b=>(h.get? b).map fun o=>(b,o)
theorem Yd0{fp:List Addr}{h:Heap}{b:Addr}{o:Obj}(hb:b∈fp)(e:h.get? b=some o):(b,o)∈Ylt fp h:=List.mem_filterMap.mpr ⟨b,hb,by rw[e];rfl⟩
theorem Yri{fp:List Addr}{h:Heap}{p:Addr × Obj}(hp:p∈Ylt fp h):p.1∈fp/\h.get? p.1=some p.2:=by
 obtain⟨b,hb,e⟩:=List.mem_filterMap.mp hp
 cases q:h.get? b with
 | none=>rw[q]at e;cases e
 | some o=>
   rw[q]at e
   have e':(b,o)=p:=Option.some.inj e
   subst e'
   exact⟨hb,q⟩
theorem Inv.pinned{pins:List (Addr × Obj)}{σ:St}{H:Hp}{s:Shared}{fp:List Addr}(I:Inv X pins σ H s)(hf:∀b∈fp,FpOk X pins H b)(ho:∀b∈fp,∃o,s.heap.get? b=some o/\∀v,o.data≠.cell v):Inv X (pins++Ylt fp s.heap) σ H s:=
 I.pins_of fun p hp=>(qu hp).elim (fun z=>I.pin p (Qh _ z)) fun z=>by
  obtain⟨hb,e⟩:=Yri z
  obtain⟨f0,f1,f2,_⟩:=hf p.1 hb
  obtain⟨o,e',d⟩:=ho p.1 hb
  rw[e]at e';cases e'
  exact⟨e,f0,f1,f2,d⟩
theorem Inv.unpinned{pins pl:List (Addr × Obj)}{σ:St}{H:Hp}{s:Shared}(I:Inv X (pins++pl) σ H s):Inv X pins σ H s:=I.pins_of fun p hp=>I.pin p (Qh _ (List.mem_append_left _ hp))
theorem y0z{iter:Expr}{body:List Stmt}{wi:TI}{g:TG}{tb:TS}{pos:Pos}(hp:PassesOwn (model X.prog X.w) X.A X.env X.xe)(hc:X.calm=true)(hi:PI X tg iter wi)(hg:PG X tg g)(hb:PSs X body tb)
 (hs:∀x,foldedSetIterable iter X.env x=pure x:=by intro _;rfl):PS X (.For tg iter body [] pos) (tFor wi g tb):=by
 intro pins s σ H D I h
 refine wpAny_For (thn (hi pins s σ H _ I h) fun v s1 h1=>thn h1 fun itv s2 h2=>?_) hs
 obtain⟨it,fp,tn,J,H2,e,I2,T,st2,f2,W,⟨m0,w0⟩,turn⟩:=h2
 subst e
 have stat:∀{H':Hp},(∀b∈fp,H' b=none)->∀b∈fp,FpOk X pins H' b:=fun hn b hb=>⟨hn b hb,(f2 b hb).2⟩
 refine codeAny_forLoop_any (fun n s'=>∃i σ' H',Inv X pins σ' H' s'/\tn i s'.heap/\(∀b∈fp,H' b=none)/\W i n σ' H') ?_ m0 ⟨0,σ,H2,I2,st2,fun b hb=>(f2 b hb).1,w0⟩
 rintro n s3 ⟨i,σ3,H3,I3,st3,fr3,w3⟩
 rcases turn i n σ3 H3 w3 with⟨stop,qn⟩ | ⟨go,N,hN,step⟩
 ·refine wpAny_passesOwn hp (thn (T.done X rfl rfl rfl hc i pins s3 σ3 H3 X.xe I3 (stat fr3) st3 stop) fun r s4 hx_=>?_)
  obtain⟨hr,I4⟩:=hx_
  subst hr
  exact wpAny_execs_nil ⟨σ3,H3,I4,qn⟩
 ·refine wpAny_passesOwn hp (thn (T.item X rfl rfl rfl hc i pins s3 σ3 H3 X.xe I3 (stat fr3) st3 go) fun r s4 hx_=>?_)
  obtain⟨u,hr,h4⟩:=hx_
  subst hr
  refine wpAny_passesOwn hp (thn h4 fun _ s5 hx_=>?_)
  obtain⟨x,H5,I5,r5,y5,st5,fr5⟩:=hx_
  have I5':=I5.pinned (stat fr5) (T.obj _ _ st5)
  refine wpAny_passesOwn hp (thn (hg _ s5 σ3 H5 x u _ I5' r5 (step x H5 y5)) fun _ s6 hx_=>?_)
  obtain⟨σ6,H6,I6,q6⟩:=hx_
  refine wpAny_passesOwn hp (thn (hb _ s6 σ6 H6 _ I6 q6) fun f s7 q7=>?_)
  have again:∀{σ7:St} {H7:Hp},Inv X (pins++Ylt fp s5.heap) σ7 H7 s7->N σ7 H7->∃m,m < n/\∃i σ' H',Inv X pins σ' H' s7/\tn i s7.heap/\(∀b∈fp,H' b=none)/\W i m σ' H':=fun {σ7 H7} I7 n7=>by
   obtain⟨m',hm,w7⟩:=hN σ7 H7 n7
   refine⟨m',hm,i+1,σ7,H7,I7.unpinned,T.keep _ _ _ st5 fun b hb o e=>(I7.pin (b,o) (Qh _ (Qh _ (Yd0 hb e)))).1,fun b hb=>?_,w7⟩
   obtain⟨o,e,d⟩:=T.obj _ _ st5 b hb
   exact(I7.pin (b,o) (Qh _ (Qh _ (Yd0 hb e)))).2.1
  cases f with
  | next=>obtain⟨σ7,H7,I7,n7⟩:=q7;exact again I7 n7
  | cont=>obtain⟨σ7,H7,I7,n7⟩:=q7;exact again I7 n7
  | brk=>obtain⟨σ7,H7,I7,q7⟩:=q7;exact⟨σ7,H7,I7.unpinned,q7⟩
  | ret v=>obtain⟨x7,σ7,H7,I7,r7,q7⟩:=q7;exact⟨x7,σ7,H7,I7.unpinned,r7,q7⟩
end
end L2
namespace L2
open PySem PySem.Spec PyProof.Rows
abbrev R2:=V->V->Hp->VK->Prop
def OpR(X:Cx)(f:Value->Value->Sem Value)(r:R2):Prop:=
 ∀(pins:List (Addr × Obj)) (s:Shared) (σ:St) (H:Hp) (x y:V) (v u:Value) (Q:VK),Inv X pins σ H s->RelV x v->RelV y u->r x y H Q->
  wpAny (model X.prog X.w) X.A (f v u) (EP X pins σ Q) X.xe s
def UnR(X:Cx)(f:Value->Sem Value)(r:V->Hp->VK->Prop):Prop:=
 ∀(pins:List (Addr × Obj)) (s:Shared) (σ:St) (H:Hp) (x:V) (v:Value) (Q:VK),Inv X pins σ H s->RelV x v->r x H Q->
  wpAny (model X.prog X.w) X.A (f v) (EP X pins σ Q) X.xe s
def Yb5(X:Cx)(f:Value)(r:List V->Hp->VK->Prop):Prop:=
 ∀(pins:List (Addr × Obj)) (s:Shared) (σ:St) (H:Hp) (xs:List V) (us:List Value) (Q:VK),Inv X pins σ H s->Vals xs us->r xs H Q->
  wpAny (model X.prog X.w) X.A (call f us) (EP X pins σ Q) X.xe s
def TruR(X:Cx)(r:V->Hp->(Bool->Hp->Prop)->Prop):Prop:=
 ∀(pins:List (Addr × Obj)) (s:Shared) (σ:St) (H:Hp) (x:V) (v:Value) (Q:Bool->Hp->Prop),Inv X pins σ H s->RelV x v->r x H Q->
  wpAny (model X.prog X.w) X.A (truthy v) (TP X pins σ Q) X.xe s
def tOp(r:R2)(ta tb:TE):TE:=fun σ H Q=>ta σ H fun x H1=>tb σ H1 fun y H2=>r x y H2 Q
def tUn(r:V->Hp->VK->Prop)(ta:TE):TE:=fun σ H Q=>ta σ H fun x H1=>r x H1 Q
def rI(C:Int->Int->Prop)(g:Int->Int->V):R2:=fun x y H Q=>∃i j,x=.int i/\y=.int j/\C i j/\Q (g i j) H
def rI0(g:Int->Int->V):R2:=fun x y H Q=>∃i j,x=.int i/\y=.int j/\Q (g i j) H
def rU(g:Int->V):V->Hp->VK->Prop:=fun x H Q=>∃i,x=.int i/\Q (g i) H
section
variable {X:Cx} {a b c:Expr} {ta tb tc:TE} {pos:Pos}
theorem binT(ha:PE X a ta)(hb:PE X b tb){pins:List (Addr × Obj)}{s:Shared}{σ:St}{H:Hp}{R:V->V->Hp->Prop}(I:Inv X pins σ H s)
 (h:ta σ H fun x H1=>tb σ H1 fun y H2=>R x y H2) {Q:Value->Shared->Prop} {f:Value->Value->Sem Value}
 (hf:∀v u s2 x y H2,Inv X pins σ H2 s2->RelV x v->RelV y u->R x y H2->wpAny (model X.prog X.w) X.A (f v u) Q X.xe s2) :
 wpAny (model X.prog X.w) X.A (eval a X.env) (fun v s₁=>wpAny (model X.prog X.w) X.A (eval b X.env) (fun u s₂=>wpAny (model X.prog X.w) X.A (f v u) Q X.xe s₂) X.xe s₁) X.xe s:=by
 refine thn (ha pins s σ H _ I h) fun v s1 hx_=>?_
 obtain⟨x,H1,I1,r1,q1⟩:=hx_
 refine thn (hb pins s1 σ H1 _ I1 q1) fun u s2 hx_=>?_
 obtain⟨y,H2,I2,r2,q2⟩:=hx_
 exact hf v u s2 x y H2 I2 r1 r2 q2
theorem Yxr{op:Operator}{r:R2}(ho:OpR X (binaryOp op) r)(ha:PE X a ta)(hb:PE X b tb):PE X (.BinOp a op b pos) (tOp r ta tb):=by
 intro pins s σ H Q I h
 exact wpAny_BinOp (binT ha hb I h fun v u s2 x y H2 I2 rx ry q=>ho pins s2 σ H2 x y v u Q I2 rx ry q)
theorem y3t{op:UnaryOp}{r:V->Hp->VK->Prop}(ho:UnR X (unaryOp op) r)(ha:PE X a ta):PE X (.UnaryOp op a pos) (tUn r ta):=by
 intro pins s σ H Q I h
 refine UnaryOp_ (thn (ha pins s σ H _ I h) fun v s1 hx_=>?_)
 obtain⟨x,H1,I1,r1,q1⟩:=hx_
 exact ho pins s1 σ H1 x v Q I1 r1 q1
theorem opI{f:Value->Value->Sem Value}{C:Int->Int->Prop}{g:Int->Int->Int}
 (rule:∀(i j:Int) (t u:Tok) (s:Shared) (Q:Value->Shared->Prop) (E:Value->Shared->Prop),C i j->Q (.int (g i j) s.toks) { s with toks:=s.toks+1 }->wpAny (model X.prog X.w) X.A (f (.int i t) (.int j u)) Q E s) :
 OpR X f (rI C fun i j=>.int (g i j)):=by
 intro pins s σ H x y v u Q I rx ry h
 obtain⟨i,j,rfl,rfl,hc,q⟩:=h
 obtain⟨t,rfl⟩:=rx
 obtain⟨t',rfl⟩:=ry
 exact rule i j t t' s _ _ hc ⟨.int (g i j),H,I.tok _,⟨_,rfl⟩,q⟩
theorem opI0{f:Value->Value->Sem Value}{g:Int->Int->Int}
 (rule:∀(i j:Int) (t u:Tok) (s:Shared) (Q:Value->Shared->Prop) (E:Value->Shared->Prop),Q (.int (g i j) s.toks) { s with toks:=s.toks+1 }->wpAny (model X.prog X.w) X.A (f (.int i t) (.int j u)) Q E s) :
 OpR X f (rI0 fun i j=>.int (g i j)):=by
 intro pins s σ H x y v u Q I rx ry h
 obtain⟨i,j,rfl,rfl,q⟩:=h
 obtain⟨t,rfl⟩:=rx
 obtain⟨t',rfl⟩:=ry
 exact rule i j t t' s _ _ ⟨.int (g i j),H,I.tok _,⟨_,rfl⟩,q⟩
theorem opB0{f:Value->Value->Sem Value}{g:Int->Int->Bool}
 (rule:∀(i j:Int) (t u:Tok) (s:Shared) (Q:Value->Shared->Prop) (E:Value->Shared->Prop),Q (.bool (g i j)) s->wpAny (model X.prog X.w) X.A (f (.int i t) (.int j u)) Q E s) :
 OpR X f (rI0 fun i j=>.bl (g i j)):=by
 intro pins s σ H x y v u Q I rx ry h
 obtain⟨i,j,rfl,rfl,q⟩:=h
 obtain⟨t,rfl⟩:=rx
 obtain⟨t',rfl⟩:=ry
 exact rule i j t t' s _ _ ⟨.bl (g i j),H,I,rfl,q⟩
def CDiv(i j:Int):Prop:=0 < j/\j < 1073741824
def CPow(i j:Int):Prop:=0<=j/\j<=1000000/\i.natAbs < 2 ^ 64
def CMul(i j:Int):Prop:=(-(2 ^ 64) < i/\i < 2 ^ 64)\/(-(2 ^ 64) < j/\j < 2 ^ 64)
theorem CMul.ok{i j:Int}(h:CMul i j):IntMulOk i j:=by
 rcases h with⟨h1,h2⟩ | ⟨h1,h2⟩
 ·exact .of_left (intBits_le_64 h1 h2)
 ·exact .of_right (intBits_le_64 h1 h2)
theorem y00:OpR X (binaryOp .Add) (rI0 fun i j=>.int (i+j)):=opI0 fun _ _ _ _ _ _ _ q=>add_int q
theorem y01:OpR X (binaryOp .Sub) (rI0 fun i j=>.int (i - j)):=opI0 fun _ _ _ _ _ _ _ q=>sub_int q
theorem y02:OpR X (binaryOp .Mult) (rI CMul fun i j=>.int (i * j)):=opI fun _ _ _ _ _ _ _ hc q=>mul_int q hc.ok
theorem Yxs:OpR X (binaryOp .FloorDiv) (rI CDiv fun i j=>.int (i / j)):=opI fun i j _ _ _ _ _ hc q=>by
 have h1:(0:Int) < j:=hc.1
 have h2:j < 1073741824:=hc.2
 exact floordiv_int (by lia) (by rw[Int.fdiv_eq_ediv_of_nonneg i (by lia)];exact q) (.inl (PyProof.noPylong_small (by lia)))
theorem y03:OpR X (binaryOp .Mod) (rI (fun _ j=>0 < j) fun i j=>.int (i % j)):=opI fun i j _ _ _ _ _ hc q=>by
 have h1:(0:Int) < j:=hc
 exact mod_int' (by lia) (by rw[Int.fmod_eq_emod_of_nonneg i (by lia)];exact q)
theorem y04:OpR X (binaryOp .Pow) (rI CPow fun i j=>.int (i ^ j.toNat)):=opI fun _ _ _ _ _ _ _ hc q=>pow_int_small hc.1 hc.2.1 hc.2.2 q
theorem unI{f:Value->Sem Value}{g:Int->Int}
 (rule:∀(i:Int) (t:Tok) (s:Shared) (Q:Value->Shared->Prop) (E:Value->Shared->Prop),Q (.int (g i) s.toks) { s with toks:=s.toks+1 }->wpAny (model X.prog X.w) X.A (f (.int i t)) Q E s) :
 UnR X f (rU fun i=>.int (g i)):=by
 intro pins s σ H x v Q I rx h
 obtain⟨i,rfl,q⟩:=h
 obtain⟨t,rfl⟩:=rx
 exact rule i t s _ _ ⟨.int (g i),H,I.tok _,⟨_,rfl⟩,q⟩
theorem y05:UnR X (unaryOp .USub) (rU fun i=>.int (-i)):=unI fun _ _ _ _ _ q=>neg_int q
theorem Ywu{pins:List (Addr × Obj)}{σ:St}{H:Hp}{s:Shared}{Q:VK}{k k':Bool}(I:Inv X pins σ H s)(q:Q (.bl k) H)(e:k=k'):EP X pins σ Q (.bool k') s:=by
 subst e
 exact⟨.bl k,H,I,rfl,q⟩
theorem y06:OpR X (compareOp .Lt) (rI0 fun i j=>.bl (decide (i < j))):=opB0 fun _ _ _ _ _ _ _ q=>lt_int q
theorem Yxt:OpR X (compareOp .LtE) (rI0 fun i j=>.bl (decide (i<=j))):=opB0 fun _ _ _ _ _ _ _ q=>le_int q
theorem y3u:OpR X (compareOp .Gt) (rI0 fun i j=>.bl (decide (j < i))):=opB0 fun _ _ _ _ _ _ _ q=>gt_int q
theorem y3v:OpR X (compareOp .GtE) (rI0 fun i j=>.bl (decide (j<=i))):=opB0 fun _ _ _ _ _ _ _ q=>ge_int q
theorem y07:OpR X (compareOp .Is) (fun x y H Q=>y=.non/\Q (.bl (decide (x=.non))) H):=by
 intro pins s σ H x y v u Q I rx ry h
 obtain⟨rfl,q⟩:=h
 cases ry
 refine is_none_gen (Ywu I q ?_)
 cases x<;>first
  | (cases rx;rfl)
  | (obtain⟨t,rfl⟩:=rx;rfl)
theorem Yrj:OpR X (compareOp .IsNot) (fun x y H Q=>y=.non/\Q (.bl (!decide (x=.non))) H):=by
 intro pins s σ H x y v u Q I rx ry h
 obtain⟨rfl,q⟩:=h
 cases ry
 refine isnot_none_gen (Ywu I q ?_)
 cases x<;>first
  | (cases rx;rfl)
  | (obtain⟨t,rfl⟩:=rx;rfl)
theorem Ydl(b:Expr){op:CmpOp}(h:op≠.In:=by decide)(h2:op≠.NotIn:=by decide):behindInMarks op b=false:=by
 have e1:(op==CmpOp.In)=false:=by cases op<;>first | rfl | exact absurd rfl h
 have e2:(op==CmpOp.NotIn)=false:=by cases op<;>first | rfl | exact absurd rfl h2
 cases b with
 | Set elts k p=>
   show((k==0)&&((op==CmpOp.In)||(op==CmpOp.NotIn))&&_)=false
   rw[e1,e2]
   cases (k==0)<;>rfl
 | _=>rfl
theorem Yxu{op:CmpOp}{r:R2}(ho:OpR X (compareOp op) r)(ha:PE X a ta)(hb:PE X b tb)(hm:behindInMarks op b=false):PE X (.Compare a [op] [b] pos) (tOp r ta tb):=by
 intro pins s σ H Q I h
 exact wpAny_Compare1 (binT ha hb I h fun v u s2 x y H2 I2 rx ry q=>ho pins s2 σ H2 x y v u Q I2 rx ry q) hm
def y08(t:TE):TT:=fun σ H Q=>t σ H fun x H'=>∃k,x=.bl k/\Q k H'
theorem Yrk{op:CmpOp}{r:R2}(ho:OpR X (compareOp op) r)(ha:PE X a ta)(hb:PE X b tb)(hm:behindInMarks op b=false):PT X (.Compare a [op] [b] pos) (y08 (tOp r ta tb)):=by
 intro pins s σ H Q I h
 refine wpAny_isTrue_Compare1 (thn (ha pins s σ H _ I h) fun v s1 hx_=>?_) hm
 obtain⟨x,H1,I1,r1,q1⟩:=hx_
 refine thn (hb pins s1 σ H1 _ I1 q1) fun u s2 hx_=>?_
 obtain⟨y,H2,I2,r2,q2⟩:=hx_
 refine thn (ho pins s2 σ H2 x y v u _ I2 r1 r2 q2) fun c s3 hx_=>?_
 obtain⟨z,H3,I3,r3,k,e,q3⟩:=hx_
 subst e
 cases r3
 exact wpAny_truthy_bool ⟨H3,I3,q3⟩
def y09(r r':R2)(ta tb tc:TE):TE:=fun σ H Q=>ta σ H fun x H1=>tb σ H1 fun y H2=>r x y H2 fun z H3=>∃k,z=.bl k/\
 (if k=true then tc σ H3 fun w' H4=>r' y w' H4 Q else Q (.bl false) H3)
theorem Yu2{op op':CmpOp}{r r':R2}(ho:OpR X (compareOp op) r)(ho':OpR X (compareOp op') r')(ha:PE X a ta)(hb:PE X b tb)(hc:PE X c tc)
 (hm:lastMarks [op,op'] [b,c]=false:=by with_unfolding_all rfl):PE X (.Compare a [op,op'] [b,c] pos) (y09 r r' ta tb tc):=by
 intro pins s σ H Q I h
 refine Compare_chain (thn (ha pins s σ H _ I h) fun v s1 hx_=>?_) hm
 obtain⟨x,H1,I1,r1,q1⟩:=hx_
 refine chain_link (thn (hb pins s1 σ H1 _ I1 q1) fun u s2 hx_=>?_)
 obtain⟨y,H2,I2,r2,q2⟩:=hx_
 refine thn (ho pins s2 σ H2 x y v u _ I2 r1 r2 q2) fun d s3 hx_=>?_
 obtain⟨z,H3,I3,r3,k,e,q3⟩:=hx_
 subst e
 cases r3
 refine wpAny_truthy_bool ?_
 cases k with
 | false=>exact ite_ff ⟨.bl false,H3,I3,rfl,q3⟩
 | true=>
   refine ite_tt (chain_last (thn (hc pins s3 σ H3 _ I3 q3) fun w' s4 hx_=>?_))
   obtain⟨z',H4,I4,r4,q4⟩:=hx_
   exact ho' pins s4 σ H4 y z' u w' Q I4 r2 r4 q4
def TruV(K:W.Frag)(x:V)(H:Hp)(k:Bool):Prop:=
 match x with
 | .non=>k=false
 | .bl b=>k=b
 | .int i=>k=(i != 0)
 | .str y=>y.length<=sizeLine/\k=((y.length:Int) != 0)
 | .byt y=>y.size<=sizeLine/\k=((y.size:Int) != 0)
 | .ref p=>(∃xs,SqL K H p xs/\k=!xs.isEmpty)\/(∃xs,SqT K H p xs/\k=!xs.isEmpty)\/∃kvs,H p=some (.dK kvs)/\k=!kvs.isEmpty
 | _=>False
theorem Yqm{κ:Type}{kvs:List (κ × V)}{vs:List (κ × Value)}(r:KV kvs vs):(!vs.isEmpty)=!kvs.isEmpty:=by
 cases r<;>rfl
theorem Yjy{xs:List V}{its:List Value}(r:Vals xs its):(!its.toArray.isEmpty)=!xs.isEmpty:=by
 cases r<;>simp
theorem Ylu:(sizeLine:Nat) < 2 ^ 63:=by rw[sizeLine_eq];decide
theorem y1a:TruR X (fun x H Q=>∃k,TruV X.K x H k/\Q k H):=by
 intro pins s σ H x v Q I rx h
 obtain⟨k,e,q⟩:=h
 have hl:=Ylu
 have hs:sizeLine=16777216:=sizeLine_eq
 cases x with
 | non=>
   cases rx
   have e':k=false:=e
   subst e'
   exact truthy_none ⟨H,I,q⟩
 | bl b=>
   cases rx
   have e':k=b:=e
   subst e'
   exact wpAny_truthy_bool ⟨H,I,q⟩
 | int i=>
   obtain⟨t,rfl⟩:=rx
   have e':k=(i != 0):=e
   subst e'
   exact PySem.P.truthy_int ⟨H,I,q⟩
 | str y=>
   obtain⟨t,rfl⟩:=rx
   obtain⟨hy,e'⟩:y.length<=sizeLine/\k=((y.length:Int) != 0):=e
   subst e'
   exact PySem.P.truthy_str (by lia) ⟨H,I.tok _,q⟩
 | byt y=>
   obtain⟨t,rfl⟩:=rx
   obtain⟨hy,e'⟩:y.size<=sizeLine/\k=((y.size:Int) != 0):=e
   subst e'
   exact W.truthy_bytes (by lia) ⟨H,I.tok _,q⟩
 | ref p=>
   cases rx
   have e':(∃xs,SqL X.K H p xs/\k=!xs.isEmpty)\/(∃xs,SqT X.K H p xs/\k=!xs.isEmpty)\/∃kvs,H p=some (.dK kvs)/\k=!kvs.isEmpty:=e
   rcases e' with⟨xs,hx,e'⟩ | ⟨xs,hx,e'⟩ | ⟨kvs,hx,e'⟩
   ·subst e'
    obtain⟨its,r,pl,hz⟩:=I.list hx
    have hlen:=r.length
    exact wpAny_truthy_list pl.isList (by simp only[qj];lia) ⟨H,I.tok _,by rw[Yjy r];exact q⟩
   ·subst e'
    obtain⟨its,r,pl,hz⟩:=I.tuple hx
    have hlen:=r.length
    exact truthy_tuple pl (by simp only[qj];lia) ⟨H,I.tok _,by rw[Yjy r];exact q⟩
   ·subst e'
    obtain⟨hz,hS,vs,r,m⟩:kvs.length<=sizeLine/\(p==sysModules)=false/\∃vs,KV kvs vs/\s.heap.DictOf (Ynu X.prog X.w) p vs:=I.hok p _ hx
    have hlen:kvs.length=vs.length:=Paired.length r
    exact wpAny_truthy_dict hS m (by lia) ⟨H,I.tok _,by rw[Yqm r];exact q⟩
 | _=>exact(show False from e).elim
theorem Yu3(ha:PE X a ta)(he:∀whole,isTrue a X.env whole=(do let v <-whole;standAt a.pos;holding [v] (truthy v))) :
 PT X a (fun σ H Q=>ta σ H fun x H'=>∃k,TruV X.K x H' k/\Q k H'):=by
 intro pins s σ H Q I h
 refine isTrue_plain (thn (ha pins s σ H _ I h) fun v s1 hx_=>?_) (he _)
 obtain⟨x,H1,I1,r1,q1⟩:=hx_
 exact y1a pins s1 σ H1 x v Q I1 r1 q1
theorem Ygl{x:V}{us:List Value}(r:Vals [x] us):∃u,us=[u]/\RelV x u:=by
 cases r with
 | cons r1 r2=>cases r2;exact⟨_,rfl,r1⟩
theorem Ynx{x y:V}{us:List Value}(r:Vals [x,y] us):∃u w',us=[u,w']/\RelV x u/\RelV y w':=by
 cases r with
 | cons r1 r2=>
   cases r2 with
   | cons r3 r4=>cases r4;exact⟨_,_,rfl,r1,r3⟩
end
end L2
namespace L2
open PySem PySem.Spec PyProof.Rows
structure ObjM(h:Heap)(x dx C:Addr)(mA:Str->Option Value):Prop where
 obj:h.get? x=some (W.instObj C dx)
 ns:h.Ns1 dx mA
 ne:dx≠x
theorem Yrl{h:Heap}{dx:Addr}{mA:Str->Option Value}(n:h.Ns1 dx mA):∃od,h.get? dx=some od/\∀name,W.lookIn name od=some (mA name):=by
 obtain⟨o,es,ep,ho,hd,hk,_,hm⟩:=n
 refine⟨o,ho,fun name=>?_⟩
 have e:=hm name
 unfold nsFind findBy at e
 rw[<-Array.find?_toList]at e
 unfold W.lookIn
 rw[hd]
 dsimp only
 split
 ·rename_i y q
  rw[q]at e
  exact congrArg some e
 ·rename_i q
  rw[q]at e
  have a:es.toList.any (·.refKey)=false:=by
   rw[List.any_eq_false]
   intro y hy
   obtain⟨z,t,hkey⟩:=hk y (Array.mem_toList_iff.mp hy)
   simp[DictEntry.refKey,hkey]
  have a':¬es.toList.any (·.refKey)=true:=by rw[a];exact qh
  rw[if_neg a']
  exact congrArg some e
theorem ObjM.look{h:Heap}{x dx C:Addr}{mA:Str->Option Value}(I:ObjM h x dx C mA):∃od,W.InstAt h x (W.instObj C dx) C (some od)/\∀name,W.lookIn name od=some (mA name):=
 let ⟨od,ho,hl⟩:=Yrl I.ns
 ⟨od,⟨I.obj,rfl,rfl,ho⟩,hl⟩
section
variable {P:Program} {w:World} {H H':Hp} {h h':Heap} {a C dx:Addr} {fs fs':List (Str × V)}
theorem Yxv(hok:HOk P w H h)(e:H a=some (.ins C dx fs)):∃mA,ObjM h a dx C mA/\(∀f,RelO (fs.lookup f) (mA f))/\PySem.Within mA (fs.map (·.1))/\fs.length<=1000/\H dx=some (.own a):=by
 obtain⟨d,z,ne,ob,mA,n,r,q⟩:=(show ObjOk P w H h a (.ins C dx fs) from hok a _ e)
 exact⟨mA,⟨ob,n,ne⟩,r,q,z,d⟩
end
structure Cls(K:W.Frag)(C:Addr):Prop where
 pg:W.plainGet K C Str.empty=true
 hd:W.hasDictIn K C=true
 po:W.plainOver K C=true
 sa:W.findIn K (.ref C) "__setattr__"=some (some (.builtin "object.__setattr__"))
theorem Cls.get{K:W.Frag}{C:Addr}(c:Cls K C)(f:Str):W.plainGet K C f=true:=c.pg
structure Con(K:W.Frag)(C:Addr)(f:Str)(v:V)(u:Value):Prop where
 at_:W.findIn K (.ref C) f=some (some u)
 rel:RelV v u
 get:W.specialIn K u "__get__"=some none
 cp:W.copiedNames.contains f=false
structure Meth(K:W.Frag)(C:Addr)(m:Str)(f:Addr):Prop where
 at_:W.findIn K (.ref C) m=some (some (.ref f))
 fn:W.isFn K (.ref f)=true
 kp:W.keepIn K (.ref f)=true
section
variable {X:Cx} {pins:List (Addr × Obj)} {σ:St} {H:Hp} {s:Shared} {A:Around} {E Q:Value->Shared->Prop} {c:Value} {b:Bool}
inductive TyOf (K:W.Frag) (H:Hp):V->Value->Prop where
 | non:TyOf K H .non (.type "NoneType")
 | bl (x:Bool):TyOf K H (.bl x) (.type "bool")
 | int (i:Int):TyOf K H (.int i) (.type "int")
 | str (x:Str):TyOf K H (.str x) (.type "str")
 | flt (x:UInt64):TyOf K H (.flt x) (.type "float")
 | lst {a:Addr} {xs:List V} (e:H a=some (.lst xs)):TyOf K H (.ref a) (.type "list")
 | frz {a:Addr} {o:Obj} {xs:List V} (e:H a=some (.frz o (.lst xs))):TyOf K H (.ref a) (.type "list")
 | tup {a:Addr} {xs:List V} (e:H a=some (.tup xs)):TyOf K H (.ref a) (.type "tuple")
 | dK {a:Addr} {kvs:List (Key × V)} (e:H a=some (.dK kvs)):TyOf K H (.ref a) (.type "dict")
 | dT {a:Addr} {kvs:List (List Key × V)} (e:H a=some (.dT kvs)):TyOf K H (.ref a) (.type "dict")
 | ins {a C dx:Addr} {fs:List (Str × V)} (e:H a=some (.ins C dx fs)) (cl:Cls K C) (ha:W.findIn K (.ref C) "__class__"=some (some (.builtin "object.__class__")))
  (hn:W.specialIn K (.builtin "object.__class__") "__get__"=some (some (.builtin "getset_descriptor.__get__"))) (htk:W.takesIn K (.builtin "object.__class__")=some true)
  (hm:W.mroIn K C (.type "object")=some true):TyOf K H (.ref a) (.ref C)
theorem Yrm{x:V}{u t:Value}(I:Inv X pins σ H s)(rx:RelV x u)(ty:TyOf X.K H x t)(e:W.kitOne X.K t c=some b)(h:∀tk,Q (.bool b) { s with toks:=tk }) :
 wpAny (model X.prog X.w) A (call (.builtin "isinstance") [u,c]) Q E s:=by
 cases ty with
 | non=>cases (show u=Value.none from rx);exact W.kia_one W.kitx_none I.kIn True.intro e (fun z=>nomatch z) h
 | bl y=>cases (show u=Value.bool y from rx);exact W.kia_one W.kitx_bool I.kIn True.intro e (fun z=>nomatch z) h
 | int i=>obtain⟨t,q⟩:=(show ∃t,u=Value.int i t from rx);cases q;exact W.kia_one W.kitx_int I.kIn True.intro e (fun z=>nomatch z) h
 | str y=>obtain⟨t,q⟩:=(show ∃t,u=Value.str y t from rx);cases q;exact W.kia_one W.kitx_str I.kIn True.intro e (fun z=>nomatch z) h
 | flt y=>obtain⟨t,q⟩:=(show ∃t,u=Value.float y t from rx);cases q;exact W.kia_one W.kitx_float I.kIn True.intro e (fun z=>nomatch z) h
 | @lst a xs ea=>
   cases (show u=Value.ref a from rx)
   obtain⟨_,_,n,_,h1⟩:=(show ObjOk X.prog X.w H s.heap a (.lst xs) from I.hok a _ ea)
   exact W.kia_one W.kitx_list I.kIn ⟨_,h1,rfl⟩ e (fun z=>nomatch z) h
 | @frz a ob xs ea=>
   cases (show u=Value.ref a from rx)
   obtain⟨_,_,_,n,_,h1⟩:=(show ObjOk X.prog X.w H s.heap a (.frz ob (.lst xs)) from I.hok a _ ea)
   exact W.kia_one W.kitx_list I.kIn ⟨_,h1,rfl⟩ e (fun z=>nomatch z) h
 | @tup a xs ea=>
   cases (show u=Value.ref a from rx)
   obtain⟨_,_,_,p⟩:=(show ObjOk X.prog X.w H s.heap a (.tup xs) from I.hok a _ ea)
   obtain⟨o,h1,h2,_⟩:=p
   exact W.kia_one W.kitx_tuple I.kIn ⟨o,h1,h2⟩ e (fun z=>nomatch z) h
 | @dK a kvs ea=>
   cases (show u=Value.ref a from rx)
   obtain⟨_,_,vs,_,p⟩:=(show ObjOk X.prog X.w H s.heap a (.dK kvs) from I.hok a _ ea)
   obtain⟨o,es,ep,h1,h2,_⟩:=p
   exact W.kia_one W.kitx_dict I.kIn ⟨o,h1,h2.1⟩ e (fun z=>nomatch z) h
 | @dT a kvs ea=>
   cases (show u=Value.ref a from rx)
   obtain⟨_,_,xs,_,o,es,ep,h1,h2,_⟩:=(show ObjOk X.prog X.w H s.heap a (.dT kvs) from I.hok a _ ea)
   exact W.kia_one W.kitx_dict I.kIn ⟨o,h1,h2.1⟩ e (fun z=>nomatch z) h
 | @ins a C dx fs ea cl ha hn htk hm=>
   cases (show u=Value.ref a from rx)
   obtain⟨mA,O,_⟩:=Yxv I.hok ea
   obtain⟨od,J,_⟩:=O.look
   exact W.kia_one (W.kitx_own (cl.get _) cl.hd ha hn htk hm) I.kIn J e (fun z=>nomatch z) h
end
end L2
namespace L2
open PySem PySem.Spec PyProof.Rows
structure Room(k:Nat)(A:Around):Prop where
 hd:A.handled=none
 dp:A.depth+3 * k+5 < recursionLimit
 un:A.units+16 * k+200 < cLine
theorem Room.mono{j k:Nat}{A:Around}(r:Room k A)(h:j<=k):Room j A:=⟨r.hd,by have:=r.dp;lia,by have:=r.un;lia⟩
theorem Room.deeper{k:Nat}{A:Around}(r:Room (k+1) A)(env:Env):Room k (A.deeper env):=
 ⟨r.hd,by have:=r.dp;show A.depth+1+3 * k+5 < _;lia,by have:=r.un;show A.units+3+16 * k+200 < _;lia⟩
theorem Room.depth{k:Nat}{A:Around}(r:Room k A):A.depth < recursionLimit:=by have:=r.dp;lia
theorem Room.units{k:Nat}{A:Around}(r:Room k A):A.units+64 < cLine:=by have:=r.un;lia
def tNil:TA:=fun _ H Q=>Q [] H
def y3w(ta:TE)(tr:TA):TA:=fun σ H Q=>ta σ H fun x H1=>tr σ H1 fun xs H2=>Q (x::xs) H2
section
variable {X:Cx} {e:Expr} {es:List Expr} {te:TE} {t:TA} {pos:Pos}
theorem Yeb:PA X [] tNil:=fun _ _ _ _ H Q I h=>Calls.spliced_nil ⟨[],H,I,.nil,h⟩
theorem Ybd(ha:PE X e te)(hr:PA X es t)(hs:starEach (e::es) X.env=(false,eval e X.env)::starEach es X.env:=by rfl):PA X (e::es) (y3w te t):=by
 intro pos pins s σ H Q I h
 rw[hs]
 show wpAny _ _ (spliced ((false,eval e X.env)::backTo pos (starEach es X.env))) _ _ s
 refine Calls.spliced_cons (thn (ha pins s σ H _ I h) fun u s1 hx_=>?_)
 obtain⟨x,H1,I1,r1,q1⟩:=hx_
 refine thn (hr pos pins s1 σ H1 _ I1 q1) fun us s2 hx_=>?_
 obtain⟨xs,H2,I2,r2,q2⟩:=hx_
 exact⟨x::xs,H2,I2,.cons r1 r2,q2⟩
def tTup(t:TA):TE:=fun σ H Q=>t σ H fun xs H1=>xs.length<=sizeLine/\∀p,H1 p=none->Q (.ref p) (upd H1 p (.tup xs))
def tLst(t:TA):TE:=fun σ H Q=>t σ H fun xs H1=>xs.length<=sizeLine/\∀p,H1 p=none->Q (.ref p) (upd H1 p (.lst xs))
theorem y1b{x1}(h:PA X es t):PE X (.Tuple es x1 pos) (tTup t):=by
 intro pins s σ H Q I hq
 refine wpAny_Tuple_spliced (thn (h pos pins s σ H _ I hq) fun us s1 ⟨xs,H1,I1,r,z,q⟩=>⟨by rw[<-r.length];exact z,?_⟩)
 have hf:H1 s1.heap.objs.size=none:=I1.hok.fresh (qt _)
 refine⟨.ref s1.heap.objs.size,upd H1 s1.heap.objs.size (.tup xs),I1.laid (t':=s1.toks) (fun b u e=>qd _ e) (qt _) ?_,rfl,q _ hf⟩
 exact⟨z,us,r,⟨_,qo _ rfl,rfl,_,rfl⟩⟩
theorem y1c(h:PA X es t):PE X (.List es pos) (tLst t):=by
 intro pins s σ H Q I hq
 refine wpAny_List_spliced (thn (h pos pins s σ H _ I hq) fun us s1 ⟨xs,H1,I1,r,z,q⟩=>⟨by rw[<-r.length];exact z,?_⟩)
 have hf:H1 s1.heap.objs.size=none:=I1.hok.fresh (qt _)
 refine⟨.ref s1.heap.objs.size,upd H1 s1.heap.objs.size (.lst xs),I1.laid (t':=s1.toks) (fun b u e=>qd _ e) (qt _) ?_,rfl,q _ hf⟩
 exact⟨z,us,0,r,qo _ rfl⟩
end
abbrev Sp:=List V->Hp->VK->XK->Prop
abbrev CXT:=List Env->Hp->Shared->XK->Value->Shared->Prop
structure Env0(P:Program)(w:World)(K:W.Frag)(mg:Str->Option Value)(base:Heap)(A:Around)(outer:List Env)(s:Shared)(H:Hp):Prop where
 frames:A.frames=some outer
 mod:Mod K mg base
 bs:∀b o,base.get? b=some o->s.heap.get? b=some o/\H b=none
 bsz:base.objs.size<=s.heap.objs.size
 funs:s.heap.FunFrames base outer
 frf:∀b∈frs outer,H b=none
 hok:HOk P w H s.heap
 bare:AllBare s.gens
def CE(outer:List Env)(P:Program)(w:World)(H:Hp)(s:Shared)(Q:VK)(u:Value)(s':Shared):Prop:=
 ∃v H',s'.os=s.os/\AllBare s'.gens/\Un (frs outer) [] H H' s.heap s'.heap/\HOk P w H' s'.heap/\RelV v u/\Q v H'
def CR(CX:CXT)(outer:List Env)(P:Program)(w:World)(H:Hp)(s:Shared)(Q:VK)(E:XK)(r:Result)(s':Shared):Prop:=
 match r with
 | .ok (.ret u)=>CE outer P w H s Q u s'
 | .ok _=>False
 | .error e=>CX outer H s E e s'
structure FnOk(P:Program)(w:World)(K:W.Frag)(mg:Str->Option Value)(base:Heap)(CX:CXT)(k:Nat)(f:Addr)(fd:FuncData)(ps:List Str)(sp:Sp):Prop where
 len:∀vs H Q E,sp vs H Q E->vs.length=ps.length
 run:∀(A:Around) (outer:List Env) (s:Shared) (H:Hp) (args:Args) (us:List Value) (vs:List V) (Q:VK) (E:XK),Room k A->Env0 P w K mg base A outer s H->BindsTo s fd args (ps.zip us)->Vals vs us->sp vs H Q E->
  codeAny (model P w) A (.call (.ref f) args) (CR CX outer P w H s Q E) s
theorem FnOk.mono{P:Program}{w:World}{K:W.Frag}{mg:Str->Option Value}{base:Heap}{CX:CXT}{j k:Nat}{f:Addr}{fd:FuncData}{ps:List Str}{sp:Sp}(F:FnOk P w K mg base CX j f fd ps sp)(h:j<=k) :
 FnOk P w K mg base CX k f fd ps sp:=⟨F.len,fun A outer s H args us vs Q E hr=>F.run A outer s H args us vs Q E (hr.mono h)⟩
section
variable {X:Cx} {pins:List (Addr × Obj)} {σ:St} {H:Hp} {s s':Shared}
theorem Inv.env0(I:Inv X pins σ H s):Env0 X.prog X.w X.K X.mg X.base X.A X.stack s H:=
 ⟨I.ok.frames,I.ok.mod,I.bs,Nat.le_trans I.ok.bsz I.sz,I.stack,I.stkFree,I.hok,I.bare⟩
theorem Inv.after{Q:VK}{u:Value}(I:Inv X pins σ H s)(h:CE X.stack X.prog X.w H s Q u s'):EP X pins σ Q u s':=by
 obtain⟨v,H',os,bare,un,hok,r,q⟩:=h
 obtain⟨hh,g,d,t,os'⟩:=s'
 obtain rfl:os'=s.os:=os
 exact⟨v,H',I.call (h':=hh) (g':=g) (d':=d) (t':=t) (ch:=[]) un hok bare (fun b z=>absurd z (by simp)),r,q⟩
end
def y3x(sp:Sp)(dvs:List V)(E:XK)(t:TA):TE:=fun σ H Q=>t σ H fun vs H1=>sp (vs++dvs) H1 Q E
def Binds(K:W.Frag)(fd:FuncData)(ps:List Str)(ds:List Value):Prop:=
 ∀(s:Shared) (us:List Value),K.In s.heap->(us++ds).length=ps.length->BindsTo s fd ⟨us,[]⟩ (ps.zip (us++ds))
theorem Binds.all{K:W.Frag}{fd:FuncData}{ps:List Str}(h:∀us:List Value,us.length=ps.length->bindArgs fd ⟨us,[]⟩=pure (ps.zip us)):Binds K fd ps []:=fun s us _ hl=>by
 rw[List.append_nil]at hl ⊢
 exact .of_eq (h us hl)
def Ypg(CX:CXT)(X:Cx)(E:XK):Prop:=∀(pins:List (Addr × Obj)) (σ:St) (H:Hp) (s:Shared) (e:Value) (s':Shared),Inv X pins σ H s->CX X.stack H s E e s'->X.xe e s'
section
variable {X:Cx} {CX:CXT} {k:Nat} {f C:Addr} {fd:FuncData} {ps:List Str} {sp:Sp} {dvs:List V} {ds:List Value} {E:XK} {x m:Str} {p pos apos:Pos} {e o:Expr} {es:List Expr} {ta:TE} {t:TA}
theorem y1d{pins:List (Addr × Obj)}{σ:St}{H:Hp}{s:Shared}{Q:VK}{us:List Value}{vs:List V}(F:FnOk X.prog X.w X.K X.mg X.base CX k f fd ps sp)(hr:Room k X.A)(hb:Binds X.K fd ps ds)(hd:Vals dvs ds)(hx:Ypg CX X E)
 (I:Inv X pins σ H s) (r:Vals vs us) (h:sp (vs++dvs) H Q E):wpAny (model X.prog X.w) X.A (call (.ref f) us) (EP X pins σ Q) X.xe s:=by
 have r2:Vals (vs++dvs) (us++ds):=r.append hd
 have hl:(us++ds).length=ps.length:=by rw[<-r2.length];exact F.len _ _ _ _ h
 refine wpAny_call (codeAny_mono (F.run X.A X.stack s H ⟨us,[]⟩ (us++ds) (vs++dvs) Q E hr I.env0 (hb s us I.kIn hl) r2 h) fun r s' hq=>?_)
 cases r with
 | error e=>exact hx pins σ H s e s' I hq
 | ok fl=>
   cases fl with
   | ret u=>exact I.after hq
   | next=>exact False.elim hq
   | brk=>exact False.elim hq
   | cont=>exact False.elim hq
theorem Yrn(F:FnOk X.prog X.w X.K X.mg X.base CX k f fd ps sp)(hr:Room k X.A)(hg:Gl X x)(hm:X.mg x=some (.ref f))(hk:W.keepIn X.K (.ref f)=true)(hb:Binds X.K fd ps ds)(hd:Vals dvs ds)(hx:Ypg CX X E)
 (ha:PA X (e::es) t) (hdb:(x==("__debug__":Str))=false:=by decide) (he:starEach (e::es) X.env=(false,eval e X.env)::starEach es X.env:=by rfl) (hpl:(backTo pos (starEach es X.env)).any (·.1)=false:=by rfl) :
 PE X (.Call (.Name x p) (e::es) [] pos) (y3x sp dvs E t):=by
 intro pins s σ H Q I h
 refine wpAny_Call_Name_kw (Yem I hg hm ?_ hdb)
 refine W.callWith_K (h₀:=X.base) I.ok.mod.kin hk (thn (ha pos pins s σ H _ I h) fun us s1 hx_=>?_) he hpl
 obtain⟨vs,H1,I1,r,q⟩:=hx_
 refine⟨I1.kIn,?_⟩
 exact y1d F hr hb hd hx I1 r q
structure Mk(K:W.Frag)(C f:Addr):Prop where
 makes:W.makesIn K C=true
 init:W.findIn K (.ref C) "__init__"=some (some (.ref f))
 fn:W.isFn K (.ref f)=true
 kp:W.keepIn K (.ref C)=true
end
section
variable {X:Cx} {CX:CXT} {k:Nat} {f C:Addr} {fd:FuncData} {ps ks:List Str} {sp:Sp} {E:XK} {x m:Str} {p pos apos kpos:Pos} {e o:Expr} {es:List Expr} {kws:List Keyword} {te ta:TE} {t tk:TA} {nm:Option Str}
structure KBinds(K:W.Frag)(fd:FuncData)(ps ks:List Str)(g:List Value->List Value->List Value)(gV:List V->List V->List V):Prop where
 to:∀(s:Shared) (us ws:List Value),K.In s.heap->(g us ws).length=ps.length->BindsTo s fd ⟨us,ks.zip ws⟩ (ps.zip (g us ws))
 rel:∀{vs:List V} {us:List Value} {zs:List V} {ws:List Value},Vals vs us->Vals zs ws->Vals (gV vs zs) (g us ws)
variable {g:List Value->List Value->List Value} {gV:List V->List V->List V}
end
structure FnScope(N P:List Str)(sc:Scope):Prop where
 kind:sc.kind=.function
 co:sc.isCoroutine=false
 gen:sc.isGenerator=false
 nd:N.Nodup
 pre:N.take P.length=P
 par:∀x∈P,sc.names.lookup x=some .local\/sc.names.lookup x=some .cell
 nofree:∀y∈sc.names,y.2≠.free
theorem Ylv{kindOf:Str->Option NameKind}{x:Str}:∀{binds:List (Str × Value)} {m:Str->Option Value},(∀v,(x,v)∉binds)->bindL kindOf binds m x=m x
 | [],_,_=>rfl
 | (n,v)::r,m,h=>by
   unfold bindL
   rw[Ylv fun w hw=>h w (qf _ hw)]
   split
   ·have:x≠n:=by rintro rfl;exact h v qg
    simp[this]
   ·rfl
theorem Ylw{kindOf:Str->Option NameKind}{x:Str}:∀{binds:List (Str × Value)} {m:Str->Option Value},(∀v,(x,v)∉binds)->bindC kindOf binds m x=m x
 | [],_,_=>rfl
 | (n,v)::r,m,h=>by
   unfold bindC
   rw[Ylw fun w hw=>h w (qf _ hw)]
   split
   ·rfl
   ·have:x≠n:=by rintro rfl;exact h v qg
    simp[this]
theorem Ylx{kindOf:Str->Option NameKind}{x:Str}{v:Value}:∀{P:List Str} {vs:List Value} {i:Nat} {m:Str->Option Value},P.Nodup->P[i]?=some x->vs[i]?=some v->kindOf x=some .local->
 bindL kindOf (P.zip vs) m x=some v
 | [],_,_,_,_,h,_,_=>by simp at h
 | _::_,[],_,_,_,_,h,_=>by simp at h
 | p::P,w::vs,0,m,nd,h1,h2,hk=>by
   simp at h1 h2;subst h1;subst h2
   show bindL kindOf ((p,w)::P.zip vs) m p=_
   unfold bindL
   rw[Ylv fun v hv=>(List.nodup_cons.mp nd).1 (List.of_mem_zip hv).1,if_pos hk]
   simp
 | p::P,w::vs,i+1,m,nd,h1,h2,hk=>by
   show bindL kindOf ((p,w)::P.zip vs) m x=_
   unfold bindL
   exact Ylx (i:=i) (List.nodup_cons.mp nd).2 (by simpa using h1) (by simpa using h2) hk
theorem Yly{kindOf:Str->Option NameKind}{x:Str}{v:Value}:∀{P:List Str} {vs:List Value} {i:Nat} {m:Str->Option Value},P.Nodup->P[i]?=some x->vs[i]?=some v->kindOf x≠some .local->
 bindC kindOf (P.zip vs) m x=some v
 | [],_,_,_,_,h,_,_=>by simp at h
 | _::_,[],_,_,_,_,h,_=>by simp at h
 | p::P,w::vs,0,m,nd,h1,h2,hk=>by
   simp at h1 h2;subst h1;subst h2
   show bindC kindOf ((p,w)::P.zip vs) m p=_
   unfold bindC
   rw[Ylw fun v hv=>(List.nodup_cons.mp nd).1 (List.of_mem_zip hv).1,if_neg hk]
   simp
 | p::P,w::vs,i+1,m,nd,h1,h2,hk=>by
   show bindC kindOf ((p,w)::P.zip vs) m x=_
   unfold bindC
   exact Yly (i:=i) (List.nodup_cons.mp nd).2 (by simpa using h1) (by simpa using h2) hk
def start(N:List Str)(vs:List V):St:=vs.map some++List.replicate (N.length - vs.length) none
def cxOf(CX:CXT)(P:Program)(w:World)(K:W.Frag)(mg:Str->Option Value)(base:Heap)(N:List Str)(qual:Str)(scope:Scope)(f:Addr)(cd:Value)(A:Around)(outer:List Env)(s:Shared)(H:Hp)(E:XK):Cx where
 prog:=P
 w:=w
 K:=K
 mg:=mg
 base:=base
 A:=A.deeper (envOfC qual scope s.heap.objs.size f cd)
 N:=N
 s₀:=s
 H₀:=H
 env:=envOfC qual scope s.heap.objs.size f cd
 outer:=outer
 stack:=envOfC qual scope s.heap.objs.size f cd::outer
 ex:=[]
 calm:=true
 fn:=fun _=>true
 pn:=[]
 xe:=fun e s'=>wpAny (model P w) (A.deeper (envOfC qual scope s.heap.objs.size f cd)) (leaving (envOfC qual scope s.heap.objs.size f cd) e) (fun _ s''=>CX outer H s E e s'') (fun e' s''=>CX outer H s E e' s'') s'
theorem Yph{sc:Scope}{n:Nat}{x:Str}(h:sc.names.lookup x=some .cell):∃c,(cellsFrom n sc.names []).lookup x=some c:=by
 have q:=PySem.W.cellsFrom_some sc.names n [] (.inl h)
 exact Option.isSome_iff_exists.mp q
theorem Yro{CX:CXT}{P:Program}{w:World}{K:W.Frag}{mg:Str->Option Value}{base:Heap}{N ps:List Str}{qual:Str}{scope:Scope}{f:Addr}{cd:Value}{A:Around}{outer:List Env}{s s1:Shared}{H:Hp}{E:XK}{us:List Value}{vs:List V}
 (S:FnScope N ps scope) (hd:A.handled=none) (e0:Env0 P w K mg base A outer s H) (hl:vs.length=ps.length) (r:Vals vs us)
 (x:InCallC s s.heap.objs.size (bindL (envOfC qual scope s.heap.objs.size f cd).kindOf (ps.zip us) fun _=>none) (cellsFrom (s.heap.objs.size+1) scope.names []) (bindC (envOfC qual scope s.heap.objs.size f cd).kindOf (ps.zip us) fun _=>none) s1) :
 Inv (cxOf CX P w K mg base N qual scope f cd A outer s H E) [] (start N vs) H s1:=by
 have hpl:ps.length<=N.length:=by have:=congrArg List.length S.pre;rw[List.length_take]at this;lia
 obtain⟨h1,tk,rfl,hk⟩:=x.done
 have noA:∀b:Addr,b∉(cxOf CX P w K mg base N qual scope f cd A outer s H E).ex:=fun b z=>absurd (show b∈([]:List Addr) from z) (by simp)
 refine⟨⟨e0.mod,S.kind,rfl,rfl,qt _,fun y z c h1 h2=>?_,fun y hy=>?_,fun y c _ h=>?_,fun _=>hd,Around.frames_deeper e0.frames,.inr ⟨rfl,rfl⟩,fun b z=>absurd z (noA b),e0.bs,e0.bsz,fun b _ _=>noA b,fun b z=>absurd z (noA b),e0.funs,e0.frf⟩,
  rfl,e0.bare,Un.kept hk,⟨_,x.toInCall.ns,fun i y v h1 h2 h3=>?_⟩,fun y c h=>⟨_,x.cell y c h⟩,e0.hok.fresh (qt _),fun y c h=>?_,fun p hp=>absurd (show p∈([]:List (Addr × Obj)) from hp) (by simp),e0.hok.kept hk,?_⟩
 ·exact name_of_addr x.apart (PySem.mem_of_lookup h1) (PySem.mem_of_lookup h2)
 ·have hy:scope.names.lookup y=some .cell\/scope.names.lookup y=some .free:=hy
  rcases hy with hy | hy
  ·exact Yph hy
  ·exact absurd rfl (S.nofree _ (PySem.mem_of_lookup hy))
 ·exact Nat.le_of_lt (x.above y c (PySem.mem_of_lookup h))
 ·have hi:i < vs.length:=by
   unfold start at h2
   by_cases hi:i < vs.length
   ·exact hi
   ·rw[List.getElem?_append_right (by simpa using hi)]at h2
    rw[List.getElem?_replicate]at h2
    split at h2<;>cases h2
  have ha:vs[i]?=some v:=by
   unfold start at h2
   rw[List.getElem?_append_left (by simpa using hi),Qg]at h2
   cases e:vs[i]? with
   | none=>rw[e]at h2;cases h2
   | some a=>rw[e]at h2;cases h2;rfl
  obtain⟨u,hu,rv⟩:=r.get ha
  have hp:ps[i]?=some y:=by
   rw[<-S.pre,List.getElem?_take_of_lt (by lia)];exact h1
  have ndP:ps.Nodup:=by rw[<-S.pre];exact S.nd.sublist (List.take_sublist _ _)
  refine⟨u,rv,?_⟩
  rcases S.par y (List.mem_of_getElem? hp)with k | k
  ·exact .inl ⟨k,Ylx ndP hp hu k⟩
  ·obtain⟨c,e⟩:=Yph (n:=s.heap.objs.size+1) k
   refine .inr ⟨.inl k,c,e,?_⟩
   have q:=x.cell y c e
   rw[Yly ndP hp hu (by show scope.names.lookup y≠_;rw[k];decide)]at q
   exact q
 ·exact e0.hok.fresh (Nat.le_of_lt (x.above y c (PySem.mem_of_lookup h)))
 ·unfold start
  show _=N.length
  rw[qx,qe,List.length_replicate]
  lia
theorem y1e{CX:CXT}{P:Program}{w:World}{K:W.Frag}{mg:Str->Option Value}{base:Heap}{k:Nat}{f:Addr}{name qual:Str}{params:Arguments}{body:List Stmt}{scope:Scope}{dV kV doc pm cdv ct oc:Value}{an od:Option Addr}
 {osl:Array (Option Value)} {N ps:List Str} {sp:Sp} (lk:K.lookup f=some ⟨oc,od,.func (W.fnOf name qual params body scope dV kV doc pm an cdv ct),osl⟩) (hcd:W.codeIn K cdv qual=true) (S:FnScope N ps scope)
 (len:∀vs H Q E,sp vs H Q E->vs.length=ps.length)
 (hbody:∀(A:Around) (outer:List Env) (s:Shared) (H:Hp) (vs:List V) (Q:VK) (E:XK),Room k (A.deeper (envOfC qual scope s.heap.objs.size f cdv))->sp vs H Q E->
  ∃t,PSs (cxOf CX P w K mg base N qual scope f cdv A outer s H E) body t/\t { nx:=fun _ H'=>Q .non H',rt:=Q } (start N vs) H) :
 FnOk P w K mg base CX (k+1) f (W.fnOf name qual params body scope dV kV doc pm an cdv ct) ps sp:=by
 refine⟨len,fun A outer s H args us vs Q E hr e0 hb r hsp=>?_⟩
 have hl:=len _ _ _ _ hsp
 have KX:K.In s.heap:=e0.mod.kin.keeps fun b o e=>(e0.bs b o e).1
 have lim:s.heap.NoLimit:=e0.mod.nolimit.keeps fun b o e=>(e0.bs b o e).1
 have hkind:∀y∈ps.zip us,scope.names.lookup y.1=some .local\/(scope.names.lookup y.1=some .cell/\((cellsFrom (s.heap.objs.size+1) scope.names []).lookup y.1).isSome=true):=fun⟨n,v⟩ hy=>by
  rcases S.par n (List.of_mem_zip hy).1 with q | q
  ·exact .inl q
  ·exact .inr ⟨q,PySem.W.cellsFrom_some _ _ _ (.inl q)⟩
 refine codeAny_call_function hr.depth (KX _ _ lk) rfl S.co S.gen rfl (W.codeRec_of KX hcd) (hb _ _ _ _ ?_)
 refine wpAny_newFunctionEnv_cells S.kind hkind fun env he s1 x=>?_
 subst he
 refine⟨lim.keeps x.toInCall.keep,codeAny_func ?_⟩
 obtain⟨t,ht,hq⟩:=hbody A outer s H vs Q E (hr.deeper _) hsp
 have I:Inv (cxOf CX P w K mg base N qual scope f cdv A outer s H E) [] (start N vs) H s1:=Yro S hr.hd e0 hl r x
 refine wpAny_mono (ht [] s1 (start N vs) H _ I hq) (fun fl s' hs=>?_) fun e s' hs=>hs
 have fin:∀{σ':St} {H':Hp} {v:V} {u:Value},Inv (cxOf CX P w K mg base N qual scope f cdv A outer s H E) [] σ' H' s'->RelV v u->Q v H'->CE outer P w H s Q u s':=
  fun {σ' H' v u} J rv q=>⟨v,H',J.os,J.bare,J.base,J.hok,rv,q⟩
 cases fl with
 | ret u=>
   obtain⟨v,σ',H',J,rv,q⟩:=hs
   exact fin J rv q
 | next=>
   obtain⟨σ',H',J,q⟩:=hs
   exact fin (v:=V.non) (u:=Value.none) J rfl q
 | brk=>
   obtain⟨_,_,_,q⟩:=hs
   exact False.elim q
 | cont=>
   obtain⟨_,_,_,q⟩:=hs
   exact False.elim q
end L2
namespace L2
open PySem PySem.Spec PyProof.Rows
section
variable {X:Cx} {x:Str} {p pos:Pos} {e:Expr} {es:List Expr} {t:TA} {id T:String} {r:List V->Hp->VK->Prop}
def tCB(r:List V->Hp->VK->Prop)(t:TA):TE:=fun σ H Q=>t σ H fun vs H1=>r vs H1 Q
theorem Yc3(hc:Yb5 X (.builtin id) r)(hg:Gl X x)(hm:X.mg x=none)(hv:bootBuiltins x=some (.builtin id))(ha:PA X (e::es) t)(hn:x≠"__name__":=by decide)(hdb:(x==("__debug__":Str))=false:=by decide)
 (he:starEach (e::es) X.env=(false,eval e X.env)::starEach es X.env:=by rfl) (hpl:(backTo pos (starEach es X.env)).any (·.1)=false:=by rfl):PE X (.Call (.Name x p) (e::es) [] pos) (tCB r t):=by
 intro pins s σ H Q I h
 refine wpAny_Call_Name_kw (Yhc I hg hm hv ?_ hn hdb)
 refine PyProof.Rows.callWith_builtin1 (thn (ha pos pins s σ H _ I h) fun us s1 hx_=>?_) he hpl
 obtain⟨vs,H1,I1,r1,q1⟩:=hx_
 exact hc pins s1 σ H1 vs us Q I1 r1 q1
theorem Yez(hc:Yb5 X (.type T) r)(hg:Gl X x)(hm:X.mg x=none)(hv:bootBuiltins x=some (.type T))(ha:PA X (e::es) t)(hn:x≠"__name__":=by decide)(hdb:(x==("__debug__":Str))=false:=by decide)
 (he:starEach (e::es) X.env=(false,eval e X.env)::starEach es X.env:=by rfl) (hpl:(backTo pos (starEach es X.env)).any (·.1)=false:=by rfl):PE X (.Call (.Name x p) (e::es) [] pos) (tCB r t):=by
 intro pins s σ H Q I h
 refine wpAny_Call_Name_kw (Yhc I hg hm hv ?_ hn hdb)
 refine PyProof.Rows.callWith_type1 (thn (ha pos pins s σ H _ I h) fun us s1 hx_=>?_) he hpl
 obtain⟨vs,H1,I1,r1,q1⟩:=hx_
 exact hc pins s1 σ H1 vs us Q I1 r1 q1
end
end L2
namespace L2
open PySem PySem.Spec PyProof.Rows
section
variable {κ:Type} [DecidableEq κ]
theorem RelO.isSome_eq{o:Option V}{u:Option Value}(r:RelO o u):o.isSome=u.isSome:=by
 cases o with
 | none=>cases u with
   | none=>rfl
   | some _=>exact(show False from r).elim
 | some _=>cases u with
   | none=>exact(show False from r).elim
   | some _=>rfl
end
def NoSl(i:Expr):Prop:=∀ov iv,subscripted i false ov iv=operate [ov,iv] (getItem ov iv)
theorem Yxw{prog:Program}{w:World}{A:Around}{E:Value->Shared->Prop}{s:Shared}{env:Env}{value slice:Expr}{pos:Pos}{T id:String}{Q:Value->Shared->Prop}
 (hl:typeLookup (.type T) "__getitem__"=pure (some (.builtin id))) (hs:NoSl slice)
 (h:wpAny (model prog w) A (eval value env) (fun o s₁=>wpAny (model prog w) A (eval slice env) (fun i s₂=>s₂.TypeIs o T/\wpAny (model prog w) A (getItem o i) Q E s₂) E s₁) E s) :
 wpAny (model prog w) A (eval (.Subscript value slice pos) env) Q E s:=by
 refine Subscript_ (wpAny_mono h (fun o s₁ h₁=>wpAny_mono h₁ (fun i s₂ h₂=>?_) fun _ _ x=>x) fun _ _ x=>x)
 obtain⟨hT,h₂⟩:=h₂
 unfold subscriptTail
 refine wpAny_bind ?_
 rw[getitemInPython_of_ne hT.not_modules]
 refine wpAny_bind (wpAny_specialOf hT hl ?_)
 have fin:wpAny (model prog w) A (subscripted slice false o i) (fun r s₃=>wpAny (model prog w) A (letTemporaryGo value o r >>= fun _=>pure r) Q E s₃) E s₂:=by
  rw[hs o i]
  exact wpAny_operating (wpAny_mono h₂ (fun r s₃ h₃=>wpAny_bind (wpAny_letTemporaryGo (wpAny_pure h₃))) fun _ _ x=>x)
 first
  | exact wpAny_pure (wpAny_bind fin)
  | exact wpAny_bind (wpAny_pure (wpAny_bind fin))
  | exact wpAny_bind fin
def Ywv:List (TE × TE)->St->Hp->(List (V × V)->Hp->Prop)->Prop
 | [],_,H,Q=>Q [] H
 | (tk,tv)::r,σ,H,Q=>tk σ H fun x H1=>tv σ H1 fun y H2=>Ywv r σ H2 fun ps H3=>Q ((x,y)::ps) H3
abbrev VV:List (V × V)->List (Value × Value)->Prop:=Paired fun p q=>RelV p.1 q.1/\RelV p.2 q.2
def PPs(X:Cx)(pos:Pos)(keys:List (Option Expr))(values:List Expr)(trs:List (TE × TE)):Prop:=
 ∀(pins:List (Addr × Obj)) (s:Shared) (σ:St) (H:Hp) (Q:List (V × V)->Hp->Prop),Inv X pins σ H s->Ywv trs σ H Q->
  wpAny (model X.prog X.w) X.A (evalPairs (pairTrees keys values X.env pos)) (fun vs s'=>∃ps H',Inv X pins σ H' s'/\VV ps vs/\Q ps H') X.xe s
structure M1(X:Cx)(o:Expr)(m:Str)(apos:Pos)(e:Expr)(cpos:Pos):Prop where
 base:attributeBase o m X.env (eval o X.env)=eval o X.env
 few:((backTo cpos (starEach [e] X.env)).all (fun x=>!x.1)&&(backToKw cpos (keywordEach [] X.env)).all (fun x=>x.1.isSome)
  &&decide (([e]:List Expr).length+([]:List Keyword).length+(if ([]:List Keyword).isEmpty then 0 else 1) < 30))=true
 line:(apos.endLine==cpos.line)=true
 trees:backTo cpos (starEach [e] X.env)=[(false,eval e X.env)]
structure M2(X:Cx)(o:Expr)(m:Str)(apos:Pos)(e f:Expr)(cpos:Pos):Prop where
 base:attributeBase o m X.env (eval o X.env)=eval o X.env
 few:((backTo cpos (starEach [e,f] X.env)).all (fun x=>!x.1)&&(backToKw cpos (keywordEach [] X.env)).all (fun x=>x.1.isSome)
  &&decide (([e,f]:List Expr).length+([]:List Keyword).length+(if ([]:List Keyword).isEmpty then 0 else 1) < 30))=true
 line:(apos.endLine==cpos.line)=true
 trees:backTo cpos (starEach [e,f] X.env)=[(false,eval e X.env),(false,eval f X.env)]
end L2
namespace HT
open PySem PyProof.Rows
section
variable {prog:Program} {w:World} {A:Around} {E:Value->Shared->Prop} {s:Shared}
theorem cat_tup{t b:Addr}{vs ws:List Value}{Q:Value->Shared->Prop}(ht:IsTup s.heap t vs.toArray)(hb:IsTup s.heap b ws.toArray)(hv:vs≠[])
 (h1:ws=[]->Q (.ref t) s) (h2:ws≠[]->Q (.ref s.heap.objs.size) { s with heap:=s.heap.push { cls:=.type "tuple",data:=.seq (vs++ws).toArray } })
 (hsz:vs.length+ws.length<=sizeLine):wpAny (model prog w) A (binaryOp .Add (.ref t) (.ref b)) Q E s:=by
 obtain⟨⟨cls,dd,data,sl⟩,ho,hc,n,hd⟩:=id ht
 obtain⟨⟨cls2,dd2,data2,sl2⟩,ho2,hc2,n2,hd2⟩:=id hb
 simp only at hc hd hc2 hd2
 subst hc hd hc2 hd2
 have e:vs.toArray++ws.toArray=(vs++ws).toArray:=by simp
 by_cases hw:ws=[]
 ·exact concat_meets ⟨_,ho,rfl⟩ ⟨_,ho2,rfl⟩ noFill_tuple_add seq_tuple_add PySem.F.slot_tuple_add PySem.F.entry_tuple_add (PySem.F.args_tuple_add_2 _ _)
   (tuple_addW1 t b vs.toArray ws.toArray n n2 dd dd2 sl sl2 (by simpa using hv) (by simp[hw])) ⟨ho,ho2,h1 hw⟩
 ·refine concat_meets ⟨_,ho,rfl⟩ ⟨_,ho2,rfl⟩ noFill_tuple_add seq_tuple_add PySem.F.slot_tuple_add PySem.F.entry_tuple_add (PySem.F.args_tuple_add_2 _ _)
   (tuple_addW2 t b vs.toArray ws.toArray n n2 dd dd2 sl sl2 (by simpa using hv) (by simpa using hw) (by rw[qj,qj];exact hsz)) ⟨ho,ho2,?_⟩
  rw[e]
  exact h2 hw
def sIx(n d:Nat):Option Int->Nat
 | none=>d
 | some v=>if v < 0 then (v+(n:Int)).toNat else min v.toNat n
theorem sIx_none(n d:Nat):sIx n d none=d:=rfl
theorem sIx_nat(n d k:Nat):sIx n d (some (k:Int))=min k n:=by
 show(if (k:Int) < 0 then ((k:Int)+(n:Int)).toNat else min (k:Int).toNat n)=min k n
 rw[if_neg (by lia),Int.toNat_natCast]
end
end HT
namespace L2
open PySem PySem.Spec PyProof.Rows
abbrev TO:=St->Hp->(Option Int->Hp->Prop)->Prop
def PO(X:Cx)(e:Option Expr)(t:TO):Prop:=
 ∀(pins:List (Addr × Obj)) (s:Shared) (σ:St) (H:Hp) (Q:Option Int->Hp->Prop),Inv X pins σ H s->t σ H Q->
  wpAny (model X.prog X.w) X.A (evalPart e X.env) (fun u s'=>∃o H',Inv X pins σ H' s'/\IsPart u o/\Q o H') X.xe s
def Yrp:TO:=fun _ H Q=>Q none H
def y1f(t:TE):TO:=fun σ H Q=>t σ H fun x H1=>∃i,x=.int i/\Q (some i) H1
theorem Yfm{ns:List Int}:∀{us:List Value},Vals (ns.map V.int) us->IntsAre us ns:=by
 induction ns with
 | nil=>intro us r;rw[List.map_nil]at r;cases r;exact .nil
 | cons n ns ih=>
   intro us r
   rw[Qb]at r
   cases r with
   | cons r1 r2=>
     obtain⟨t,e⟩:=r1
     subst e
     exact .cons n t (ih r2)
section
variable {X:Cx} {e:Expr} {te:TE} {lo hi:Option Expr} {tl th:TO} {pos p2:Pos}
theorem Yxx:PO X none Yrp:=by
 intro pins s σ H Q I h
 rw[evalPart_none]
 exact wpAny_pure ⟨none,H,I,.none,h⟩
theorem Yxy(h:PE X e te):PO X (some e) (y1f te):=by
 intro pins s σ H Q I hw
 rw[evalPart_some]
 refine thn (h pins s σ H _ I hw) fun u s1 hx_=>?_
 obtain⟨x,H1,I1,r1,q1⟩:=hx_
 obtain⟨i,rfl,q⟩:=q1
 obtain⟨t,rfl⟩:=r1
 exact⟨some i,H1,I1,.int i t,q⟩
def SlR(X:Cx)(r:V->Option Int->Option Int->Hp->VK->Prop):Prop:=
 ∀(pins:List (Addr × Obj)) (s:Shared) (σ:St) (H:Hp) (x:V) (v vl vu:Value) (lo hi:Option Int) (sl:Addr) (Q:VK),Inv X pins σ H s->RelV x v->s.heap.IsSliceOf sl vl vu .none->IsPart vl lo->IsPart vu hi->r x lo hi H Q->
  ∃T id,typeLookup (.type T) "__getitem__"=pure (some (.builtin id))/\s.TypeIs v T/\wpAny (model X.prog X.w) X.A (getItem v (.ref sl)) (EP X pins σ Q) X.xe s
def tSl(r:V->Option Int->Option Int->Hp->VK->Prop)(te:TE)(tl th:TO):TE:=fun σ H Q=>te σ H fun x H1=>tl σ H1 fun l H2=>th σ H2 fun u H3=>r x l u H3 Q
theorem Yu4{r:V->Option Int->Option Int->Hp->VK->Prop}(hr:SlR X r)(he:PE X e te)(hl:PO X lo tl)(hu:PO X hi th):PE X (.Subscript e (.Slice lo hi none p2) pos) (tSl r te tl th):=by
 intro pins s σ H Q I h
 refine Subscript_ (thn (he pins s σ H _ I h) fun v s1 hx_=>?_)
 obtain⟨x,H1,I1,r1,q1⟩:=hx_
 refine wpAny_Slice (thn (hl pins s1 σ H1 _ I1 q1) fun vl s2 hx_=>?_)
 obtain⟨l,H2,I2,pl,q2⟩:=hx_
 refine thn (hu pins s2 σ H2 _ I2 q2) fun vu s3 hx_=>?_
 obtain⟨u,H3,I3,pu,q3⟩:=hx_
 rw[evalPart_none]
 refine wpAny_pure ?_
 have I4:Inv X pins σ H3 { s3 with heap:=s3.heap.push { cls:=.type "slice",data:=.fields #[vl,vu,.none] } }:=I3.kept (t':=s3.toks) fun b ob q=>qd _ q
 obtain⟨T,id,hT,ht,hg⟩:=hr pins { s3 with heap:=s3.heap.push { cls:=.type "slice",data:=.fields #[vl,vu,.none] } } σ H3 x v vl vu l u s3.heap.objs.size Q I4 r1 (Heap.IsSliceOf.new ..) pl pu q3
 show wpAny (model X.prog X.w) X.A (subscriptTail e (.Slice lo hi none p2) v (.ref s3.heap.objs.size)) (EP X pins σ Q) X.xe { s3 with heap:=s3.heap.push { cls:=.type "slice",data:=.fields #[vl,vu,.none] } }
 exact tail_any (ops:=[.ref s3.heap.objs.size,v]) ht hT hg (by with_unfolding_all rfl)
def cutV(xs:List V)(lo hi:Option Int):List V:=(xs.drop (HT.sIx xs.length 0 lo)).take (HT.sIx xs.length xs.length hi - HT.sIx xs.length 0 lo)
theorem Yny(xs:List V)(lo hi:Option Int):(cutV xs lo hi).length<=xs.length:=by
 unfold cutV
 rw[List.length_take,List.length_drop]
 lia
def y3y(K:W.Frag):R2:=fun x y H Q=>∃a b xs ys,x=.ref a/\y=.ref b/\SqT K H a xs/\SqT K H b ys/\xs≠[]/\xs.length+ys.length<=sizeLine/\
 (ys=[]->Q (.ref a) H)/\(ys≠[]->∀p,H p=none->Q (.ref p) (upd H p (.tup (xs++ys))))
theorem Vals.nil_iff{xs:List V}{us:List Value}(r:Vals xs us):us=[]↔xs=[]:=by
 cases r with
 | nil=>simp
 | cons _ _=>simp
theorem Yxz:OpR X (binaryOp .Add) (y3y X.K):=by
 intro pins s σ H x y v u Q I rx ry h
 obtain⟨a,b,xs,ys,rfl,rfl,ha,hb,hx,hz,q1,q2⟩:=h
 cases rx
 cases ry
 obtain⟨its,r1,p1,_⟩:=I.tuple ha
 obtain⟨its2,r2,p2,_⟩:=I.tuple hb
 refine HT.cat_tup p1 p2 (fun z=>hx (r1.nil_iff.mp z)) (fun z=>⟨.ref a,H,I,rfl,q1 (r2.nil_iff.mp z)⟩) (fun z=>?_) (by rw[<-r1.length,<-r2.length];exact hz)
 refine⟨.ref s.heap.objs.size,_,I.laid (t':=s.toks) (o:=.tup (xs++ys)) (fun b ob q=>qd _ q) (qt _) ?_,rfl,q2 (fun w=>z (r2.nil_iff.mpr w)) _ (I.hok.fresh (qt _))⟩
 exact⟨by rw[qx];exact hz,_,r1.append r2,IsTup.new _ _⟩
end
end L2
namespace L2
open PySem PySem.Spec PyProof.Rows
def ixN(n:Nat)(i:Int):Option Nat:=if 0<=i then (if i < n then some i.toNat else none)else if -(n:Int)<=i then some (i+n).toNat else none
def atI{α:Type}(xs:List α)(i:Int):Option α:=(ixN xs.length i).bind fun j=>xs[j]?
theorem Yx0{n:Nat}{i:Int}{j:Nat}(h:ixN n i=some j):seqIndex? i n=some j/\j < n/\-(n:Int)<=i/\i < n:=by
 unfold ixN at h
 by_cases h0:0<=i
 ·rw[if_pos h0]at h
  by_cases h1:i < n
  ·rw[if_pos h1]at h
   have e:i.toNat=j:=Option.some.inj h
   exact⟨by rw[seqIndex_of h0 h1,e],by lia,by lia,h1⟩
  ·rw[if_neg h1]at h;cases h
 ·rw[if_neg h0]at h
  by_cases h1:-(n:Int)<=i
  ·rw[if_pos h1]at h
   have e:(i+n).toNat=j:=Option.some.inj h
   exact⟨by rw[seqIndex_neg (by lia) h1,e],by lia,h1,by lia⟩
  ·rw[if_neg h1]at h;cases h
theorem Ynz{α:Type}{xs:List α}{i:Int}{v:α}(h:atI xs i=some v):∃j,seqIndex? i xs.length=some j/\xs[j]?=some v/\j < xs.length/\-(xs.length:Int)<=i/\i < xs.length:=by
 unfold atI at h
 cases e:ixN xs.length i with
 | none=>rw[e]at h;cases h
 | some j=>
   rw[e]at h
   obtain⟨h1,h2,h3,h4⟩:=Yx0 e
   exact⟨j,h1,h,h2,h3,h4⟩
theorem Yn0{α:Type}{xs:List α}{j:Nat}{v:α}(h:xs[j]?=some v):atI xs (j:Int)=some v:=by
 have hj:j < xs.length:=(qm h).1
 have e:ixN xs.length (j:Int)=some j:=by
  unfold ixN
  rw[if_pos (by lia),if_pos (by lia)];simp
 unfold atI;rw[e];exact h
def Yki(b:Expr):Prop:=∀o i,subscripted b false o i=operate [o,i] (getItem o i)
def IxR(X:Cx)(r:R2):Prop:=
 ∀(value slice:Expr) (pins:List (Addr × Obj)) (s:Shared) (σ:St) (H:Hp) (x y:V) (v u:Value) (Q:VK),Inv X pins σ H s->RelV x v->RelV y u->r x y H Q->
  subscripted slice false v u=operate [v,u] (getItem v u)->wpAny (model X.prog X.w) X.A (subscriptTail value slice v u) (EP X pins σ Q) X.xe s
def MtR(X:Cx)(id:String)(r:V->List V->Hp->VK->Prop):Prop:=
 ∀(pins:List (Addr × Obj)) (s:Shared) (σ:St) (H:Hp) (x:V) (xs:List V) (v:Value) (us:List Value) (Q:VK),Inv X pins σ H s->RelV x v->Vals xs us->r x xs H Q->
  wpAny (model X.prog X.w) X.A (call (.builtin id) (v::us)) (EP X pins σ Q) X.xe s
section
variable {X:Cx} {a b:Expr} {ta tb:TE} {pos:Pos}
theorem IxR.or{r r':R2}(h:IxR X r)(h':IxR X r'):IxR X (fun x y H Q=>r x y H Q\/r' x y H Q):=by
 intro value slice pins s σ H x y v u Q I rx ry q hs
 rcases q with q | q
 ·exact h value slice pins s σ H x y v u Q I rx ry q hs
 ·exact h' value slice pins s σ H x y v u Q I rx ry q hs
theorem y3z{r:R2}(hr:IxR X r)(ha:PE X a ta)(hb:PE X b tb)(hs:Yki b):PE X (.Subscript a b pos) (tOp r ta tb):=by
 intro pins s σ H Q I h
 exact Subscript_ (binT ha hb I h fun v u s2 x y H2 I2 rx ry q=>hr a b pins s2 σ H2 x y v u Q I2 rx ry q (hs _ _))
def rIxL(K:W.Frag):R2:=fun x y H Q=>∃p xs i v,x=.ref p/\y=.int i/\SqL K H p xs/\atI xs i=some v/\Q v H
def rIxT(K:W.Frag):R2:=fun x y H Q=>∃p xs i v,x=.ref p/\y=.int i/\SqT K H p xs/\atI xs i=some v/\Q v H
def rIxS:R2:=fun x y H Q=>∃z i c,x=.str z/\y=.int i/\z.length<=sizeLine/\atI z.cps.toList i=some c/\Q (.str ⟨#[c]⟩) H
theorem ix_list:IxR X (rIxL X.K):=by
 intro value slice pins s σ H x y v u Q I rx ry h hs
 obtain⟨p,xs,i,z,rfl,rfl,hq,he,q⟩:=h
 cases rx
 obtain⟨t,rfl⟩:=ry
 obtain⟨its,r,pl,hz⟩:=I.list hq
 obtain⟨j,h1,h2,h3,h4,h5⟩:=Ynz he
 obtain⟨w,ew,rw'⟩:=r.get h2
 have hl:=r.length
 have hn:=Ylu
 have fin:EP X pins σ Q w s:=⟨z,H,I,rw',q⟩
 by_cases h0:0<=i
 ·have hj:i.toNat=j:=by
   rw[seqIndex_of h0 h5]at h1
   exact Option.some.inj h1
  exact item_listR pl.isList h0 (by lia) (by rw[hj];simpa using ew) fin hs
 ·have hj:(i+(its.toArray.size:Int)).toNat=j:=by
   rw[seqIndex_neg (by lia) h4]at h1
   rw[qj,<-hl]
   exact Option.some.inj h1
  exact subscriptTail_builtinR (x:=w) pl.isList.typeIs slot_list_getitem.lookup
   (wpAny_getItem_list_neg (Q:=fun r s'=>r=w/\EP X pins σ Q r s') pl.isList (by lia) (by rw[qj]<;>lia) (by lia) (by rw[hj];simpa using ew) ⟨rfl,fin⟩) hs
theorem ix_tup:IxR X (rIxT X.K):=by
 intro value slice pins s σ H x y v u Q I rx ry h hs
 obtain⟨p,xs,i,z,rfl,rfl,hq,he,q⟩:=h
 cases rx
 obtain⟨t,rfl⟩:=ry
 obtain⟨its,r,pl,hz⟩:=I.tuple hq
 obtain⟨j,h1,h2,h3,h4,h5⟩:=Ynz he
 obtain⟨w,ew,rw'⟩:=r.get h2
 have hl:=r.length
 have hn:=Ylu
 have fin:EP X pins σ Q w s:=⟨z,H,I,rw',q⟩
 exact subscriptTail_builtinR (x:=w) pl.typeIs slot_tuple_getitem.lookup
  (getItem_tuple (j:=j) (Q:=fun r s'=>r=w/\EP X pins σ Q r s') pl (by lia) (by lia) (by rw[qj,<-hl];exact h1) (by simpa using ew) ⟨rfl,fin⟩) hs
theorem y1g:IxR X rIxS:=by
 intro value slice pins s σ H x y v u Q I rx ry h hs
 obtain⟨z,i,c,rfl,rfl,hz,he,q⟩:=h
 obtain⟨t,rfl⟩:=rx
 obtain⟨t',rfl⟩:=ry
 obtain⟨j,h1,h2,h3,h4,h5⟩:=Ynz he
 have hl:z.cps.toList.length=z.length:=by simp[Str.length]
 rw[hl]at h1 h4 h5
 have hn:=Ylu
 exact tail_any (typeIs_str s z t) slot_str_getitem.lookup (getItem_str (c:=c) (by
  have e1:decide (i < -(2 ^ 63:Int))=false:=decide_eq_false (by lia)
  have e2:decide (i≥2 ^ 63)=false:=decide_eq_false (by lia)
  rw[e1,e2,Bool.or_false]) (by rw[h1];simpa using h2) ⟨.str ⟨#[c]⟩,H,I.tok _,⟨_,rfl⟩,q⟩) hs
def rIx(K:W.Frag):R2:=fun x y H Q=>rIxL K x y H Q\/rIxT K x y H Q\/rIxS x y H Q
theorem y1h:IxR X (rIx X.K):=ix_list.or (ix_tup.or y1g)
theorem Ylz(lo hi:Option Int)(n:Nat):(sliceBounds lo hi none n).1=((HT.sIx n 0 lo:Nat):Int)/\(sliceBounds lo hi none n).2.1=((HT.sIx n n hi:Nat):Int)/\(sliceBounds lo hi none n).2.2=1:=by
 refine⟨?_,?_,rfl⟩
 ·cases lo with
  | none=>simp[sliceBounds,HT.sIx]
  | some i=>
    simp only[sliceBounds,HT.sIx,Option.getD_none,show(1:Int) > 0 by decide,if_true]
    by_cases h:i < 0
    ·simp only[h,if_true]<;>lia
    ·simp only[h,if_false]<;>lia
 ·cases hi with
  | none=>simp[sliceBounds,HT.sIx]
  | some i=>
    simp only[sliceBounds,HT.sIx,Option.getD_none,show(1:Int) > 0 by decide,if_true]
    by_cases h:i < 0
    ·simp only[h,if_true]<;>lia
    ·simp only[h,if_false]<;>lia
theorem Ykj(its:List Value)(lo hi:Option Int):slicePick its.toArray lo hi none=((its.drop (HT.sIx its.length 0 lo)).take (HT.sIx its.length its.length hi - HT.sIx its.length 0 lo)).toArray:=by
 obtain⟨h1,h2,h3⟩:=Ylz lo hi its.toArray.size
 unfold slicePick
 rw[h1,h2,h3]
 simp only[sliceRange_one,pick_run,qj]<;>rfl
def rSlL(K:W.Frag):V->Option Int->Option Int->Hp->VK->Prop:=fun x lo hi H Q=>∃a xs,x=.ref a/\SqL K H a xs/\∀p,H p=none->Q (.ref p) (upd H p (.lst (cutV xs lo hi)))
theorem Yx1:SlR X (rSlL X.K):=by
 intro pins s σ H x v vl vu lo hi sl Q I rx hs pl pu h
 obtain⟨a,xs,rfl,hx,q⟩:=h
 cases rx
 obtain⟨its,r,ht,hz⟩:=I.list hx
 have hlen:=r.length
 refine⟨"list",_,slot_list_getitem.lookup,ht.isList.typeIs,?_⟩
 refine wpAny_getItem_list_slice ht.isList hs pl pu .none (by simp) ?_ (by rw[qj]<;>lia)
 rw[Ykj,<-hlen]
 refine⟨.ref s.heap.objs.size,_,I.laid (t':=s.toks) (o:=.lst (cutV xs lo hi)) (fun b ob q=>qd _ q) (qt _) ?_,rfl,q _ (I.hok.fresh (qt _))⟩
 exact⟨Nat.le_trans (Yny xs lo hi) hz,_,0,(r.drop (HT.sIx xs.length 0 lo)).take (HT.sIx xs.length xs.length hi - HT.sIx xs.length 0 lo),qo _ rfl⟩
theorem Yz:Yb5 X (.builtin "len") (fun xs H Q=>∃p ys,xs=[.ref p]/\(SqL X.K H p ys\/SqT X.K H p ys)/\Q (.int ys.length) H):=by
 intro pins s σ H xs us Q I r h
 obtain⟨p,ys,rfl,hq,q⟩:=h
 obtain⟨u,rfl,rx⟩:=Ygl r
 cases rx
 have hn:=Ylu
 rcases hq with hq | hq
 ·obtain⟨its,r',pl,hz⟩:=I.list hq
  have hlen:=r'.length
  exact Calls.call_len_list pl.isList (by simp only[qj]<;>lia) ⟨.int ys.length,H,I.tok _,⟨s.toks+1,by rw[qj,hlen]⟩,q⟩
 ·obtain⟨its,r',pl,hz⟩:=I.tuple hq
  have hlen:=r'.length
  exact len_tuple pl (by simp only[qj]<;>lia) ⟨.int ys.length,H,I.tok _,⟨s.toks+1,by rw[qj,hlen]⟩,q⟩
theorem Yl0:Yb5 X (.type "list") (fun xs H Q=>∃p ys,xs=[.ref p]/\(SqL X.K H p ys\/SqT X.K H p ys)/\∀l,H l=none->Q (.ref l) (upd H l (.lst ys))):=by
 intro pins s σ H xs us Q I r h
 obtain⟨p,ys,rfl,hq,q⟩:=h
 obtain⟨u,rfl,rx⟩:=Ygl r
 cases rx
 have fin:∀(its:List Value),Vals ys its->ys.length<=sizeLine->∀(h':Heap) (c':Nat),(∀b o',s.heap.get? b=some o'->h'.get? b=some o')->
  h'.get? s.heap.objs.size=some { cls:=.type "list",dict:=none,data:=.seq its.toArray c',slots:=#[] }->EP X pins σ Q (.ref s.heap.objs.size) { s with heap:=h' }:=fun its r' hz h' c' kp e=>
  ⟨.ref s.heap.objs.size,_,I.laid (t':=s.toks) kp (qt _) (show ObjOk X.prog X.w _ h' _ (.lst ys) from⟨hz,its,c',r',e⟩),rfl,q _ (I.hok.fresh (qt _))⟩
 rcases hq with hq | hq
 ·obtain⟨its,r',pl,hz⟩:=I.list hq
  have hlen:=r'.length
  obtain⟨o,ho,hc,n,hd⟩:=pl.isList
  exact call_list_seq p (.inl rfl) ho hc hd (fun h' c' kp e=>fin its r' hz h' c' kp e) (by simp only[qj]<;>lia)
 ·obtain⟨its,r',pl,hz⟩:=I.tuple hq
  have hlen:=r'.length
  obtain⟨o,ho,hc,n,hd⟩:=pl
  exact call_list_seq p (.inr rfl) ho hc hd (fun h' c' kp e=>fin its r' hz h' c' kp e) (by simp only[qj]<;>lia)
theorem Yau:Yb5 X (.type "tuple") (fun xs H Q=>∃p ys,xs=[.ref p]/\((SqL X.K H p ys/\∀l,H l=none->Q (.ref l) (upd H l (.tup ys)))\/(SqT X.K H p ys/\Q (.ref p) H))):=by
 intro pins s σ H xs us Q I r h
 obtain⟨p,ys,rfl,h⟩:=h
 obtain⟨u,rfl,rx⟩:=Ygl r
 cases rx
 rcases h with⟨hq,q⟩ | ⟨hq,q⟩
 ·obtain⟨its,r',pl,hz⟩:=I.list hq
  have hlen:=r'.length
  refine call_tuple_list pl.isList (fun h' kp=>?_) (by simp only[qj]<;>lia)
  have I1:Inv X pins σ H { s with heap:=h' }:=I.kept (t':=s.toks) kp
  have I2:Inv X pins σ (upd H h'.objs.size (.tup ys)) { s with heap:=h'.push { cls:=.type "tuple",data:=.seq its.toArray } }:=
   I1.laid (t':=s.toks) (fun b o e=>qd _ e) (qt _) (show ObjOk X.prog X.w _ _ _ (.tup ys) from⟨hz,its,r',IsTup.new _ _⟩)
  exact⟨.ref h'.objs.size,_,I2,rfl,q _ (I1.hok.fresh (qt _))⟩
 ·obtain⟨its,r',pl,hz⟩:=I.tuple hq
  exact call_tuple_same pl ⟨.ref p,H,I,rfl,q⟩
def tyV(K:W.Frag)(T:String)(x:V)(H:Hp):Prop:=match x with
 | .str _=>T="str"
 | .int _=>T="int"
 | .ref p=>(T="list"/\∃xs,SqL K H p xs)\/(T="tuple"/\∃o,K.lookup p=some o/\o.cls=.type "tuple"/\o.dict=none)\/
  (T="dict"/\((∃kvs,H p=some (.dK kvs))\/∃kvs,H p=some (.dT kvs)))\/(T="set"/\∃S n,H p=some (.set S n))
 | _=>False
theorem y1i{pins:List (Addr × Obj)}{σ:St}{H:Hp}{s:Shared}{T:String}{x:V}{v:Value}(I:Inv X pins σ H s)(r:RelV x v)(ty:tyV X.K T x H) :
 s.TypeIs v T/\∀a,v=.ref a->∃ob,s.heap.get? a=some ob/\ob.dict=none:=by
 cases x with
 | str z=>
   obtain⟨t,rfl⟩:=r
   cases (show T="str" from ty)
   exact⟨typeIs_str s z t,fun _ e=>nomatch e⟩
 | int i=>
   obtain⟨t,rfl⟩:=r
   cases (show T="int" from ty)
   exact⟨typeIs_int s i t,fun _ e=>nomatch e⟩
 | ref p=>
   cases r
   rcases ty with⟨rfl,xs,hq⟩ | ⟨rfl,o,hk,hc,hd⟩ | ⟨rfl,hk⟩ | ⟨rfl,S,n,hk⟩
   ·obtain⟨its,_,pl,_⟩:=I.list hq
    refine⟨pl.isList.typeIs,fun a e=>?_⟩
    cases e
    obtain⟨o,n,e,c,hd,_⟩:=pl
    exact⟨o,e,hd⟩
   ·refine⟨⟨o,I.kIn p o hk,hc⟩,fun a e=>?_⟩
    cases e
    exact⟨o,I.kIn _ o hk,hd⟩
   ·have z:∃o,s.heap.get? p=some o/\o.ExactDict:=by
     rcases hk with⟨kvs,hk⟩ | ⟨kvs,hk⟩
     ·obtain⟨_,_,_,_,o,_,_,e,ex,_⟩:=I.hok p _ hk
      exact⟨o,e,ex⟩
     ·obtain⟨_,_,_,_,o,_,_,e,ex,_⟩:=I.hok p _ hk
      exact⟨o,e,ex⟩
    obtain⟨o,e,ex⟩:=z
    refine⟨⟨o,e,ex.1⟩,fun a e2=>?_⟩
    cases e2
    exact⟨o,e,ex.2.1⟩
   ·obtain⟨o,_,_,_,e,ex,_⟩:=I.hok p _ hk
    refine⟨⟨o,e,ex.1⟩,fun a e2=>?_⟩
    cases e2
    exact⟨o,e,ex.2.1⟩
 | _=>exact False.elim ty
def tBM(K:W.Frag)(T:String)(r:V->List V->Hp->VK->Prop)(to:TE)(t:TA):TE:=fun σ H Q=>to σ H fun x H1=>tyV K T x H1/\t σ H1 fun xs H2=>r x xs H2 Q
variable {o e:Expr} {es:List Expr} {to:TE} {t:TA} {name:Str} {apos cpos:Pos} {T id:String} {r:V->List V->Hp->VK->Prop}
theorem Yx2(pa:PlainAttrs T)(slot:Slot T name id)(hty:typeOf (.builtin id)=pure (.type "method_descriptor"))(hm:MtR X id r)(ho:PE X o to)(ha:PA X (e::es) t)
 (hbase:attributeBase o name X.env (eval o X.env)=eval o X.env:=by rfl)
 (hfew:((backTo cpos (starEach (e::es) X.env)).all (fun x=>!x.1)&&(backToKw cpos (keywordEach [] X.env)).all (fun x=>x.1.isSome)
  &&decide ((e::es).length+([]:List Keyword).length+(if ([]:List Keyword).isEmpty then 0 else 1) < 30))=true:=by rfl)
 (hline:(apos.endLine==cpos.line)=true:=by rfl) (hs:starEach (e::es) X.env=(false,eval e X.env)::starEach es X.env:=by rfl) (hplain:(backTo cpos (starEach es X.env)).any (·.1)=false:=by rfl) :
 PE X (.Call (.Attribute o name apos) (e::es) [] cpos) (tBM X.K T r to t):=by
 intro pins s σ H Q I h
 refine wpAny_Call_method_late hbase hfew hline rfl (thn (ho pins s σ H _ I h) fun v s1 hx_=>?_)
 obtain⟨x,H1,I1,r1,ty,q1⟩:=hx_
 obtain⟨h1,h2⟩:=y1i I1 r1 ty
 refine⟨T,id,pa,slot,hty,h1,h2,?_⟩
 have hA:=ha cpos pins s1 σ H1 _ I1 q1
 rw[hs]at hA ⊢
 refine Calls.callWith_builtin (by show(false||(backTo cpos (starEach es X.env)).any (·.1))=false;rw[hplain]<;>rfl) (Calls.evalArgs_plain ?_)
 refine thn hA fun us s2 hx_=>?_
 obtain⟨vs,H2,I2,r2,q2⟩:=hx_
 exact hm pins s2 σ H2 x vs v us Q I2 r1 r2 q2
end
end L2
namespace L2
open PySem PySem.Spec PyProof.Rows
def MtM(X:Cx)(id:String)(r:V->List V->Hp->VK->Prop):Prop:=
 ∀(pins:List (Addr × Obj)) (s:Shared) (σ:St) (H:Hp) (x:V) (xs:List V) (v:Value) (us:List Value) (Q:VK),Inv X pins σ H s->RelV x v->Vals xs us->r x xs H Q->
  wpAny (model X.prog X.w) X.A (call (.builtin id) (v::us)) (EP X pins σ Q) X.xe s
theorem Vals.one:∀{x:V} {us:List Value},Vals [x] us->∃u,us=[u]/\RelV x u
 :=by
  intro x us h
  cases h with
  | cons r t=>
    cases t
    exact⟨_,rfl,r⟩
section
variable {X:Cx} {pins:List (Addr × Obj)} {σ:St} {H:Hp} {s:Shared} {l b:Addr} {xs ys zs:List V}
theorem Inv.lset{its its':List Value}{n:Nat}{f:Array Value->Array Value}{t':Nat}(I:Inv X pins σ H s)(hH:H l=some (.lst xs))
 (e:s.heap.get? l=some { cls:=.type "list",data:=.seq its.toArray n }) (hf:f its.toArray=its'.toArray) (hv:Vals ys its') (hz:ys.length<=sizeLine) :
 Inv X pins σ (upd H l (.lst ys)) { s with heap:=s.heap.update l (Obj.mapSeq f),toks:=t' }:=by
 have q:=PySem.IsL.update e f
 rw[hf]at q
 refine I.write (x:=l) (e:=l) (by rw[hH];exact trivial) (.inl rfl) (fun b' u hb hu=>(Heap.get?_update_other s.heap (Obj.mapSeq f) (Ne.symm hb)).trans hu) ⟨_,q⟩ ?_
 exact⟨hz,its',_,hv,q⟩
theorem Inv.lnew{its:List Value}{t':Nat}(I:Inv X pins σ H s)(hv:Vals ys its)(hz:ys.length<=sizeLine) :
 Inv X pins σ (upd H s.heap.objs.size (.lst ys)) { s with heap:=s.heap.push { cls:=.type "list",data:=.seq its.toArray },toks:=t' }:=
 I.laid (fun _ _ q=>qd _ q) (qt _) ⟨hz,its,0,hv,qo _ rfl⟩
theorem Inv.fresh(I:Inv X pins σ H s):H s.heap.objs.size=none:=I.hok.fresh (qt _)
theorem Inv.lstM(I:Inv X pins σ H s)(hH:H l=some (.lst xs)):xs.length<=sizeLine/\∃(its:List Value) (n:Nat),Vals xs its/\xs.length=its.length/\s.heap.get? l=some { cls:=.type "list",data:=.seq its.toArray n }:=by
 obtain⟨z,its,n,r,e⟩:=I.hok l _ hH
 exact⟨z,its,n,r,r.length,e⟩
theorem Yu5{n:Nat}(h:n<=sizeLine):Builtin.List.listTooLong n=false:=by
 unfold Builtin.List.listTooLong
 exact decide_eq_false (by lia)
def Yx3:V->List V->Hp->VK->Prop:=fun x vs H Q=>∃l xs y,x=.ref l/\vs=[y]/\H l=some (.lst xs)/\xs.length < sizeLine/\Q .non (upd H l (.lst (xs++[y])))
theorem Yl1:MtM X "list.append" Yx3:=by
 intro pins s σ H x vs v us Q I rx rv h
 obtain⟨l,xs,y,rfl,rfl,hH,hz,q⟩:=h
 cases rx
 obtain⟨u,rfl,ru⟩:=rv.one
 obtain⟨z,its,n,r,hl,e⟩:=I.lstM hH
 refine call_meets F.slot_list_append ⟨_,e,rfl⟩ F.entry_list_append (F.args_list_append_2 _ _) (PySem.list_append l its.toArray n u (by rw[qj];lia)) ⟨e,?_⟩
 refine⟨.non,_,I.lset (its':=its++[u]) hH e (by simp) (r.append (.cons ru .nil)) ?_,rfl,q⟩
 rw[qx,List.length_singleton]
 lia
end
end L2
namespace Att
open PySem PySem.W PySem.Calls PyProof.Rows
theorem Yhf{P:Params}{h:Heap}:∀(ns:List Int) (vs:List Value),WellAll P h vs (ns.map WData.int)->IntsAre vs ns:=by
 intro ns
 induction ns with
 | nil=>
   intro vs w
   rw[List.map_nil]at w
   cases w
   exact .nil
 | cons n ns ih=>
   intro vs w
   rw[Qb]at w
   cases w with
   | cons a b=>
     cases a
     exact .cons _ _ (ih _ b)
theorem Yrq{l:OpenLaw}{n:Nat}(hn:l.most=some n){P:Params}{h:Heap}{args:List WData}{vals:List Value}
 (hpre:l.row.toRowW.claim.pre args=true) (hwl:WellAll P h vals args) :
 ∃a vs ns,vals=[Value.ref a]/\args=[WData.list (ns.map WData.int)]/\h.get? a=some { cls:=.type "list",data:=.seq vs.toArray }/\IntsAre vs ns/\ns.length<=n:=by
 have hsh:WShape.hasAll [] args [.list .int]=true:=(pre_splitW hpre).1
 have hc:l.pre.holds [] { args:=args }=true:=(pre_splitW hpre).2
 obtain⟨d,r,rfl,h1,h2⟩:=hasAllW_cons hsh
 obtain rfl:=hasAllW_nil h2
 obtain⟨xs,rfl,h3⟩:=hasW_list h1
 obtain⟨ns,rfl⟩:=items_int h3
 have hlen:ns.length<=n:=by
  unfold OpenLaw.pre at hc
  have h4:(WTm.not (.lt (.lit (.int (n:Int))) (.len (.arg 0)))).holds [] { args:=[.list (ns.map .int)] }=true:=by
   have h4:=(holds_andW hc).1
   rw[hn]at h4
   exact h4
  have h5:=condW_of h4 (w_not (w_lt w_lit (w_len_list (w_arg rfl))))
  rw[qe]at h5
  refine Nat.le_of_not_lt fun q=>?_
  have q':(n:Int) < ((ns.length:Nat):Int):=by lia
  first
   | (rw[decide_eq_true q']at h5;exact absurd h5 (by decide))
   | (simp at h5;lia)
 cases hwl with
 | cons w1 w2=>
   cases w2
   cases w1 with
   | list ho hall=>exact⟨_,_,ns,rfl,rfl,ho,Yhf ns _ hall,hlen⟩
theorem Yrr(l:OpenLaw)(args:List WData):l.row.toRowW.claim.post args (.bool true) args=true:=
 postW_of (r:=l.row.toRowW) (X:=(true==true))
  (show WShape.has [] (.bool true) .bool=true by first | rfl | decide | simp[WShape.has,WShape.arms,WShape.armsAll])
  (show(WTm.eq .res (.lit (.bool true))).value [] { args:=args,res:=some (.bool true),after:=args }=some (.bool (true==true)) from w_eq_bool (w_res rfl) w_lit) rfl
theorem attach_call{l:OpenLaw}{n:Nat}{q:Program}{loose:List Str}{XP:(Str->Option Value)->Heap->Prop}{YP:World->Heap->Prop}{d:DefRec}
 (hn:l.most=some n) (hdf:d.params.defaults=[])
 (call:∀(w:World) (s₀ s₁:Shared) (mg mb:Str->Option Value) (fa:Addr) (o:Obj) (pm cd doc:Value) (a:Addr) (vs:List Value) (ns:List Int),
  Ground q loose [] XP w s₀ mg mb s₁.heap->YP w s₁.heap->
  s₁.heap.get? fa=some o->o.data=.func (docDef d.name d.params d.body d.scope pm cd doc)->s₁.heap.CodeRec cd d.name->mg d.name=some (.ref fa)->
  s₁.heap.get? a=some { cls:=.type "list",data:=.seq vs.toArray }->IntsAre vs ns->ns.length<=n->s₁.gens=#[]->
  codeAny (model l.prog w) callerA (.call (.ref fa) ⟨[.ref a],[]⟩) (fun r s'=>r=.ok (.ret (.bool true))/\OldK s₁.heap s'.heap/\s'.os=s₁.os/\AllBare s'.gens) s₁) :
 WalkO q loose XP YP l.row.toRowW d [] (fun f vs=>PySem.call f vs):=by
 intro w s₀ s₁ mg mb G Y fa o pm cd doc dV kV ho hd hcd hD hmg hg args vals as hpre hlay hrd hwl hlo
 obtain rfl:dV=.none:=Dflts.none hD hdf
 obtain rfl:kV=.none:=Dflts.noKw hD
 obtain⟨a,vs,ns,rfl,rfl,hobj,hints,hlen⟩:=Yrq hn hpre hwl
 refine enter_call (codeAny_mono (call w s₀ s₁ mg mb fa o pm cd doc a vs ns G Y ho (fd_plain hd) hcd hmg hobj hints hlen hg) fun r s' hq=>?_)
 obtain⟨rfl,h2,h3,h4⟩:=hq
 exact⟨.inl ⟨.bool true,.bool true,[],rfl,fun _=>rfl,.bool true,Yrr l _,fun _=>⟨List.Pairwise.nil,fun _ hm=>(nomatch hm)⟩⟩,h2,h3,h4⟩
end Att
namespace L2
open PySem PySem.Spec PyProof.Rows
theorem Yhg:∀{vs:List Value} {ns:List Int},IntsAre vs ns->Vals (ns.map V.int) vs
 | _,_,.nil=>.nil
 | _,_,.cons n t h=>.cons ⟨t,rfl⟩ (Yhg h)
def Only(H:Hp):Prop:=∀b,H b=none\/∃o xs,H b=some (.frz o (.lst xs))
theorem Yu6{P:Program}{w:World}{K:W.Frag}{mg mb:Str->Option Value}{CX:CXT}{k:Nat}{fa a:Addr}{fd:FuncData}{x:Str}{sp:Sp}{s₁:Shared}{vs:List Value}{ns:List Int}
 (KX:K.In s₁.heap) (hns:s₁.heap.Ns mainGlobals mg) (hb:s₁.heap.Ns builtinsNs mb) (hbb:∀x:Str,x≠"__name__"->mb x=bootBuiltins x) (hlim:s₁.heap.NoLimit) (hg:s₁.gens=#[])
 (ha:s₁.heap.get? a=some { cls:=.type "list",data:=.seq vs.toArray }) (hi:IntsAre vs ns) (hl:ns.length<=sizeLine) (hr:Room k callerA)
 (F:∀base:Heap,K.In base->base.Ns mainGlobals mg->FnOk P w K mg base CX k fa fd [x] sp) (hbind:∀(s:Shared) (u:Value),BindsTo s fd ⟨[u],[]⟩ [(x,u)])
 (hsp:∀H:Hp,Only H->SqL K H a (ns.map V.int)->sp [.ref a] H (fun v _=>v=.bl true) fun _ _ _=>False)
 (hCX:∀H e s',CX [] H s₁ (fun _ _ _=>False) e s'->False) :
 codeAny (model P w) callerA (.call (.ref fa) ⟨[.ref a],[]⟩) (fun r s'=>r=.ok (.ret (.bool true))/\OldK s₁.heap s'.heap/\s'.os=s₁.os/\AllBare s'.gens) s₁:=by
 have rv:=Yhg hi
 have lenV:=hi.length
 have core:∀H:Hp,Only H->SqL K H a (ns.map V.int)->HOk P w H s₁.heap->(∀b,H b≠none->b=a)->(H a≠none->K.lookup a=none)->
  codeAny (model P w) callerA (.call (.ref fa) ⟨[.ref a],[]⟩) (fun r s'=>r=.ok (.ret (.bool true))/\OldK s₁.heap s'.heap/\s'.os=s₁.os/\AllBare s'.gens) s₁:=by
  intro H hO hS hok hA hK
  have base_of:∀{b:Addr} {o:Obj},s₁.heap.get? b=some o->H b=none->(hidT s₁.heap H).get? b=some o:=fun e n=>Yuz e n
  have noA:∀{b:Addr} {o:Obj} {es:Array DictEntry} {ep:Nat},s₁.heap.get? b=some o->o.data=.dict es ep->H b=none:=fun {b o es ep} e d=>by
   cases q:H b with
   | none=>rfl
   | some u=>
     have e':b=a:=hA b (by rw[q];simp)
     subst e'
     rw[ha]at e;cases e
     have d':Data.seq vs.toArray _=Data.dict es ep:=d
     cases d'
  have nsK:∀{b:Addr} {m:Str->Option Value},s₁.heap.Ns b m->(hidT s₁.heap H).Ns b m:=fun {b m} ⟨o,es,ep,e,d,r⟩=>⟨o,es,ep,base_of e (noA e d),d,r⟩
  have hKb:K.In (hidT s₁.heap H):=fun b o e=>base_of (KX b o e) (by
   cases q:H b with
   | none=>rfl
   | some u=>
     have e':b=a:=hA b (by rw[q];simp)
     subst e'
     rw[hK (by rw[q];simp)]at e;cases e)
  have hM:Mod K mg (hidT s₁.heap H):=⟨hKb,nsK hns,⟨mb,nsK hb,hbb⟩,let ⟨mc,h1,h2⟩:=hlim;⟨mc,nsK h1,h2⟩⟩
  have e0:Env0 P w K mg (hidT s₁.heap H) callerA [] s₁ H:=⟨rfl,hM,fun b o e=>Yxm e,Nat.le_of_eq (Yrd _ _),trivial,fun b hb=>absurd (show b∈([]:List Addr) from hb) (by simp),hok,.of_eq hg⟩
  refine codeAny_mono ((F _ hKb (nsK hns)).run callerA [] s₁ H ⟨[.ref a],[]⟩ [.ref a] [.ref a] _ _ hr e0 (hbind s₁ (.ref a)) (.cons rfl .nil) (hsp H hO hS)) fun r s' h=>?_
  cases r with
  | error e=>exact(hCX H e s' h).elim
  | ok fl=>
    cases fl with
    | next=>exact False.elim h
    | brk=>exact False.elim h
    | cont=>exact False.elim h
    | ret u=>
      obtain⟨v,H',os,bare,un,hok',r',q⟩:=h
      have q':v=.bl true:=q
      subst q'
      obtain rfl:u=Value.bool true:=r'
      refine⟨rfl,OldK.of_keep fun b o e=>?_,os,bare⟩
      cases q:H b with
      | none=>exact un.keep b o e q (by intro z;exact absurd (show b∈([]:List Addr) from z) (by simp)) (by simp)
      | some u=>
        rcases hO b with z | ⟨ob,xs,z⟩
        ·rw[q]at z;cases z
        ·have z2:=un.frzs b ob _ z
         obtain⟨e1,_⟩:=hok b _ z
         obtain⟨e2,_⟩:=hok' b _ z2
         rw[e]at e1;cases e1
         exact e2
 cases hk:K.lookup a with
 | some o=>
   have e:=KX a o hk
   rw[ha]at e
   cases e
   refine core (fun _=>none) (fun _=>.inl rfl) (.inr ⟨_,vs.toArray,_,hk,rfl,rfl,rfl,by rw[qj,lenV];exact hl,by simpa using rv⟩) (fun b u z=>by have z':(none:Option HO)=some u:=z;cases z') (fun b z=>absurd rfl z) fun z=>absurd rfl z
 | none=>
   refine core (fun b=>if b=a then some (.frz { cls:=.type "list",data:=.seq vs.toArray } (.lst (ns.map V.int)))else none) (fun b=>?_) (.inl (.inr ⟨{ cls:=.type "list",data:=.seq vs.toArray },if_pos rfl⟩)) (fun b u z=>?_) (fun b z=>?_) fun _=>hk
   ·by_cases hb:b=a
    ·exact .inr ⟨_,_,if_pos hb⟩
    ·exact .inl (if_neg hb)
   ·by_cases hb:b=a
    ·have z':=(if_pos hb).symm.trans z
     cases z'
     subst hb
     exact⟨ha,by rw[qe];exact hl,vs,_,rv,ha⟩
    ·have z':=(if_neg hb).symm.trans z
     cases z'
   ·by_cases hb:b=a
    ·exact hb
    ·exact absurd (if_neg hb) z
end L2
namespace L2
open PySem PySem.Spec PyProof.Rows
theorem walk_of{l:W.OpenLaw}{n k:Nat}{q:Program}{loose:List Str}{XP:(Str->Option Value)->Heap->Prop}{YP:World->Heap->Prop}{d:DefRec}{K:Params->W.Frag}{CX:World->CXT}{sp:World->Sp}{x:Str}
 (hn:l.most=some n) (hn2:n<=sizeLine) (hdf:d.params.defaults=[]) (hr:Room k callerA)
 (hY:∀(w:World) (h:Heap),YP w h->(K w.params).In h)
 (F:∀(w:World) (mg:Str->Option Value) (fa:Addr) (h:Heap),(K w.params).In h->h.Ns mainGlobals mg->mg d.name=some (.ref fa)->
  ∃fd:FuncData,(∀(s:Shared) (u:Value),BindsTo s fd ⟨[u],[]⟩ [(x,u)])/\
   ∀base:Heap,(K w.params).In base->base.Ns mainGlobals mg->FnOk l.prog w (K w.params) mg base (CX w) k fa fd [x] (sp w))
 (hsp:∀(w:World) (H:Hp) (a:Addr) (ns:List Int),ns.length<=n->Only H->SqL (K w.params) H a (ns.map V.int)->sp w [.ref a] H (fun v _=>v=.bl true) fun _ _ _=>False)
 (hCX:∀(w:World) (H:Hp) (s:Shared) (e:Value) (s':Shared),CX w [] H s (fun _ _ _=>False) e s'->False) :
 W.WalkO q loose XP YP l.row.toRowW d [] (fun f vs=>PySem.call f vs):=by
 refine Att.attach_call hn hdf fun w s₀ s₁ mg mb fa o pm cd doc a vs ns G Y ho hd hcd hmg hobj hints hlen hg=>?_
 have KX:=hY w _ Y
 obtain⟨fd,hb,hF⟩:=F w mg fa _ KX G.T.g hmg
 exact Yu6 KX G.T.g G.T.b G.T.builtins G.T.nolimit hg hobj hints (Nat.le_trans hlen hn2) hr hF hb (fun H hO hS=>hsp w H a ns hlen hO hS) fun H e s'=>hCX w H s₁ e s'
end L2
namespace L2
open PySem PySem.Spec PyProof.Rows
def defArgs(s:Stmt):Arguments:=match s with
 | .FunctionDef _ a _ _ _ _ _ _ _ _=>a
 | _=>{ posonlyargs:=[],args:=[],vararg:=none,kwonlyargs:=[],kw_defaults:=[],kwarg:=none,defaults:=[] }
def defBody(s:Stmt):List Stmt:=match s with
 | .FunctionDef _ _ b _ _ _ _ _ _ _=>b
 | _=>[]
def defScope(s:Stmt):Scope:=match s with
 | .FunctionDef _ _ _ _ _ _ sc _ _ _=>sc
 | _=>{ kind:=.function,names:=[],isGenerator:=false,isCoroutine:=false }
abbrev CX0:CXT:=fun _ _ _ _ _ _=>False
abbrev E0:XK:=fun _ _ _=>False
theorem y30{X:Cx}:Ypg CX0 X E0:=fun _ _ _ _ _ _ _ h=>h.elim
structure Fun(K:W.Frag)(x qual:Str)(st:Stmt)(f:Addr)(fd:FuncData):Prop where
 ex:∃(oc:Value) (od:Option Addr) (kV doc pm:Value) (an:Option Addr) (cdv ct:Value) (osl:Array (Option Value)),
  fd=W.fnOf x qual (defArgs st) (defBody st) (defScope st) .none kV doc pm an cdv ct/\K.lookup f=some ⟨oc,od,.func fd,osl⟩/\W.codeIn K cdv qual=true
 kp:W.keepIn K (.ref f)=true
section
variable {P:Program} {w:World} {K:W.Frag} {mg:Str->Option Value} {base:Heap}
theorem Fun.ok{x qual:Str}{st:Stmt}{f:Addr}{fd:FuncData}{N ps:List Str}{k:Nat}{sp:Sp}(F:Fun K x qual st f fd)(S:FnScope N ps (defScope st))(len:∀vs H Q E,sp vs H Q E->vs.length=ps.length)
 (hbody:∀(cdv:Value) (A:Around) (outer:List Env) (s:Shared) (H:Hp) (vs:List V) (Q:VK) (E:XK),Room k (A.deeper (envOfC qual (defScope st) s.heap.objs.size f cdv))->sp vs H Q E->
  ∃t,PSs (cxOf CX0 P w K mg base N qual (defScope st) f cdv A outer s H E).nox (defBody st) t/\t { nx:=fun _ H'=>Q .non H',rt:=Q } (start N vs) H):FnOk P w K mg base CX0 (k+1) f fd ps sp:=by
 obtain⟨oc,od,kV,doc,pm,an,cdv,ct,osl,rfl,lk,hcd⟩:=F.ex
 refine y1e lk hcd S len fun A outer s H vs Q E hr hsp=>?_
 obtain⟨t,h,q⟩:=hbody cdv A outer s H vs Q E hr hsp
 exact⟨t,h.nox,q⟩
theorem Fun.binds{x qual:Str}{st:Stmt}{f:Addr}{fd:FuncData}{ps:List Str}(F:Fun K x qual st f fd)
 (h:∀(kV doc pm:Value) (an:Option Addr) (cdv ct:Value) (us:List Value),us.length=ps.length->bindArgs (W.fnOf x qual (defArgs st) (defBody st) (defScope st) .none kV doc pm an cdv ct) ⟨us,[]⟩=pure (ps.zip us)):Binds K fd ps []:=by
 obtain⟨oc,od,kV,doc,pm,an,cdv,ct,osl,rfl,lk,hcd⟩:=F.ex
 exact .all (h kV doc pm an cdv ct)
theorem Yww{x qual:Str}{st:Stmt}{f:Addr}{oc:Value}{od an:Option Addr}{osl:Array (Option Value)}{kV doc pm cdv ct:Value}(l:K.lookup f=some ⟨oc,od,.func (W.fnOf x qual (defArgs st) (defBody st) (defScope st) .none kV doc pm an cdv ct),osl⟩)
 (c:W.codeIn K cdv qual=true) (k:W.keepIn K (.ref f)=true):Fun K x qual st f (W.fnOf x qual (defArgs st) (defBody st) (defScope st) .none kV doc pm an cdv ct):=⟨⟨oc,od,kV,doc,pm,an,cdv,ct,osl,rfl,l,c⟩,k⟩
end
def Same(H H':Hp):Prop:=∀b o,H b=some o->H' b=some o
theorem Same.refl(H:Hp):Same H H:=fun _ _ h=>h
theorem Same.trans{H H1 H2:Hp}(a:Same H H1)(b:Same H1 H2):Same H H2:=fun c o h=>b c o (a c o h)
theorem Same.free{H H':Hp}(e:Same H H'){l:Addr}(h:H' l=Option.none):H l=Option.none:=by
 cases q:H l with
 | none=>rfl
 | some o=>
   rw[e l o q]at h
   cases h
theorem Same.seq{K:W.Frag}{H H':Hp}{a:Addr}{xs:List V}(e:Same H H')(h:SqL K H a xs):SqL K H' a xs:=by
 rcases h with(h | ⟨o,h⟩) | h
 ·exact .inl (.inl (e _ _ h))
 ·exact .inl (.inr ⟨o,e _ _ h⟩)
 ·exact .inr h
end L2
namespace L2
open PySem PySem.Spec PyProof.Rows
def clOf(env:Env):List (Str × NameKind)->List (Str × Addr)->List (Str × Addr)
 | [],cs=>cs
 | (n,k)::r,cs=>if (k==NameKind.free)=true then (match env.cells.lookup n with | some c=>clOf env r ((n,c)::cs) | none=>clOf env r cs)else clOf env r cs
theorem Ydn{scope:Scope}{env:Env}(h:∀x∈scope.names,x.2=NameKind.free->∃c,env.cells.lookup x.1=some c):closureFor scope env=pure (clOf env scope.names []):=by
 have key:∀(l:List (Str × NameKind)) (cs:List (Str × Addr)),(∀x∈l,x.2=NameKind.free->∃c,env.cells.lookup x.1=some c)->
  (forIn l cs fun(x:Str × NameKind) (r:List (Str × Addr))=>if (x.2==NameKind.free)=true then (do let c <-cellOf env x.1;pure (ForInStep.yield ((x.1,c)::r)))else pure (ForInStep.yield r))=(pure (clOf env l cs):Sem (List (Str × Addr))):=by
  intro l
  induction l with
  | nil=>intro cs _;rfl
  | cons x l ih=>
    intro cs hl
    obtain⟨n,k⟩:=x
    have ht:=fun y hy=>hl y (qf _ hy)
    rw[List.forIn_cons]
    by_cases hk:k=NameKind.free
    ·subst hk
     obtain⟨c,hc⟩:=hl (n,NameKind.free) qg rfl
     have hc':env.cells.lookup n=some c:=hc
     have e1:cellOf env n=pure c:=by unfold cellOf;rw[hc']
     have hff:(NameKind.free==NameKind.free)=true:=rfl
     show(if (NameKind.free==NameKind.free)=true then (do let c <-cellOf env n;pure (ForInStep.yield ((n,c)::cs)))else pure (ForInStep.yield cs)) >>= _=_
     rw[if_pos hff,e1,pure_bind,pure_bind]
     show forIn l ((n,c)::cs) _=_
     rw[ih _ ht]
     show _=pure (if (NameKind.free==NameKind.free)=true then (match env.cells.lookup n with | some c=>clOf env l ((n,c)::cs) | none=>clOf env l cs)else clOf env l cs)
     rw[if_pos hff,hc']
    ·have hb:(k==NameKind.free)=false:=by simpa using hk
     show(if (k==NameKind.free)=true then _ else pure (ForInStep.yield cs)) >>= _=_
     rw[if_neg (by rw[hb];exact qh),pure_bind]
     show forIn l cs _=_
     rw[ih _ ht]
     show _=pure (if (k==NameKind.free)=true then (match env.cells.lookup n with | some c=>clOf env l ((n,c)::cs) | none=>clOf env l cs)else clOf env l cs)
     rw[if_neg (by rw[hb];exact qh)]
 have:=key scope.names [] h
 unfold closureFor
 simpa using this
theorem Yg1{env:Env}:∀(l:List (Str × NameKind)) (cs:List (Str × Addr)),(∀x c,(x,c)∈cs->env.cells.lookup x=some c)->∀x c,(x,c)∈clOf env l cs->env.cells.lookup x=some c
 | [],cs,h,x,c,e=>h x c e
 | (n,k)::r,cs,h,x,c,e=>by
   unfold clOf at e
   split at e
   ·split at e
    ·rename_i d hd
     refine Yg1 r _ (fun y b hy=>?_) x c e
     rcases qr hy with q | q
     ·cases q;exact hd
     ·exact h y b q
    ·exact Yg1 r cs h x c e
   ·exact Yg1 r cs h x c e
theorem Yd1{env:Env}:∀(l:List (Str × NameKind)) (cs:List (Str × Addr)) (p:Str × Addr),p∈cs->p∈clOf env l cs
 | [],_,_,h=>h
 | (n,k)::r,cs,p,h=>by
   unfold clOf
   split
   ·split
    ·exact Yd1 r _ p (qf _ h)
    ·exact Yd1 r _ p h
   ·exact Yd1 r _ p h
theorem Ye0{env:Env}:∀(l:List (Str × NameKind)) (cs:List (Str × Addr)) (x:Str) (c:Addr),(x,NameKind.free)∈l->env.cells.lookup x=some c->(x,c)∈clOf env l cs
 | (n,k)::r,cs,x,c,h,hc=>by
   rcases qr h with q | q
   ·cases q
    unfold clOf
    rw[if_pos (show(NameKind.free==NameKind.free)=true from rfl),hc]
    exact Yd1 r _ _ qg
   ·unfold clOf
    split
    ·split
     ·exact Ye0 r _ x c q hc
     ·exact Ye0 r _ x c q hc
    ·exact Ye0 r _ x c q hc
theorem Ye1{x:Str}{c:Addr}{cl:List (Str × Addr)}(h:(x,c)∈cl):∃d,cl.lookup x=some d:=by
 induction cl with
 | nil=>cases h
 | cons p r ih=>
   obtain⟨n,b⟩:=p
   rw[List.lookup_cons]
   cases e:(x==n)with
   | true=>exact⟨b,rfl⟩
   | false=>
     rcases qr h with q | q
     ·cases q;simp at e
     ·exact ih q
structure CompSc(XN:List Str)(xsc:Scope)(N:List Str)(src:List (Option Nat))(sc:Scope):Prop where
 kind:sc.kind=.function
 xkind:xsc.kind=.function
 cellU:∀y∈sc.names,y.2=NameKind.cell->sc.names.lookup y.1=some NameKind.cell
 names:∀y∈sc.names,y.2=NameKind.local->sc.names.lookup y.1=some NameKind.local
 len:src.length=N.length
 nd:N.Nodup
 cap:∀(i j:Nat) (x:Str),N[i]?=some x->src[i]?=some (some j)->XN[j]?=some x/\sc.names.lookup x=some NameKind.free
 fr:∀y∈sc.names,y.2=NameKind.free->xsc.names.lookup y.1=some NameKind.cell\/xsc.names.lookup y.1=some NameKind.free
def capB(XN:List Str)(sc:Scope):List Str->List (Option Nat)->Bool
 | [],[]=>true
 | x::N,none::src=>capB XN sc N src
 | x::N,some j::src=>decide (XN[j]?=some x)&&decide (sc.names.lookup x=some NameKind.free)&&capB XN sc N src
 | _,_=>false
theorem Ykk{XN:List Str}{sc:Scope}:∀{N:List Str} {src:List (Option Nat)},capB XN sc N src=true->src.length=N.length
 | [],[],_=>rfl
 | _::N,none::src,h=>by
   have:=Ykk (N:=N) (src:=src) h
   simp[this]
 | _::N,some j::src,h=>by
   replace h:(decide (XN[j]?=some _)&&decide (sc.names.lookup _=some NameKind.free)&&capB XN sc N src)=true:=h
   simp only[Qf]at h
   have:=Ykk (N:=N) (src:=src) h.2
   simp[this]
 | [],_::_,h=>Bool.noConfusion h
 | _::_,[],h=>Bool.noConfusion h
theorem Ykl{XN:List Str}{sc:Scope}:∀{N:List Str} {src:List (Option Nat)},capB XN sc N src=true->∀(i j:Nat) (x:Str),N[i]?=some x->src[i]?=some (some j)->XN[j]?=some x/\sc.names.lookup x=some NameKind.free
 | [],[],_,i,j,x,h,_=>by simp at h
 | _::N,none::src,h,i,j,x,h1,h2=>by
   cases i with
   | zero=>simp at h2
   | succ i=>exact Ykl (N:=N) (src:=src) h i j x (by simpa using h1) (by simpa using h2)
 | y::N,some k::src,h,i,j,x,h1,h2=>by
   replace h:(decide (XN[k]?=some y)&&decide (sc.names.lookup y=some NameKind.free)&&capB XN sc N src)=true:=h
   simp only[Qf,decide_eq_true_eq]at h
   cases i with
   | zero=>
     simp at h1 h2
     subst h1;subst h2
     exact h.1
   | succ i=>exact Ykl (N:=N) (src:=src) h.2 i j x (by simpa using h1) (by simpa using h2)
 | [],_::_,h,_,_,_,_,_=>Bool.noConfusion h
 | _::_,[],h,_,_,_,_,_=>Bool.noConfusion h
def y1j(XN:List Str)(xsc:Scope)(N:List Str)(src:List (Option Nat))(sc:Scope):Bool:=
 decide (sc.kind=.function)&&decide (xsc.kind=.function)&&sc.names.all (fun y=>decide (y.2=NameKind.cell->sc.names.lookup y.1=some NameKind.cell))&&sc.names.all (fun y=>decide (y.2=NameKind.local->sc.names.lookup y.1=some NameKind.local))&&
  decide N.Nodup&&capB XN sc N src&&sc.names.all (fun y=>decide (y.2=NameKind.free->xsc.names.lookup y.1=some NameKind.cell\/xsc.names.lookup y.1=some NameKind.free))
theorem Yw{XN:List Str}{xsc:Scope}{N:List Str}{src:List (Option Nat)}{sc:Scope}(h:y1j XN xsc N src sc=true):CompSc XN xsc N src sc:=by
 unfold y1j at h
 simp only[Qf,decide_eq_true_eq,List.all_eq_true]at h
 obtain⟨⟨⟨⟨⟨⟨h1,h2⟩,h3⟩,h4⟩,h5⟩,h6⟩,h7⟩:=h
 exact⟨h1,h2,h3,h4,Ykk h6,h5,Ykl h6,h7⟩
abbrev Yak(X:Cx)(scope:Scope)(N:List Str)(cl:List (Str × Addr))(C:Addr)(fp:List Addr)(s:Shared)(H:Hp):Cx where
 prog:=X.prog
 w:=X.w
 K:=X.K
 mg:=X.mg
 base:=X.base
 A:=X.A
 N:=N
 s₀:=s
 H₀:=H
 env:=compEnvC scope cl C X.env
 outer:=X.stack
 stack:=X.stack
 ex:=fp
 fn:=fun x=>scope.names.lookup x==some NameKind.cell
 calm:=X.calm
 pn:=[]
 xe:=fun _ _=>False
def capσ(src:List (Option Nat))(σ:St):St:=src.map fun o=>o.bind fun j=>(σ[j]?).join
def PIfs(X:Cx)(ifs:List Expr)(t:TT):Prop:=
 ∀(pins:List (Addr × Obj)) (s:Shared) (σ:St) (H:Hp) (Q:Bool->Hp->Prop),Inv X pins σ H s->t σ H Q->
  wpAny (model X.prog X.w) X.A (forIn ifs true fun c r=>if r=true then do let ok <-isTrue c X.env (eval c X.env);pure (ForInStep.yield ok)else pure (ForInStep.yield r)) (TP X pins σ Q) X.xe s
def tYes:TT:=fun _ H Q=>Q true H
theorem Yx4{X:Cx}:PIfs X [] tYes:=fun _ _ _ H _ I h=>wpAny_tests_nil ⟨H,I,h⟩
theorem Yx5{X:Cx}{c:Expr}{t:TT}(h:PT X c t):PIfs X [c] t:=fun pins s σ H Q I hq=>wpAny_tests_one (h pins s σ H Q I hq)
def tLC(wi:TI)(src:List (Option Nat))(g:TG)(ti:TT)(te:TE):TE:=fun σ H Q=>wi σ H fun J H1=>∀p,H1 p=none->
 ∃W:Nat->Nat->St->Hp->Prop,(∃m,W 0 m (capσ src σ) (upd H1 p (.lst [])))/\∀i m σ1 H2,W i m σ1 H2->
  (J.stop i H2/\Q (.ref p) H2)\/
  (J.go i H2/\∀x H3,J.yld i H2 x H3->g x σ1 H3 fun σ4 H4=>ti σ4 H4 fun b H5=>if b=true then te σ4 H5 fun v H6=>∃xs,H6 p=some (.lst xs)/\xs.length < sizeLine/\∃m',m' < m/\W (i+1) m' σ4 (upd H6 p (.lst (xs++[v])))else ∃m',m' < m/\W (i+1) m' σ4 H5)
section
variable {prog:Program} {w:World} {A:Around} {R:Result->Shared->Prop} {s:Shared} {X:Cx} {elt tg iter:Expr} {ifs:List Expr} {scope:Scope} {pos:Pos} {wi:TI} {g:TG} {ti:TT} {te:TE} {N:List Str} {src:List (Option Nat)}
theorem Yd8{elt target iter:Expr}{ifs:List Expr}{scope:Scope}{pos:Pos}{it acc:Value}{env:Env}(I:Nat->Shared->Prop)
 (turn:∀n s,I n s->wpAny (model prog w) A (pyNext it) (fun r s₁=>match r with
  | none=>R (.ok .next) s₁
  | some v=>wpAny (model prog w) A (letOwnedTupleGo target it v) (fun _ s₁=>wpAny (model prog w) A (assign target env v) (fun _ s₂=>
   wpAny (model prog w) A (forIn ifs true fun c r=>if r=true then do let ok <-isTrue c env (eval c env);pure (ForInStep.yield ok)else pure (ForInStep.yield r)) (fun ok s₃=>
    if ok=true then wpAny (model prog w) A (eval elt env) (fun x s₄=>
     wpAny (model prog w) A (call (.builtin "list.append") [acc,x]) (fun _ s₅=>∃m,m < n/\I m s₅) (notedBy (model prog w) A env fun e s'=>R (.error e) s') s₄) (notedBy (model prog w) A env fun e s'=>R (.error e) s') s₃
    else ∃m,m < n/\I m s₃) (notedBy (model prog w) A env fun e s'=>R (.error e) s') s₂) (notedBy (model prog w) A env fun e s'=>R (.error e) s') s₁) (notedBy (model prog w) A env fun e s'=>R (.error e) s') s₁) (notedBy (model prog w) A env fun e s'=>R (.error e) s') s)
 (n:Nat) (h:I n s) :
 codeAny (model prog w) A (.compLoop (.ListComp elt [⟨target,iter,ifs,0⟩] scope pos) 0 it acc env) R s:=by
 refine codeAny_loop rfl I (fun n s hI=>?_) n h
 show wpAny _ A ((compTurn (.ListComp elt [⟨target,iter,ifs,0⟩] scope pos) 0 it acc env).onRaise (fun x=>do noteFrame x env;theTreesLotGoes x)) _ _ s
 refine wpAny_noted ?_
 rw[compTurn_list]
 refine wpAny_bind (wpAny_standAt (wpAny_bind (wpAny_mono (turn n s hI) (fun r s₁ h₁=>?_) fun _ _ h'=>h')))
 cases r with
 | none=>exact wpAny_pure h₁
 | some v=>
   refine wpAny_bind (wpAny_mono h₁ (fun _ s₁ h₁=>?_) fun _ _ h'=>h')
   refine wpAny_bind (wpAny_mono h₁ (fun _ s₂ h₂=>wpAny_bind (wpAny_mono h₂ (fun ok s₃ h₃=>?_) fun _ _ h'=>h')) fun _ _ h'=>h')
   cases ok with
   | false=>exact wpAny_pure ⟨rfl,h₃⟩
   | true=>
     exact wpAny_bind (wpAny_bind (wpAny_mono h₃ (fun x s₄ h₄=>wpAny_bind (wpAny_mono h₄ (fun _ s₅ h₅=>wpAny_pure (wpAny_pure ⟨rfl,h₅⟩)) fun _ _ h'=>h')) fun _ _ h'=>h'))
theorem Yen{scope:Scope}{env:Env}{x:Str}(h:scope.names.lookup x=some NameKind.free)(hk:env.kindOf x=some NameKind.cell\/env.kindOf x=some NameKind.free) :
 (relabel scope env).names.lookup x=some NameKind.cell\/(relabel scope env).names.lookup x=some NameKind.free:=by
 unfold relabel
 show List.lookup x (scope.names.map _)=_\/List.lookup x (scope.names.map _)=_
 generalize scope.names=l at h
 induction l with
 | nil=>cases h
 | cons p r ih=>
   obtain⟨n,k⟩:=p
   rw[List.lookup_cons]at h
   rw[Qb]
   cases e:(x==n)with
   | true=>
     rw[e]at h
     cases h
     by_cases hc:(NameKind.free==NameKind.free&&env.scope.kind==ScopeKind.function&&env.kindOf n==some NameKind.cell)=true
     ·left;simp only[hc,if_true];rw[List.lookup_cons,e]
     ·right;simp only[hc];rw[if_neg qh,List.lookup_cons,e]
   | false=>
     rw[e]at h
     have q:=ih h
     by_cases hc:(k==NameKind.free&&env.scope.kind==ScopeKind.function&&env.kindOf n==some NameKind.cell)=true
     ·simp only[hc,if_true];rw[List.lookup_cons,e];exact q
     ·simp only[hc];rw[if_neg qh,List.lookup_cons,e];exact q
theorem Yhh{scope:Scope}{env:Env}{x:Str}(h:(relabel scope env).names.lookup x=some NameKind.cell\/(relabel scope env).names.lookup x=some NameKind.free) :
 (x,NameKind.free)∈scope.names\/(x,NameKind.cell)∈scope.names:=by
 unfold relabel at h
 change List.lookup x (scope.names.map _)=_\/List.lookup x (scope.names.map _)=_ at h
 revert h
 generalize scope.names=l
 intro h
 induction l with
 | nil=>rcases h with h | h<;>cases h
 | cons p r ih=>
   obtain⟨n,k⟩:=p
   rw[Qb]at h
   have hr:=fun z=>ih z
   cases e:(x==n)with
   | true=>
     have en:x=n:=by simpa using e
     subst en
     by_cases hk:k=NameKind.free
     ·subst hk;exact .inl qg
     ·have hb:(k==NameKind.free)=false:=by simpa using hk
      simp only[hb,Bool.false_and,Bool.false_eq_true,if_false]at h
      rw[List.lookup_cons,e]at h
      rcases h with h | h
      ·cases h;exact .inr qg
      ·cases h;exact absurd rfl hk
   | false=>
     refine(hr ?_).imp (qf _) (qf _)
     by_cases hk:(k==NameKind.free&&env.scope.kind==ScopeKind.function&&env.kindOf n==some NameKind.cell)=true
     ·simp only[hk,if_true]at h;rw[List.lookup_cons,e]at h;exact h
     ·simp only[hk]at h;rw[if_neg qh,List.lookup_cons,e]at h;exact h
theorem Ybe:∀(names:List (Str × NameKind)) (n:Nat) (acc:List (Str × Addr)),cellsFrom n names acc=cellsFrom n names []++acc
 | [],_,_=>rfl
 | (x,k)::r,n,acc=>by
   unfold cellsFrom
   split
   ·rw[Ybe r (n+1) ((x,n)::acc),Ybe r (n+1) [(x,n)],List.append_assoc];rfl
   ·exact Ybe r n acc
theorem Yc4:∀(names:List (Str × NameKind)) (n:Nat) (x:Str) (c:Addr),(x,c)∈cellsFrom n names []->(x,NameKind.cell)∈names
 | [],_,_,_,h=>(nomatch h)
 | (y,k)::r,n,x,c,h=>by
   unfold cellsFrom at h
   split at h
   ·rename_i hk
    rw[Ybe]at h
    rcases qu h with h | h
    ·exact qf _ (Yc4 r _ x c h)
    ·rw[List.mem_singleton]at h
     cases h
     have:k=NameKind.cell:=by simpa using hk
     rw[this];exact qg
   ·exact qf _ (Yc4 r n x c h)
theorem Yfn{own cl:List (Str × Addr)}{x:Str}:(own++cl).lookup x=(own.lookup x).or (cl.lookup x):=by
 induction own with
 | nil=>rfl
 | cons p r ih=>
   obtain⟨y,b⟩:=p
   rw[List.cons_append,List.lookup_cons,List.lookup_cons]
   cases (x==y)with
   | true=>rfl
   | false=>exact ih
theorem Yav{own cl:List (Str × Addr)}{x:Str}{c:Addr}(h:(own++cl).lookup x=some c):own.lookup x=some c\/(own.lookup x=none/\cl.lookup x=some c):=by
 rw[Yfn]at h
 cases e:own.lookup x with
 | none=>rw[e]at h;exact .inr ⟨rfl,h⟩
 | some d=>rw[e]at h;exact .inl h
theorem Yn1{M:Model}{A:Around}{E:Value->Shared->Prop}{scope:Scope}{globals:Addr}{cl:List (Str × Addr)}{qual:Str}{outer:Env}{Q:Env->Shared->Prop}{s:Shared}{bt:Addr}
 (h:Q (newEnv scope s.heap.objs.size globals (cellsFrom (s.heap.objs.size+1) scope.names []++cl) qual none .none (some outer) bt) { s with heap:=pushCells (s.heap.push { cls:=.type "dict",data:=.dict #[] }) scope.names }) :
 wpAny M A (newFunctionEnv scope globals cl [] qual none .none (some outer) bt) Q E s:=by
 simp only[newFunctionEnv,Option.isSome_some,if_true]
 refine wpAny_bind (wpAny_alloc ?_)
 refine wpAny_bind (wpAny_layCells _ (fun name kind cells=>by cases hkc:kind==NameKind.cell<;>simp[hkc]) _ _ _ _ ?_)
 rw[show({ s with heap:=s.heap.push { cls:=.type "dict",data:=.dict #[] } }:Shared).heap.objs.size=s.heap.objs.size+1 from Heap.size_push ..,Ybe]
 rw[List.forIn_nil]
 exact wpAny_bind (wpAny_pure (wpAny_pure h))
theorem Yqn{pins:List (Addr × Obj)}{σ:St}{H:Hp}{s:Shared}{fp:List Addr}{h₁:Heap}{tk:Nat}{own:List (Str × Addr)}(S:CompSc X.N X.env.scope N src scope)(I:Inv X pins σ H s)(hf:∀b∈fp,FpOk X pins H b)(ho:∀b∈fp,∃o,s.heap.get? b=some o)
 (hn:h₁.Ns s.heap.objs.size fun _=>none) (hk:∀b o,s.heap.get? b=some o->h₁.get? b=some o) (hc:CellsOk h₁ (s.heap.objs.size+1) own) (ow:∀x c,(x,c)∈own->(x,NameKind.cell)∈scope.names) (has:∀x,scope.names.lookup x=some NameKind.cell->∃c,own.lookup x=some c) :
 Inv (Yak X scope N (own++clOf X.env scope.names []) s.heap.objs.size fp s H) [] (capσ src σ) H { s with heap:=h₁,toks:=tk }:=by
 have sub:∀x c,(clOf X.env scope.names []).lookup x=some c->X.env.cells.lookup x=some c:=fun x c e=>Yg1 scope.names [] (fun _ _ z=>nomatch z) x c (PySem.mem_of_lookup e)
 have clt:∀x c,(clOf X.env scope.names []).lookup x=some c->c < s.heap.objs.size:=fun x c e=>by
  obtain⟨v,q⟩:=I.cell x c (sub x c e)
  exact q.lt
 have owl:∀x c,own.lookup x=some c->s.heap.objs.size < c:=fun x c e=>(hc.empty x c (PySem.mem_of_lookup e)).2
 have nofree:∀x,scope.names.lookup x=some NameKind.free->own.lookup x=none:=fun x hx=>by
  cases e:own.lookup x with
  | none=>rfl
  | some c=>
    have:=S.cellU _ (ow x c (PySem.mem_of_lookup e)) rfl
    rw[hx]at this
    cases this
 have fpl:∀b∈fp,b < s.heap.objs.size:=fun b hb=>by
  obtain⟨o,e⟩:=ho b hb
  exact qk e
 have nfs:∀b∈fp,b∉frs X.stack:=fun b hb z=>by
  rcases qr (I.stkSub b z)with e | e
  ·exact(hf b hb).2.1 e
  ·exact(hf b hb).2.2.1 e
 refine⟨⟨I.ok.mod,S.kind,I.ok.glob,I.ok.blt,qt _,fun x y c h1 h2=>?_,fun x hx=>?_,fun x c z e=>?_,I.ok.hd,I.ok.frames,.inl rfl,fun b hb=>⟨ql (fpl b hb),fun x c e=>?_⟩,
  I.bs,Nat.le_trans I.ok.bsz I.sz,fun b o e hb=>?_,nfs,I.stack,I.stkFree⟩,rfl,I.bare,Un.kept hk,⟨_,hn,fun i x v h1 h2 h3=>?_⟩,fun x c e=>?_,I.fresh,fun x c e=>?_,fun p hp=>(nomatch hp),I.hok.kept hk,?_⟩
 ·rcases Yav h1 with h1 | ⟨_,h1⟩
  ·rcases Yav h2 with h2 | ⟨_,h2⟩
   ·exact name_of_addr hc.apart (PySem.mem_of_lookup h1) (PySem.mem_of_lookup h2)
   ·exact absurd (Nat.lt_trans (owl x c h1) (clt y c h2)) (Qe _)
  ·rcases Yav h2 with h2 | ⟨_,h2⟩
   ·exact absurd (Nat.lt_trans (owl y c h2) (clt x c h1)) (Qe _)
   ·exact I.ok.inj x y c (sub x c h1) (sub y c h2)
 ·show ∃c,(own++clOf X.env scope.names []).lookup x=some c
  rw[Yfn]
  cases e:own.lookup x with
  | some c=>exact⟨c,rfl⟩
  | none=>
    rcases Yhh hx with hm | hm
    ·obtain⟨c,hc⟩:=I.ok.has x (S.fr _ hm rfl)
     exact Ye1 (Ye0 scope.names [] x c hm hc)
    ·obtain⟨c,hc⟩:=has x (S.cellU _ hm rfl)
     rw[e]at hc
     cases hc
 ·have z':scope.names.lookup x=some NameKind.cell:=by simpa using z
  obtain⟨d,hd⟩:=has x z'
  rcases Yav e with e | ⟨e,_⟩
  ·exact Nat.le_of_lt (owl x c e)
  ·rw[hd]at e;cases e
 ·rcases Yav e with e | ⟨_,e⟩
  ·exact Nat.ne_of_gt (Nat.lt_trans (fpl b hb) (owl x c e))
  ·exact(hf b hb).2.2.2.2.1 x c (sub x c e)
 ·rcases(hf b hb).2.2.2.1 with z | z
  ·exact I.ok.noex b o e z
  ·exact absurd (Qc (qk e) (Nat.le_trans I.ok.bsz z)) (Qe _)
 ·have hi:i < src.length:=by
   have:=(qm h2).1
   unfold capσ at this
   simpa using this
  have hs:src[i]?=some src[i]:=qp hi
  unfold capσ at h2
  rw[Qg,hs]at h2
  have h2':(src[i].bind fun j=>(σ[j]?).join)=some v:=Option.some.inj h2
  cases q:src[i]with
  | none=>rw[q]at h2';cases h2'
  | some j=>
    rw[q]at h2' hs
    have h2'':(σ[j]?).join=some v:=h2'
    obtain⟨hx,hfr⟩:=S.cap i j x h1 hs
    obtain⟨m,_,hl⟩:=I.loc
    have hk2:X.env.kindOf x=some NameKind.cell\/X.env.kindOf x=some NameKind.free:=S.fr (x,NameKind.free) (PySem.mem_of_lookup hfr) rfl
    have hσ:σ[j]?=some (some v):=by
     cases z:σ[j]? with
     | none=>rw[z]at h2'';cases h2''
     | some o=>
       rw[z]at h2''
       have:o=some v:=h2''
       rw[this]
    obtain⟨u,r,l⟩:=hl j x v hx hσ (.inr hk2)
    refine⟨u,r,.inr ⟨Yen hfr hk2,?_⟩⟩
    rcases l with⟨z,_⟩ | ⟨_,c,hc,hcell⟩
    ·rcases hk2 with q2 | q2
     ·rw[q2]at z;cases z
     ·rw[q2]at z;cases z
    ·obtain⟨d,hd⟩:=Ye1 (Ye0 (env:=X.env) scope.names [] x c (PySem.mem_of_lookup hfr) hc)
     have e2:=sub x d hd
     rw[hc]at e2
     cases e2
     refine⟨c,?_,hcell.keeps hk⟩
     show(own++clOf X.env scope.names []).lookup x=some c
     rw[Yfn,nofree x hfr]
     exact hd
 ·rcases Yav e with e | ⟨_,e⟩
  ·exact⟨_,(hc.empty x c (PySem.mem_of_lookup e)).1⟩
  ·obtain⟨v,q⟩:=I.cell x c (sub x c e)
   exact⟨v,q.keeps hk⟩
 ·rcases Yav e with e | ⟨_,e⟩
  ·exact I.hok.fresh (Nat.le_of_lt (owl x c e))
  ·exact I.freeC x c (sub x c e)
 ·unfold capσ
  rw[qe]
  exact S.len
theorem Yu7{pins:List (Addr × Obj)}{σ σ1:St}{H H':Hp}{s s':Shared}{fp:List Addr}{cl:List (Str × Addr)}{C:Addr}{pn:List (Addr × Obj)}(I:Inv X pins σ H s)(hf:∀b∈fp,FpOk X pins H b)(J:Inv (Yak X scope N cl C fp s H) pn σ1 H' s'):Inv X pins σ H' s':=
 I.call' J.os J.base J.hok J.bare fun b hb=>⟨(hf b hb).2.2.2.1,(hf b hb).2.1,(hf b hb).2.2.2.2.1,(hf b hb).2.2.2.2.2⟩
theorem Yl2{pins:List (Addr × Obj)}{σ:St}{H:Hp}{s:Shared}{Q:VK}{it:Addr}{fp:List Addr}{tn:Nat->Heap->Prop}{J:It}{R:Value->Addr->Result->Shared->Prop}{E:Value->Shared->Prop}
 (S:CompSc X.N X.env.scope N src scope) (hc:X.calm=true) (hg:∀cl C fp s H,PG (Yak X scope N cl C fp s H) tg g) (hi:∀cl C fp s H,PIfs (Yak X scope N cl C fp s H) ifs ti) (he:∀cl C fp s H,PE (Yak X scope N cl C fp s H) elt te)
 (I:Inv X pins σ H s) (T:Turn X.prog X.w X.K tg J fp it tn) (st:tn 0 s.heap) (hf:∀b∈fp,FpOk X pins H b)
 (h:∀p,H p=none->∃W:Nat->Nat->St->Hp->Prop,(∃m,W 0 m (capσ src σ) (upd H p (.lst [])))/\∀i m σ1 H2,W i m σ1 H2->
  (J.stop i H2/\Q (.ref p) H2)\/
  (J.go i H2/\∀x H3,J.yld i H2 x H3->g x σ1 H3 fun σ4 H4=>ti σ4 H4 fun b H5=>if b=true then te σ4 H5 fun v H6=>∃xs,H6 p=some (.lst xs)/\xs.length < sizeLine/\∃m',m' < m/\W (i+1) m' σ4 (upd H6 p (.lst (xs++[v])))else ∃m',m' < m/\W (i+1) m' σ4 H5))
 (hR:∀(D C:Addr) (s':Shared) (H':Hp) (m:Str->Option Value),Inv X pins σ H' s'->s'.heap.Ns C m->H' C=none->C≠X.env.locals->X.s₀.heap.objs.size<=C->(∀x c,X.env.cells.lookup x=some c->c≠C)->(∀p∈X.pn++pins,p.1≠C)->Q (.ref D) H'->R (.ref D) C (.ok .next) s') :
 wpAny (model X.prog X.w) X.A (newList []) (fun acc s₃=>wpAny (model X.prog X.w) X.A (newFunctionEnv scope X.env.globals (clOf X.env scope.names []) [] X.env.qual none .none (some X.env)) (fun cenv s₄=>
  codeAny (model X.prog X.w) X.A (.compStart (.ListComp elt [⟨tg,iter,ifs,0⟩] scope pos) 0 (.ref it) acc { cenv with scope:=relabel scope X.env }) (R acc cenv.locals) s₄) E s₃) E s:=by
 refine wpAny_newObj_type (Yn1 ?_)
 have hfree:H s.heap.objs.size=none:=I.fresh
 obtain⟨W,⟨m0,w0⟩,turn⟩:=h s.heap.objs.size hfree
 have I3:Inv X pins σ (upd H s.heap.objs.size (.lst [])) { s with heap:=s.heap.push { cls:=.type "list",dict:=none,data:=.seq ([]:List Value).toArray },toks:=s.toks }:=I.lnew (ys:=[]) (its:=[]) .nil (Nat.zero_le _)
 generalize hD:s.heap.objs.size=Dd at *
 generalize hH3:upd H Dd (.lst [])=H3 at *
 have kp0:∀b o,s.heap.get? b=some o->(s.heap.push { cls:=.type "list",dict:=none,data:=.seq ([]:List Value).toArray }).get? b=some o:=fun b o e=>qd _ e
 have lt0:∀b o,s.heap.get? b=some o->b≠Dd:=fun b o e=>by rw[<-hD];exact ql (qk e)
 generalize hs3:s.heap.push { cls:=.type "list",dict:=none,data:=.seq ([]:List Value).toArray }=hp3 at *
 have f3:∀b∈fp,FpOk X pins H3 b:=fun b hb=>by
  obtain⟨o,e,_⟩:=T.obj _ _ st b hb
  refine⟨?_,(hf b hb).2⟩
  rw[<-hH3,Yv (lt0 b o e)]
  exact(hf b hb).1
 have ob3:∀b∈fp,∃o,hp3.get? b=some o:=fun b hb=>by
  obtain⟨o,e,_⟩:=T.obj _ _ st b hb
  exact⟨o,kp0 b o e⟩
 dsimp only
 have hns₁:(pushCells (hp3.push { cls:=.type "dict",data:=.dict #[] }) scope.names).Ns hp3.objs.size (fun _=>none):=(Heap.Ns.new hp3 (.type "dict")).keeps (pushCells_keeps _ _)
 have old:∀b o,hp3.get? b=some o->(pushCells (hp3.push { cls:=.type "dict",data:=.dict #[] }) scope.names).get? b=some o:=fun b o e=>pushCells_keeps _ _ b o (qd _ e)
 have cok:=cellsFrom_ok scope.names (hp3.push { cls:=.type "dict",data:=.dict #[] }) (hp3.objs.size+1) [] ⟨fun _ _ hm=>(nomatch hm),List.Pairwise.nil⟩ (by rw[Heap.size_push];exact qt _)
 rw[Heap.size_push]at cok
 have chas:∀x,scope.names.lookup x=some NameKind.cell->∃c,(cellsFrom (hp3.objs.size+1) scope.names []).lookup x=some c:=fun x hx=>Option.isSome_iff_exists.mp (PySem.W.cellsFrom_some _ _ _ (.inl hx))
 have cmem:∀x c,(x,c)∈cellsFrom (hp3.objs.size+1) scope.names []->(x,NameKind.cell)∈scope.names:=fun x c h=>Yc4 _ _ x c h
 generalize cellsFrom (hp3.objs.size+1) scope.names []=own at *
 generalize pushCells (hp3.push { cls:=.type "dict",data:=.dict #[] }) scope.names=h₁ at *
 have I4:Inv (Yak X scope N (own++clOf X.env scope.names []) hp3.objs.size fp { s with heap:=hp3,toks:=s.toks } H3) [] (capσ src σ) H3 { s with heap:=h₁,toks:=s.toks }:=
  Yqn (s:={ s with heap:=hp3,toks:=s.toks }) (tk:=s.toks) S I3 f3 ob3 hns₁ old cok cmem chas
 have st4:tn 0 h₁:=T.keep _ _ _ st fun b _ o e=>old b o (kp0 b o e)
 have hCl:hp3.objs.size≠X.env.locals:=Nat.ne_of_gt I3.lt
 have hCc:∀x c,X.env.cells.lookup x=some c->c≠hp3.objs.size:=fun x c e=>by
  obtain⟨v,q⟩:=I3.cell x c e
  exact ql q.lt
 have hCp:∀p∈X.pn++pins,p.1≠hp3.objs.size:=fun p hp=>ql (qk (I3.pin p hp).1)
 have stat:∀{H':Hp},(∀b∈fp,H' b=none)->∀b∈fp,FpOk (Yak X scope N (own++clOf X.env scope.names []) hp3.objs.size fp { s with heap:=hp3,toks:=s.toks } H3) [] H' b:=fun {H'} hn b hb=>by
  obtain⟨e1,e2⟩:=I4.ok.exf b hb
  exact⟨hn b hb,e1,I4.ok.exfs b hb,.inl hb,e2,fun p hp=>nomatch hp⟩
 have loop:codeAny (model X.prog X.w) X.A (.compLoop (.ListComp elt [⟨tg,iter,ifs,0⟩] scope pos) 0 (.ref it) (.ref Dd) (compEnvC scope (own++clOf X.env scope.names []) hp3.objs.size X.env)) (R (.ref Dd) hp3.objs.size) { s with heap:=h₁,toks:=s.toks }:=by
  refine Yd8 (fun n s'=>∃i σ' H',Inv (Yak X scope N (own++clOf X.env scope.names []) hp3.objs.size fp { s with heap:=hp3,toks:=s.toks } H3) [] σ' H' s'/\tn i s'.heap/\(∀b∈fp,H' b=none)/\W i n σ' H') ?_ m0 ⟨0,_,H3,I4,st4,fun b hb=>(f3 b hb).1,w0⟩
  rintro n s3 ⟨i,σ3,H3',I3',st3,fr3,w3⟩
  rcases turn i n σ3 H3' w3 with⟨stop,qn⟩ | ⟨go,step⟩
  ·refine thn (T.done (Yak X scope N (own++clOf X.env scope.names []) hp3.objs.size fp { s with heap:=hp3,toks:=s.toks } H3) rfl rfl rfl hc i [] s3 σ3 H3' _ I3' (stat fr3) st3 stop) fun r s4 hx_=>?_
   obtain⟨hr,I5⟩:=hx_
   subst hr
   obtain⟨m,hm,_⟩:=I5.loc
   exact hR Dd hp3.objs.size s4 H3' m (Yu7 I3 f3 I5) hm I5.free hCl (Nat.le_trans I3.sz (qt _)) hCc hCp qn
  ·refine thn (T.item (Yak X scope N (own++clOf X.env scope.names []) hp3.objs.size fp { s with heap:=hp3,toks:=s.toks } H3) rfl rfl rfl hc i [] s3 σ3 H3' _ I3' (stat fr3) st3 go) fun r s4 hx_=>?_
   obtain⟨u,hr,h4⟩:=hx_
   subst hr
   refine thn h4 fun _ s5 hx_=>?_
   obtain⟨x,H5,I5,r5,y5,st5,fr5⟩:=hx_
   have I5':=I5.pinned (stat fr5) (T.obj _ _ st5)
   have un:∀{α:Type} {t:Sem α} {Q':α->Shared->Prop} {E':Value->Shared->Prop} {s':Shared},wpAny (model X.prog X.w) X.A t Q' (fun _ _=>False) s'->wpAny (model X.prog X.w) X.A t Q' E' s':=fun h=>wpAny_mono h (fun _ _ q=>q) fun _ _ f=>f.elim
   refine un (thn (hg _ _ _ _ _ _ s5 σ3 H5 x u _ I5' r5 (step x H5 y5)) fun _ s6 hx_=>?_)
   obtain⟨σ6,H6,I6,q6⟩:=hx_
   refine un (thn (hi _ _ _ _ _ _ s6 σ6 H6 _ I6 q6) fun ok s7 hx_=>?_)
   obtain⟨H7,I7,q7⟩:=hx_
   have again:∀{H8:Hp} {s8:Shared} {m':Nat},m' < n->Inv (Yak X scope N (own++clOf X.env scope.names []) hp3.objs.size fp { s with heap:=hp3,toks:=s.toks } H3) ([]++Ylt fp s5.heap) σ6 H8 s8->W (i+1) m' σ6 H8->
    ∃m,m < n/\∃i σ' H',Inv (Yak X scope N (own++clOf X.env scope.names []) hp3.objs.size fp { s with heap:=hp3,toks:=s.toks } H3) [] σ' H' s8/\tn i s8.heap/\(∀b∈fp,H' b=none)/\W i m σ' H':=fun {H8 s8 m'} hm I8 w8=>by
    refine⟨m',hm,i+1,σ6,H8,I8.unpinned,T.keep _ _ _ st5 fun b hb o e=>(I8.pin (b,o) (Qh _ (Qh _ (Yd0 hb e)))).1,fun b hb=>?_,w8⟩
    obtain⟨o,e,d⟩:=T.obj _ _ st5 b hb
    exact(I8.pin (b,o) (Qh _ (Qh _ (Yd0 hb e)))).2.1
   cases ok with
   | false=>
     rw[if_neg qh]at q7 ⊢
     obtain⟨m',hm,w7⟩:=q7
     exact again hm I7 w7
   | true=>
     rw[if_pos rfl]at q7 ⊢
     refine un (thn (he _ _ _ _ _ _ s7 σ6 H7 _ I7 q7) fun y s8 hx_=>?_)
     obtain⟨v,H8,I8,r8,q8⟩:=hx_
     obtain⟨xs,e8,z8,m',hm,w8⟩:=q8
     refine un (thn (Yl1 _ s8 σ6 H8 (.ref Dd) [v] (.ref Dd) [y] (fun _ H9=>H9=upd H8 Dd (.lst (xs++[v]))) I8 rfl (.cons r8 .nil) ⟨Dd,xs,v,rfl,rfl,e8,z8,rfl⟩) fun _ s9 hx_=>?_)
     obtain⟨_,H9,I9,_,q9⟩:=hx_
     subst q9
     exact again hm I9 w8
 exact codeAny_compStart_list loop (T.self _ _ _ _ _ st4 loop)
theorem Yx6(S:CompSc X.N X.env.scope N src scope)(hc:X.calm=true)(hit:PI X tg iter wi)(hg:∀cl C fp s H,PG (Yak X scope N cl C fp s H) tg g)(hi:∀cl C fp s H,PIfs (Yak X scope N cl C fp s H) ifs ti)(he:∀cl C fp s H,PE (Yak X scope N cl C fp s H) elt te)
 (hs:∀x,foldedSetIterable iter X.env x=pure x:=by intro _;rfl):PE X (.ListComp elt [⟨tg,iter,ifs,0⟩] scope pos) (tLC wi src g ti te):=by
 intro pins s σ H Q I h
 rw[eval_ListComp]
 have hcl:closureFor scope X.env=pure (clOf X.env scope.names []):=Ydn fun y hy hf=>I.ok.has y.1 (S.fr y hy hf)
 refine wpAny_comprehension_free (use:=none) rfl hs hcl S.kind S.names ?_
 refine thn (hit pins s σ H _ I h) fun v s1 h1=>thn h1 fun itv s2 hx_=>?_
 obtain⟨it,fp,tn,J,H2,e,I2,T,st2,f2,q⟩:=hx_
 subst e
 refine Yl2 (Q:=Q) (R:=fun acc C=>compPost (model X.prog X.w) X.A X.xe none (EP X pins σ Q) acc C) S hc hg hi he I2 T st2 f2 q fun D C s' H' m I' hm hC hCl hCs hCc hCp hq=>?_
 refine⟨m,hm,fun h' sb=>?_⟩
 exact⟨.ref D,H',I'.turned (t':=s'.toks) (fun b o hb e=>(sb.2 b hb).trans e) hC hCl (.inr hCs) hCc hCp,rfl,hq⟩
theorem Yx7{i:Nat}{y:Str}{py spos:Pos}(S:CompSc X.N X.env.scope N src scope)(hc:X.calm=true)(hit:PI X tg iter wi)(hg:∀cl C fp s H,PG (Yak X scope N cl C fp s H) tg g)(hi:∀cl C fp s H,PIfs (Yak X scope N cl C fp s H) ifs ti)(he:∀cl C fp s H,PE (Yak X scope N cl C fp s H) elt te)
 (hN:X.N.Nodup) (hy:X.N[i]?=some y) (hx:Loc X.env.scope y) (hsw:swapsWith (.ListComp elt [⟨tg,iter,ifs,0⟩] scope pos) (some (.Name y py)) spos.line X.env=pure true)
 (hf:X.fn y=true\/X.env.scope.names.lookup y=some .local:=by first | exact .inl rfl | exact .inr rfl | assumption)
 (hs:∀x,foldedSetIterable iter X.env x=pure x:=by intro _;rfl):PS X (.Assign [.Name y py] (.ListComp elt [⟨tg,iter,ifs,0⟩] scope pos) spos) (tAsg (tLC wi src g ti te) (Yqj i)):=by
 intro pins s σ H D I h
 rw[exec_Assign_Name_used _ _ _ _ hsw]
 refine wpAny_bind (wpAny_standAt (wpAny_bind ?_))
 show wpAny _ X.A (do let _ <-comprehension (.ListComp elt [⟨tg,iter,ifs,0⟩] scope pos) scope X.env _ (newList []) false (eval iter X.env) (some (assign (.Name y py) X.env))) _ _ s
 have hcl:closureFor scope X.env=pure (clOf X.env scope.names []):=Ydn fun y hy hf=>I.ok.has y.1 (S.fr y hy hf)
 refine wpAny_bind (wpAny_mono (wpAny_comprehension_free (use:=some (assign (.Name y py) X.env)) (Q:=fun _ s'=>SP X pins D .next s') rfl hs hcl S.kind S.names ?_) (fun _ s' hq=>wpAny_pure (wpAny_pure hq)) fun _ _ e=>e)
 refine thn (hit pins s σ H _ I h) fun v s1 h1=>thn h1 fun itv s2 hx_=>?_
 obtain⟨it,fp,tn,J,H2,e,I2,T,st2,f2,q⟩:=hx_
 subst e
 refine Yl2 (Q:=fun x H1=>Yqj i x σ H1 D.nx) (R:=fun acc C=>compPost (model X.prog X.w) X.A X.xe (some (assign (.Name y py) X.env)) (fun _ s'=>SP X pins D .next s') acc C) S hc hg hi he I2 T st2 f2 q fun Dd C s' H' m I' hm hC hCl hCs hCc hCp hq=>?_
 show wpAny _ X.A (assign (.Name y py) X.env (.ref Dd)) _ _ s'
 refine wpAny_assign_Name (Yls I' hN hy hx (v:=.ref Dd) rfl (fun s'' I'' hsb=>?_) hf)
 obtain⟨a,sb,ha⟩:=hsb
 have hCa:C≠a:=by
  rcases ha with e | e
  ·rw[e];exact hCl
  ·exact Ne.symm (hCc y a e)
 refine⟨m,hm.sameBut sb hCa,fun h' sb'=>?_⟩
 exact⟨_,H',I''.turned (t':=s''.toks) (fun b o hb e=>(sb'.2 b hb).trans e) hC hCl (.inr hCs) hCc hCp,hq⟩
end
end L2
namespace M
open PySem PySem.Spec PyProof.Rows L2
section
section
def Rise(xs:Array Nat):Prop:=xs.toList.Pairwise (· < ·)
theorem Ykm{xs:Array Nat}(hr:Rise xs)(j:Nat):∀(fuel lo hi:Nat),lo<=hi->hi<=xs.size->hi - lo<=fuel->
 (∀(i:Nat) (h:i < xs.size),i < lo->xs[i] < j)->(∀(i:Nat) (h:i < xs.size),hi<=i->j<=xs[i])->
 SetTable.below.go xs j fuel lo hi<=xs.size/\(∀(i:Nat) (h:i < xs.size),i < SetTable.below.go xs j fuel lo hi->xs[i] < j)/\(∀(i:Nat) (h:i < xs.size),SetTable.below.go xs j fuel lo hi<=i->j<=xs[i])
 | 0,lo,hi,h1,h2,h3,h4,h5=>by
   have e:lo=hi:=by lia
   subst e
   rw[SetTable.below.go]
   exact⟨h2,h4,h5⟩
 | fuel+1,lo,hi,h1,h2,h3,h4,h5=>by
   have mono:∀(i k:Nat) (hi:i < xs.size) (hk:k < xs.size),i < k->xs[i] < xs[k]:=fun i k hi hk h=>by
    have:=List.pairwise_iff_getElem.mp hr i k (by simpa using hi) (by simpa using hk) h
    simpa using this
   rw[SetTable.below.go]
   by_cases hl:lo < hi
   ·rw[if_pos hl]
    have hm:(lo+hi) / 2 < xs.size:=by lia
    have hg:xs.getD ((lo+hi) / 2) j=xs[(lo+hi) / 2]:=by simp[Array.getD,hm]
    dsimp only
    rw[hg]
    by_cases hlt:xs[(lo+hi) / 2] < j
    ·rw[if_pos hlt]
     refine Ykm hr j fuel _ _ (by lia) h2 (by lia) (fun i hi' hh=>?_) h5
     by_cases e:i=(lo+hi) / 2
     ·subst e;exact hlt
     ·exact Nat.lt_trans (mono i _ hi' hm (by lia)) hlt
    ·rw[if_neg hlt]
     refine Ykm hr j fuel _ _ (by lia) (by lia) (by lia) h4 (fun i hi' hh=>?_)
     by_cases e:i=(lo+hi) / 2
     ·subst e;lia
     ·have:=mono _ i hm hi' (by lia)
      lia
   ·rw[if_neg hl]
    have e:lo=hi:=by lia
    subst e
    exact⟨h2,h4,h5⟩
theorem Yd2{xs:Array Nat}(hr:Rise xs)(j:Nat):SetTable.below xs j<=xs.size/\(∀a∈xs.toList.take (SetTable.below xs j),a < j)/\(∀a∈xs.toList.drop (SetTable.below xs j),j<=a):=by
 obtain⟨h1,h2,h3⟩:=Ykm hr j xs.size 0 xs.size (Nat.zero_le _) (qt _) (by lia) (fun i _ h=>absurd h (Nat.not_lt_zero _)) (fun i h h'=>absurd h (by lia))
 have e:SetTable.below xs j=SetTable.below.go xs j xs.size 0 xs.size:=rfl
 rw[e]
 refine⟨h1,fun a ha=>?_,fun a ha=>?_⟩
 ·obtain⟨i,hi,rfl⟩:=List.mem_iff_getElem.mp ha
  rw[List.length_take]at hi
  have hi':i < xs.size:=by have:xs.toList.length=xs.size:=by simp
                           lia
  rw[List.getElem_take,Array.getElem_toList]
  exact h2 i hi' (by lia)
 ·obtain⟨i,hi,rfl⟩:=List.mem_iff_getElem.mp ha
  rw[List.length_drop]at hi
  have hs:xs.toList.length=xs.size:=by simp
  rw[List.getElem_drop,Array.getElem_toList]
  exact h3 _ (by lia) (by lia)
theorem Yx{α:Type}(xs:Array α)(p:Nat)(x:α):(SetTable.insertAt xs p x).toList=xs.toList.take p++x::xs.toList.drop p:=by
 unfold SetTable.insertAt
 simp[Array.toList_extract,List.extract_eq_drop_take]
 exact List.take_of_length_le (by simp)
theorem Yeo{xs:Array Nat}(hr:Rise xs)(j:Nat)(hn:xs[SetTable.below xs j]?≠some j):Rise (SetTable.insertAt xs (SetTable.below xs j) j):=by
 obtain⟨h1,h2,h3⟩:=Yd2 hr j
 unfold Rise at hr ⊢
 rw[Yx]
 generalize hp:SetTable.below xs j=p at h1 h2 h3 hn ⊢
 rw[<-Array.getElem?_toList]at hn
 generalize xs.toList=l at hr h2 h3 hn ⊢
 have hr2:=hr
 rw[<-List.take_append_drop p l,List.pairwise_append]at hr
 obtain⟨r1,r2,r3⟩:=hr
 have hgt:∀a∈l.drop p,j < a:=by
  cases hd:l.drop p with
  | nil=>intro a ha;cases ha
  | cons b r=>
    rw[hd]at r2 h3
    have hb:l[p]?=some b:=by
     have:(l.drop p)[0]?=some b:=by rw[hd];rfl
     rwa [List.getElem?_drop,Nat.add_zero]at this
    have hjb:j < b:=Nat.lt_of_le_of_ne (h3 b qg) (fun z=>hn (by rw[hb,z]))
    intro a ha
    rcases qr ha with rfl | ha
    ·exact hjb
    ·exact Nat.lt_trans hjb ((List.pairwise_cons.mp r2).1 a ha)
 rw[List.pairwise_append]
 refine⟨r1,List.pairwise_cons.mpr ⟨hgt,r2⟩,fun a ha b hb=>?_⟩
 rcases qr hb with rfl | hb
 ·exact h2 a ha
 ·exact Nat.lt_trans (h2 a ha) (hgt b hb)
theorem Yhi{t:SetTable}{j:Nat}(h:∀i,t.slot j≠.live i):t.place[SetTable.below t.place j]?≠some j:=fun z=>by
 refine h (SetTable.below t.place j) ?_
 unfold SetTable.slot
 dsimp only
 rw[z]
 simp
theorem Yfo{t:SetTable}{ha:Nat->Int}{h:Int}:∀(fuel:Nat) (p:SetTable.Probe) {j:Nat} {d:Option Nat},(∀x,p.dummy=some x->∀i,t.slot x≠.live i)->
 SetTable.probe.go t ha h fuel p=some (.empty j d)->∀i,t.slot (d.getD j)≠.live i
 | 0,p,j,d,_,e=>by rw[SetTable.probe.go]at e;cases e
 | fuel+1,p,j,d,hd,e=>by
   rw[SetTable.probe.go]at e
   split at e
   ·rename_i hs
    cases e
    intro i
    cases hp:p.dummy with
    | none=>rw[Option.getD_none,hs];exact fun z=>nomatch z
    | some x=>exact hd x hp i
   ·rename_i hs
    refine Yfo fuel _ (fun x hx i=>?_) e
    have hx':x=p.j:=by
     unfold SetTable.advance at hx
     split at hx
     ·exact(Option.some.inj hx).symm
     ·exact(Option.some.inj hx).symm
    rw[hx',hs]
    exact fun z=>nomatch z
   ·split at e
    ·cases e
    ·refine Yfo fuel _ (fun x hx i=>hd x ?_ i) e
     unfold SetTable.advance at hx
     split at hx
     ·exact hx
     ·exact hx
def Tab(bt:Bool)(t:SetTable):Prop:=(bt=false->t.led=true)/\(t.plain=true->Rise t.place)
theorem Tab.standIn{bt:Bool}{t:SetTable}(h:Tab bt t)(n:Nat):Tab bt (t.standIn n):=⟨h.1,fun z=>nomatch z⟩
theorem Tab.off{bt:Bool}{t:SetTable}(h:Tab bt t):Tab bt { t with plain:=false }:=⟨h.1,fun z=>nomatch z⟩
theorem Tab.fresh{bt:Bool}:Tab bt (.fresh 0 0 (!bt)):=⟨fun h=>by subst h;rfl,fun _=>.nil⟩
theorem Tab.layNew{bt:Bool}{t:SetTable}(h:Tab bt t)(es:Array (Int × Value))(hh:Int)(x:Value):Tab bt (PySem.layNew t es hh x).2.1:=by
 unfold PySem.layNew
 split
 ·rename_i slot wd hf
  dsimp only
  unfold SetTable.orStandIn
  split
  ·refine⟨h.1,fun z=>?_⟩
   refine Yeo (h.2 z) slot (Yhi ?_)
   unfold SetTable.freeSlot at hf
   split at hf
   ·rename_i j dummy hp
    cases hf
    exact Yfo _ _ (fun x hx=>by simp[SetTable.probeStart]at hx) hp
   ·cases hf
  ·exact⟨h.1,fun z=>nomatch z⟩
 ·exact h.standIn _
theorem Yl3{mask finger moves:Nat}{led plain:Bool}{hs:Array Int}{t:SetTable}{o:Array Nat}(h:SetTable.laid mask finger moves led plain hs=some (t,o)):Rise t.place/\t.led=led/\t.plain=plain:=by
 unfold SetTable.laid at h
 obtain⟨owner,_,h⟩:=qa h
 cases h
 refine⟨?_,rfl,rfl⟩
 unfold Rise
 show(((List.range (mask+1)).filterMap fun j=>(owner.getD j none).map (j,·)).map (·.1)).Pairwise (· < ·)
 rw[List.map_filterMap]
 refine List.Pairwise.filterMap _ (fun a b hab x hx y hy=>?_) List.pairwise_lt_range
 simp at hx hy
 obtain⟨_,_,rfl⟩:=hx
 obtain⟨_,_,rfl⟩:=hy
 exact hab
theorem Tab.relayAll{bt:Bool}{t:SetTable}(h:Tab bt t)(es:Array (Int × Value))(n:Nat):Tab bt (PySem.relayAll t es n).2.1:=by
 unfold PySem.relayAll
 split
 ·rename_i t' order hr
  obtain⟨h1,h2,h3⟩:=Yl3 hr
  dsimp only
  split
  ·exact⟨fun z=>by rw[h2];exact h.1 z,fun _=>h1⟩
  ·exact h.standIn _
 ·exact h.standIn _
end
end
section
section
variable {prog:Program} {w:World} {A:Around} {E:Value->Shared->Prop} {s:Shared}
def kOf(e:Int × Value):Int:=match e.2 with
 | .int n _=>n
 | _=>0
abbrev byT(w:World):Bool:=w.params.followText "set-order"
def SetI(prog:Program)(w:World)(h:Heap)(a:Addr)(ns:List Int):Prop:=
 ∃o es ep t,h.get? a=some o/\o.ExactSet/\o.data=.set es ep t/\ElemsOf (intKind prog w) es.toList/\es.toList.map kOf=ns/\ns.Nodup/\es.size < scanBound/\t.fits es.size=true/\Tab (byT w) t
theorem Ywx{k:Int}{e:Int × Value}(h:(intKind prog w).is k e.2=true):kOf e=k:=by
 obtain⟨t,ht⟩:=Value.isInt_shape h
 unfold kOf
 rw[ht]
theorem Yu8{es:List (Int × Value)}(h:ElemsOf (intKind prog w) es){e:Int × Value}(he:e∈es):∃t,e=(hashInt (kOf e),.int (kOf e) t):=by
 obtain⟨⟨k,hk,hh⟩,_⟩:=h e he
 have hk':=Ywx hk
 obtain⟨t,ht⟩:=Value.isInt_shape hk
 refine⟨t,?_⟩
 rw[hk']
 exact Prod.ext hh ht
theorem SetI.at{h h':Heap}{a:Addr}{ns:List Int}(x:SetI prog w h a ns)(e:∀o,h.get? a=some o->h'.get? a=some o):SetI prog w h' a ns:=
 let ⟨o,es,ep,t,ho,r⟩:=x
 ⟨o,es,ep,t,e o ho,r⟩
theorem Yhj{h:Heap}{a:Addr}{o:Obj}{es:Array (Int × Value)}{ep:Nat}{t:SetTable}(ho:h.get? a=some o)(hd:o.data=.set es ep t)(es':Array (Int × Value))(t':SetTable) :
 (h.update a (Obj.putSet es' t')).get? a=some { o with data:=.set es' (ep+1) t' }:=by
 have:=Heap.get?_update_self (Obj.putSet es' t') ho (by rw[putSet_of es' t' hd];rfl)
 rw[putSet_of es' t' hd]at this
 exact this
theorem Ypi{g:Bool->Sem Unit}(hg:∀(b:Bool) (s₁:Shared) (Q':Unit->Shared->Prop),Q' () s₁->wpAny (model prog w) A (g b) Q' E s₁)
 {a:Addr} {o:Obj} {es:Array (Int × Value)} {ep:Nat} {t:SetTable} (ho:s.heap.get? a=some o) (hex:o.ExactSet) (hd:o.data=.set es ep t)
 {es1:Array (Int × Value)} {t2:SetTable} {ms:List Int} (hel1:ElemsOf (intKind prog w) es1.toList) (hms:(es1.toList.map kOf).Perm ms) (hnd:ms.Nodup)
 (hb1:es1.size < scanBound) (hf2:t2.fits es1.size=true) (ht2:Tab (byT w) t2) {wasDummy:Bool} {R:Option Bool->Shared->Prop}
 (h:∀h' ns',Heap.SameBut a s.heap h'->SetI prog w h' a ns'->ns'.Perm ms->R (some true) { s with heap:=h' }) :
 wpAny (model prog w) A (do
  storeSet a es1 t2
  if (!wasDummy&&t2.tooFull)=true then do
      g (relayAll t2 es1 (SetTable.grown es1.size)).2.2
      storeSet a (relayAll t2 es1 (SetTable.grown es1.size)).1 (relayAll t2 es1 (SetTable.grown es1.size)).2.1
      pure (some true)
   else pure (some true)) R E s:=by
 refine wpAny_bind (wpAny_storeSet_of ho hd ?_ (fits_of_scanBound hb1))
 have ho1:=Yhj ho hd es1 t2
 have hsb1:=Heap.SameBut.update s.heap a (Obj.putSet es1 t2)
 split
 ·have hp:=relayAll_perm t2 es1 (SetTable.grown es1.size)
  have hfr:=relayAll_fits t2 es1 (SetTable.grown es1.size)
  have htr:=ht2.relayAll es1 (SetTable.grown es1.size)
  generalize hRl:relayAll t2 es1 (SetTable.grown es1.size)=Rl at hp hfr htr ⊢
  obtain⟨es2,t3,gave2⟩:=Rl
  dsimp only at hp hfr htr ⊢
  have hel2:ElemsOf (intKind prog w) es2.toList:=hel1.perm hp
  have hsz:es2.size=es1.size:=by rw[<-qi,hp.length_eq,qi]
  have hb2:es2.size < scanBound:=by rw[hsz];exact hb1
  have hp2:=(hp.map kOf).trans hms
  refine wpAny_bind (hg _ _ _ ?_)
  refine wpAny_bind (wpAny_storeSet_of ho1 rfl ?_ (fits_of_scanBound hb2))
  have ho2:=Yhj ho1 rfl es2 t3
  exact wpAny_pure (h _ _ (hsb1.trans (Heap.SameBut.update _ a _)) ⟨_,es2,_,t3,ho2,hex,rfl,hel2,rfl,hp2.nodup_iff.mpr hnd,hb2,hfr,htr⟩ hp2)
 ·exact wpAny_pure (h _ _ hsb1 ⟨_,es1,_,t2,ho1,hex,rfl,hel1,rfl,hms.nodup_iff.mpr hnd,hb1,hf2,ht2⟩ hms)
theorem Yx8{a:Addr}{ns:List Int}{k:Int}{u:Tok}{Q:Bool->Shared->Prop}(hS:SetI prog w s.heap a ns)(hroom:ns.length+1 < scanBound)
 (h:∀h' ns',Heap.SameBut a s.heap h'->SetI prog w h' a ns'->ns'.Perm (if k∈ns then ns else ns++[k])->Q (!decide (k∈ns)) { s with heap:=h' }) :
 wpAny (model prog w) A (setAddHashed a (.int k u) (hashInt k)) Q E s:=by
 have hS0:=hS
 obtain⟨o,es,ep,t,ho,hex,hd,hel,hns,hnd,hb,hf,ht⟩:=hS
 have hkey:(intKind prog w).is k (.int k u)=true:=intKind_is _ _ _ _
 have hsc:(Value.int k u).scannable=true:=rfl
 have hsz:es.size=ns.length:=by rw[<-hns,qe,qi]
 unfold setAddHashed setAddHashedIn
 refine wpAny_holding (wpAny_bind (wpAny_setState_of ho hd hf ?_))
 dsimp only
 rw[byScan_of hsc hb hel]
 simp only[↓reduceIte]
 unfold setAddByScan
 refine wpAny_bind ?_
 refine wpAny_bind (wpAny_rule ?_)
 refine wpAny_bind (wpAny_setScan_of (knd:=intKind prog w) (k:=k) hkey ho hd hf hel ?_)
 cases hr:List.findIdx? (fun e=>(intKind prog w).is k e.2) es.toList with
 | some j=>
   dsimp only
   obtain⟨hj,hpj,_⟩:=List.findIdx?_eq_some_iff_getElem.mp hr
   have hk:k∈ns:=by
    rw[<-hns,<-Ywx hpj]
    exact List.mem_map_of_mem (List.getElem_mem hj)
   refine wpAny_pure (wpAny_pure ?_)
   have e:s={ s with heap:=s.heap }:=by cases s;rfl
   have:=h s.heap ns (Heap.SameBut.refl a s.heap) hS0 (by rw[if_pos hk])
   rw[decide_eq_true hk]at this
   rw[e];exact this
 | none=>
   dsimp only
   have hk:k∉ns:=fun hk=>by
    rw[<-hns]at hk
    obtain⟨e,he,hke⟩:=qw hk
    have h1:=List.findIdx?_eq_none_iff.mp hr e he
    obtain⟨t',ht'⟩:=Yu8 hel he
    rw[ht',hke]at h1
    have h2:(intKind prog w).is k (.int k t')=true:=intKind_is _ _ _ _
    rw[h2]at h1
    exact Bool.noConfusion h1
   have hgw:∀(b:Bool) {s₁:Shared} {Q':Unit->Shared->Prop},Q' () s₁->wpAny (model prog w) A (match b with | true=>rule "set.scan.the-table-gave-way" | false=>pure ()) Q' E s₁:=
    fun b s₁ Q' hq=>by cases b<;>first | exact wpAny_pure hq | exact wpAny_rule hq
   have hperm:=layNew_perm t es (hashInt k) (.int k u)
   have hfits:=layNew_fits t es (hashInt k) (.int k u)
   have htab:=ht.layNew es (hashInt k) (.int k u)
   show wpAny (model prog w) A (do
    let (es,t,wasDummy,gave):=PySem.layNew t es (hashInt k) (.int k u)
    _) _ _ _
   generalize hL:layNew t es (hashInt k) (.int k u)=L at hperm hfits htab ⊢
   obtain⟨es1,t1,wasDummy,gave⟩:=L
   dsimp only at hperm hfits htab ⊢
   rw[Array.toList_push]at hperm
   have hel1:ElemsOf (intKind prog w) es1.toList:=(hel.push (knd:=intKind prog w) (k:=k) hkey hsc).perm hperm
   have hb1':es1.size < scanBound:=by rw[<-qi,hperm.length_eq,qx,qi];simp;lia
   have hms:(es1.toList.map kOf).Perm (ns++[k]):=by
    have:=hperm.map kOf
    rw[List.map_append,hns]at this
    exact this
   have hnd1:(ns++[k]).Nodup:=by
    rw[List.nodup_append]
    refine⟨hnd,by simp,fun x hx y hy z=>?_⟩
    simp at hy
    subst hy
    exact hk (z ▸ hx)
   have hend:∀h' ns',Heap.SameBut a s.heap h'->SetI prog w h' a ns'->ns'.Perm (ns++[k])->Q true { s with heap:=h' }:=by
    intro h' ns' hsb hS' hp
    have:=h h' ns' hsb hS' (by rw[if_neg hk];exact hp)
    rw[decide_eq_false hk]at this
    exact this
   refine wpAny_bind (hgw _ ?_)
   split
   ·refine wpAny_bind ?_
    rw[hashByValue_scannable 8 hsc]
    refine wpAny_pure ?_
    refine Ypi ?_ ho hex hd hel1 hms hnd1 hb1' ?_ ?_ ?_
    ·intro b s₁ Q' hq;cases b<;>first | exact wpAny_pure hq | exact wpAny_rule hq
    ·split
     ·exact hfits
     ·exact SetTable.fits_plain_off hfits
    ·split
     ·exact htab
     ·exact htab.off
    ·intro h' ns' hsb hS' hp;dsimp only;exact wpAny_pure (hend h' ns' hsb hS' hp)
   ·refine wpAny_bind (wpAny_pure ?_)
    simp only[↓reduceIte]
    refine Ypi ?_ ho hex hd hel1 hms hnd1 hb1' hfits htab ?_
    ·intro b s₁ Q' hq;cases b<;>first | exact wpAny_pure hq | exact wpAny_rule hq
    ·intro h' ns' hsb hS' hp;dsimp only;exact wpAny_pure (hend h' ns' hsb hS' hp)
end
def ddup:List Int->List Int->List Int
 | acc,[]=>acc
 | acc,k::r=>ddup (if k∈acc then acc else acc++[k]) r
theorem Yl4:∀(r a b:List Int),a.Perm b->(ddup a r).Perm (ddup b r)
 | [],_,_,h=>h
 | k::r,a,b,h=>by
   rw[ddup,ddup]
   refine Yl4 r _ _ ?_
   by_cases hk:k∈a
   ·rw[if_pos hk,if_pos (h.mem_iff.mp hk)];exact h
   ·rw[if_neg hk,if_neg (fun z=>hk (h.mem_iff.mpr z))];exact h.append_right _
section
variable {prog:Program} {w:World} {A:Around} {R:Result->Shared->Prop} {I:Addr} {fp wr:List Addr} {G:Array GenState->Array GenState->Prop} {n:Nat} {P:Nat->Value->Prop} {St:Nat->Shared->Prop}
theorem Yu9(W:WalksS prog w A.in1 I fp wr G n P St)(S:Addr)(hSf:S∉fp)(ms:List Int)(hn:ms.length=n)
 (hval:∀i v,P i v->∃t,v=.int (ms.getD i 0) t) (hb:n+1 < scanBound) :
 ∀(k i:Nat) (s:Shared) (ns:List Int),n - i=k->i<=n->St i s->ns.length<=i->SetI prog w s.heap S ns->
  (∀s' ns',Moved (S::wr) G s s'->SetI prog w s'.heap S ns'->ns'.Perm (ddup ns (ms.drop i))->R (.ok (.ret .none)) s')->
  codeAny (model prog w) A (.builtin "set.update.loop" ⟨[.ref S,.ref I],[]⟩) R s:=by
 have hSw:S∉wr:=fun h=>hSf (W.sub _ h)
 have hsub:∀b∈wr,b∈S::wr:=fun b hb=>qf _ hb
 intro k
 induction k with
 | zero=>
   intro i s ns hk hi hst hl hS hR
   have hin:i=n:=by lia
   subst hin
   refine codeAny_builtin F.entry_set_update_loop ?_
   rw[Around.under_plainId F.plain_set_update_loop _]
   show wpAny _ A.in1 (pyNext (.ref I) >>= _) _ _ s
   refine wpAny_bind (W.done s _ _ hst fun s' hm=>?_)
   show wpAny _ A.in1 (ret Value.none) _ _ s'
   refine wpAny_pure (hR s' ns (hm.mono hsub) (hS.at fun o e=>hm.heap S _ hSw e) ?_)
   rw[List.drop_of_length_le (by lia),ddup]
 | succ k ih=>
   intro i s ns hk hi hst hl hS hR
   have hlt:i < n:=by lia
   refine codeAny_builtin F.entry_set_update_loop ?_
   rw[Around.under_plainId F.plain_set_update_loop _]
   show wpAny _ A.in1 (pyNext (.ref I) >>= _) _ _ s
   refine wpAny_bind (W.item i s _ _ hlt hst fun v s' hP hst' hm=>?_)
   obtain⟨t,rfl⟩:=hval i v hP
   have hS':SetI prog w s'.heap S ns:=hS.at fun o e=>hm.heap S _ hSw e
   generalize hx:ms.getD i 0=x
   have hdrop:ms.drop i=x::ms.drop (i+1):=by
    rw[List.drop_eq_getElem_cons (by lia),<-hx,List.getD_eq_getElem?_getD,qp (by lia)]
    rfl
   show wpAny _ A.in1 (holding [Value.int x t] (setAdd S (.int x t)) >>= _) _ _ s'
   refine wpAny_bind (wpAny_holding ?_)
   unfold setAdd
   refine wpAny_holding ?_
   refine wpAny_bind ((intKind prog w).pyHash (k:=x) (intKind_is _ _ _ _) ?_)
   refine Yx8 (s:={ s' with toks:=s'.toks+1 }) hS' (by lia) fun h' ns' hsb hS2 hp=>?_
   have hl2:ns'.length<=i+1:=by
    rw[hp.length_eq]
    split
    ·lia
    ·simp;lia
   refine wpAny_pure ⟨plainId_quiet F.plain_set_update_loop _,ih (i+1) _ ns' (by lia) hlt (W.frame _ s' _ _ hst' (Nat.le_succ _) fun b hb o e=>?_) hl2 hS2 fun s'' ns'' hm'' hS'' hp''=>?_⟩
   ·rw[hsb.2 b (fun h:b=S=>hSf (by rw[<-h];exact hb))];exact e
   ·refine hR s'' ns'' (Moved.trans W.gtrans ((hm.mono hsub).then_heap (Nat.le_succ _) fun b o hb e=>?_) hm'') hS'' ?_
    ·rw[hsb.2 b (fun h:b=S=>hb (by rw[h];exact qg))];exact e
    ·rw[hdrop,ddup]
     exact hp''.trans (Yl4 _ _ _ hp)
end
end
section
section
variable {prog:Program} {w:World} {A:Around} {E:Value->Shared->Prop} {s:Shared}
theorem Yb6{T newId initId:String}{Bi:Builtin}{args:List Value}{Q Q₁:Value->Shared->Prop}(ft:TypeCalled T newId initId)
 (hct:checkTypeCall T ⟨args,[]⟩=pure ()) (entryI:entryFor table initId=some Bi)
 (hnew:codeAny (model prog w) A.in1 (.call (.builtin newId) ⟨.type T::args,[]⟩) (wants Q₁ E) s)
 (hnext:∀obj s₁,Q₁ obj s₁->s₁.TypeIs obj T/\(∀(A':Around) (E':Value->Shared->Prop) (Q':Unit->Shared->Prop),Q' () s₁->wpAny (model prog w) A' (checkBuiltinCall initId ⟨obj::args,[]⟩) Q' E' s₁)/\
  wpAny (model prog w) A.in1.in1 (Bi ⟨obj::args,[]⟩)
   (fun fin s'=>match fin with | .done f=>wants (fun r s₂=>r=.none/\Q obj s₂) E (.ok f) s' | .again c'=>c'.quiet=true/\codeAny (model prog w) A.in1 c' (wants (fun r s₂=>r=.none/\Q obj s₂) E) s')
   (fun e s'=>wants (fun r s₂=>r=.none/\Q obj s₂) E (.error e) s') s₁) :
 wpAny (model prog w) A (call (.type T) args) Q E s:=by
 obtain⟨c,tl,hmro⟩:=ft.mro
 have hmade:=ft.made
 have hsub:=ft.sub
 refine wpAny_call (codeAny_of_tree ?_)
 show wpAny _ _ (callAny (.type T) _) _ _ _
 refine wpAny_pure ⟨Code.quiet_builtin _ (by decide +kernel),codeAny_builtin F.entry_type_call ?_⟩
 rw[Around.under_plain (weight_type_call_type T args []) rfl]
 have h1:=ft.notType
 have h2:=ft.canCreate
 repeat (any_goals (first | assumption | wp_step))
 refine codeAny_mono hnew fun r s₁ hr=>?_
 cases r with
 | error e=>exact hr
 | ok fl=>
   cases fl with
   | ret obj=>
     obtain⟨hT,hok,hsi⟩:=hnext _ _ hr
     have hli:=ft.init.lookup
     have hbi:=ft.init.bind obj
     repeat (any_goals (first | assumption | wp_step))
     refine codeAny_mono (codeAny_call_builtin ft.init.plain entryI (hok _ _ _ hsi)) fun r₂ s₂ hr₂=>?_
     cases r₂ with
     | error e=>exact hr₂
     | ok fl₂=>
       cases fl₂ with
       | ret r=>
         obtain⟨rfl,hq⟩:=hr₂
         repeat (any_goals (first | assumption | wp_step))
       | _=>exact hr₂.elim
   | _=>exact hr.elim
abbrev emS(w:World):Obj:={ cls:=.type "set",dict:=none,data:=.set #[] 0 (.fresh 0 0 (!byT w)) }
theorem Yhk(a:Value){Q₁:Value->Shared->Prop}(h:Q₁ (.ref s.heap.objs.size) { s with heap:=s.heap.push (emS w) }) :
 codeAny (model prog w) A (.call (.builtin "set.__new__") ⟨[.type "set",a],[]⟩) (wants Q₁ E) s:=by
 refine codeAny_of_tree ?_
 show wpAny _ A.in1 (do checkBuiltinCall "set.__new__" ⟨[.type "set",a],[]⟩;again (.builtin "set.__new__" ⟨[.type "set",a],[]⟩)) _ _ s
 refine wpAny_bind (wpAny_of_eq (F.newCall_set_1 a) (wpAny_pure ⟨plainId_quiet F.plain_set_new _,codeAny_builtin F.entry_set_new ?_⟩))
 rw[Around.under_plainId F.plain_set_new _]
 unfold Builtin.«set.__new__» Builtin.Frozenset.newClass
 have hsub:=sub_set_self
 obtain⟨hp,g,d,tk,os⟩:=s
 dsimp only
 wp_walk
 refine wpAny_askSetting (wpAny_pure ?_)
 dsimp only
 simp only[newObj]
 refine wpAny_bind (wpAny_alloc (wpAny_pure ?_))
 exact wpAny_pure h
set_option maxRecDepth 100000 in
theorem Ykn{l:Addr}{items:Array Value}{ms:List Int}{Q:Value->Shared->Prop}
 (hh:A.handled=none) (hl:s.heap.IsList l items) (hi:IntsAre items.toList ms) (hb:items.size+1 < scanBound)
 (h:∀(h':Heap) (tk:Nat) ns,SetI prog w h' s.heap.objs.size ns->ns.Perm (ddup [] ms)->
  (∀b o,b < s.heap.objs.size->s.heap.get? b=some o->h'.get? b=some o)->Q (.ref s.heap.objs.size) { s with heap:=h',toks:=tk }) :
 wpAny (model prog w) A (call (.type "set") [.ref l]) Q E s:=by
 refine Yb6 (Q₁:=fun obj s₁=>obj=.ref s.heap.objs.size/\s₁={ s with heap:=s.heap.push (emS w) }) F.called_set (F.typeCall_set_1 _) F.entry_set_init (Yhk _ ⟨rfl,rfl⟩) ?_
 rintro obj s₁ ⟨rfl,rfl⟩
 have hS:(s.heap.push (emS w)).get? s.heap.objs.size=some (emS w):=qo _ rfl
 have hT:Shared.TypeIs { s with heap:=s.heap.push (emS w) } (.ref s.heap.objs.size) "set":=⟨_,hS,rfl⟩
 refine⟨hT,fun A' E' Q' hq=>check_set_init_1 hT hq,?_⟩
 obtain⟨ol,hol,hcl,nl,hdl⟩:=hl
 obtain⟨ocls,odict,odata,oslots⟩:=ol
 simp only at hcl hdl
 subst hcl;subst hdl
 have hol':(s.heap.push (emS w)).get? l=some { cls:=.type "list",dict:=odict,data:=.seq items nl,slots:=oslots }:=qd _ hol
 have hsls:=F.sub_list_set
 have hslf:=F.sub_list_frozenset
 have hne:(Value.type "list"==Value.type "dict")=false:=by decide
 have hl1:(s.heap.push (emS w)).IsList l items:=⟨_,hol',rfl,nl,rfl⟩
 unfold Builtin.«set.__init__» noKeywords Builtin.Frozenset.updateFrom
 generalize hPI:pyIter=PI
 wp_walk
 subst hPI
 refine wpAny_pyIter_list hl1 ?_
 refine wpAny_bind (wpAny_runValue ?_)
 have hlS:l < s.heap.objs.size:=qk hol
 have hh3:A.in1.in1.in1.handled=none:=by simp[hh]
 have hneI:l≠(s.heap.push (emS w)).objs.size:=by
  rw[Heap.size_push];exact ql (qv hlS)
 have hSf:s.heap.objs.size∉[(s.heap.push (emS w)).objs.size,l]:=by
  rw[Heap.size_push];simp only[List.mem_cons,List.mem_singleton,List.not_mem_nil,or_false,not_or]
  exact⟨ql (qy _),Nat.ne_of_gt hlS⟩
 have hlen:ms.length=items.size:=by have:=IntsAre.length hi;rw[qi]at this;exact this.symm
 have hval:∀(i:Nat) (v:Value),items[i]?=some v->∃t,v=.int (ms.getD i 0) t:=fun i v hv=>
  IntsAre.int_at hi i v (by rw[Array.getElem?_toList];exact hv)
 refine Yu9 ((Walks.list hh3 _ l hneI items).toS) s.heap.objs.size hSf ms hlen hval hb (items.size - 0) 0 _ [] (by lia) (Nat.zero_le _)
  ⟨⟨_,qo _ rfl,rfl,rfl⟩,(hl1.push _)⟩ (qt _) ?hS0 ?hR
 case hS0=>
  have hget:((s.heap.push (emS w)).push { cls:=.type "list_iterator",data:=.fields #[.ref l,.int 0 0] }).get? s.heap.objs.size=some (emS w):=qd _ hS
  exact⟨emS w,#[],0,_,hget,⟨rfl,rfl,rfl⟩,rfl,fun e he=>by simp at he,rfl,.nil,by decide,rfl,.fresh⟩
 case hR=>
  intro s' ns' hm hS' hp'
  obtain⟨h',g',d',tk',os'⟩:=s'
  have eg:g'=s.gens:=hm.gens
  have ed:d'=s.drawn:=hm.drawn
  have eo:os'=s.os:=hm.os
  subst eg;subst ed;subst eo
  show wpAny _ _ _ _ _ _
  refine wpAny_pure ?_
  show wpAny _ _ (ret Value.none) _ _ _
  refine wpAny_pure ⟨rfl,h h' tk' ns' hS' hp' fun b o hb e=>?_⟩
  have hb1:b≠s.heap.objs.size:=ql hb
  have hb2:b≠(s.heap.push (emS w)).objs.size:=by
   rw[Heap.size_push];exact ql (qv hb)
  exact hm.heap b o (by simp only[List.mem_cons,List.mem_singleton,List.not_mem_nil,or_false,not_or];exact⟨hb1,hb2⟩) (qd _ (qd _ e))
end
end
section
theorem Yjz{α:Type}{l:List α}{i:Nat}(h:i < l.length):(l[i]::l.eraseIdx i).Perm l:=by
 rw[List.eraseIdx_eq_take_drop_succ]
 have e:l=l.take i++l[i]::l.drop (i+1):=by
  rw[<-List.drop_eq_getElem_cons h,List.take_append_drop]
 conv=>rhs;rw[e]
 exact List.perm_middle.symm
theorem Yrs{α:Type}(next:Nat->Nat):∀(fuel k:Nat) (left:List α) (out:Array α),left.length=fuel->(pickOrder.go next fuel k left out).toList.Perm (out.toList++left)
 | 0,k,left,out,h=>by
   rw[pickOrder.go]
   rw[List.length_eq_zero_iff.mp h,List.append_nil]
 | fuel+1,k,left,out,h=>by
   rw[pickOrder.go]
   have hlt:next k % left.length < left.length:=Nat.mod_lt _ (by lia)
   rw[qp hlt]
   dsimp only
   refine(Yrs next fuel (k+1) _ _ (by rw[List.length_eraseIdx_of_lt hlt];lia)).trans ?_
   rw[Array.toList_push,List.append_assoc]
   exact(Yjz hlt).append_left _
theorem Yrt{α:Type}(next:Nat->Nat)(xs:Array α):(pickOrder next xs).toList.Perm xs.toList:=by
 have:=Yrs next xs.size 0 xs.toList #[] (by simp)
 simpa [pickOrder]using this
section
variable {prog:Program} {w:World} {A:Around} {E:Value->Shared->Prop}
theorem Yqo{src:Source}{n:Nat}{Q:Nat->Shared->Prop}{s:Shared}(hn:0 < n)(h:∀i d',i < n->Q i { s with drawn:=d' }):wpAny (model prog w) A (choose src n) Q E s:=by
 intro Γ p hΓ
 unfold choose
 rw[Sem.wp_choose]
 refine⟨by lia,?_⟩
 rw[Sem.wp_pure]
 exact h _ _ (Nat.mod_lt _ hn)
theorem Yj0{α:Type}:∀(n:Nat) (xs:List α) (s:Shared) (Q:List α->Shared->Prop),xs.length=n->(∀ys d',ys.Perm xs->Q ys { s with drawn:=d' })->wpAny (model prog w) A (drawOrder n xs) Q E s
 | 0,xs,s,Q,h,hQ=>by
   rw[List.length_eq_zero_iff.mp h]at hQ ⊢
   show wpAny _ _ (pure _) _ _ _
   exact wpAny_pure (hQ [] s.drawn .nil)
 | n+1,[],s,Q,h,hQ=>by simp at h
 | n+1,x::xs,s,Q,h,hQ=>by
   show wpAny _ _ (_ >>= _) _ _ _
   refine wpAny_bind (Yqo (by simp) fun i d' hi=>?_)
   rw[qp hi]
   dsimp only
   refine wpAny_bind (Yj0 n _ _ _ (by rw[List.length_eraseIdx_of_lt hi];lia) fun ys d2 hp=>?_)
   refine wpAny_pure (hQ _ d2 ((hp.cons _).trans ?_))
   exact Yjz hi
end
end
section
set_option maxRecDepth 100000
theorem Ypj:Manifest.owners.lookup (String.ofList ['r','o','t','a','r','e','t','i','_','t','e','s'].reverse)=some Manifest.sig_set_iterator:=by kernel_rfl
theorem slot_si_next:Slot "set_iterator" "__next__" "set_iterator.__next__":=
 .of (owner:="set_iterator") (n:="__next__") (by rw[typeLookup_type,builtinLookup_eq_fast];kernel_rfl) (by decide +kernel) (by decide +kernel) (by decide +kernel)
  (by first | exact .inl (by decide +kernel) | exact .inr (by decide +kernel)) (by rw[isSubtype_type];kernel_rfl)
theorem Yb9:entryFor table "set_iterator.__next__"=some Builtin.«set_iterator.__next__»:=entryFor_of_tree (by kernel_rfl)
theorem Ycg(a:Value):argsOk "set_iterator.__next__" ⟨[a],[]⟩:=by
 unfold argsOk;rw[signature?_of (id:="set_iterator.__next__") (n:=['_','_','t','x','e','n','_','_']) (o:=['r','o','t','a','r','e','t','i','_','t','e','s']) (by kernel_rfl) Ypj];kernel_rfl
theorem Ygc:Slot "set_iterator" "__iter__" "set_iterator.__iter__":=
 .of (owner:="set_iterator") (n:="__iter__") (by rw[typeLookup_type,builtinLookup_eq_fast];kernel_rfl) (by decide +kernel) (by decide +kernel) (by decide +kernel)
  (by first | exact .inl (by decide +kernel) | exact .inr (by decide +kernel)) (by rw[isSubtype_type];kernel_rfl)
theorem Yl5(a:Value):argsOk "set_iterator.__iter__" ⟨[a],[]⟩:=by
 unfold argsOk;rw[signature?_of (id:="set_iterator.__iter__") (n:=['_','_','r','e','t','i','_','_']) (o:=['r','o','t','a','r','e','t','i','_','t','e','s']) (by kernel_rfl) Ypj];kernel_rfl
theorem Yko:entryFor table "set_iterator.__iter__"=some Builtin.«dict_keyiterator.__iter__»:=
 entryFor_alias (id':="dict_keyiterator.__iter__") (by kernel_rfl) (by first | rfl | decide +kernel | (unfold String.splitOn;simp +decide [String.splitOnAux])) (by decide +kernel) (by kernel_rfl)
theorem Yjb:entryFor table "set.__iter__"=some Builtin.«frozenset.__iter__»:=
 entryFor_alias (id':="frozenset.__iter__") (by kernel_rfl) (by first | rfl | decide +kernel | (unfold String.splitOn;simp +decide [String.splitOnAux])) (by decide +kernel) (by kernel_rfl)
def SIt(h:Heap)(I:Addr)(first:Value)(i:Nat)(a:Addr)(n ep:Nat):Prop:=∃o,h.get? I=some o/\o.cls=.type "set_iterator"/\o.data=.fields #[first,.int i 0,.ref a,.int n 0,.int ep 0]
def SAt(h:Heap)(a:Addr)(es:Array (Int × Value))(ep:Nat)(t:SetTable):Prop:=∃o,h.get? a=some o/\o.ExactSet/\o.data=.set es ep t/\t.fits es.size=true
theorem SIt.at{h h':Heap}{I a:Addr}{f:Value}{i n ep:Nat}(x:SIt h I f i a n ep)(e:∀o,h.get? I=some o->h'.get? I=some o):SIt h' I f i a n ep:=let ⟨o,ho,r⟩:=x;⟨o,e o ho,r⟩
theorem SAt.at{h h':Heap}{a:Addr}{es:Array (Int × Value)}{ep:Nat}{t:SetTable}(x:SAt h a es ep t)(e:∀o,h.get? a=some o->h'.get? a=some o):SAt h' a es ep t:=let ⟨o,ho,r⟩:=x;⟨o,e o ho,r⟩
theorem SIt.typeIs{s:Shared}{I a:Addr}{f:Value}{i n ep:Nat}(x:SIt s.heap I f i a n ep):s.TypeIs (.ref I) "set_iterator":=let ⟨o,ho,hc,_⟩:=x;⟨o,ho,hc⟩
section
variable {prog:Program} {w:World} {A:Around} {E:Value->Shared->Prop} {s:Shared}
theorem Yru{I a:Addr}{f:Value}{i n ep:Nat}{Q:Value->Shared->Prop}(hit:SIt s.heap I f i a n ep)(h:Q (.ref I) s):wpAny (model prog w) A (pyIter (.ref I)) Q E s:=by
 refine wpAny_pyIter_slot hit.typeIs Ygc (wpAny_call_entry Ygc hit.typeIs Yko ?_ (Yl5 _))
 show wpAny _ _ (ret (.ref I)) _ _ s
 exact wpAny_pure ⟨_,rfl,"set_iterator",_,hit.typeIs,slot_si_next.lookup,h⟩
theorem Yx9{I a:Addr}{sl i ep nx:Nat}{es:Array (Int × Value)}{t:SetTable}{x:Value}{Q:Option Value->Shared->Prop}(hit:SIt s.heap I (.int sl 0) i a es.size ep)(ha:SAt s.heap a es ep t)
 (hn:∀(A':Around) (Q':Option (Value × Nat)->Shared->Prop) (E':Value->Shared->Prop),Q' (some (x,nx)) s->wpAny (model prog w) A' (setNext a sl i ep) Q' E' s)
 (hQ:∀h',SIt h' I (.int nx 0) (i+1) a es.size ep->Heap.SameBut I s.heap h'->Q (some x) { s with heap:=h' }):wpAny (model prog w) A (pyNext (.ref I)) Q E s:=by
 obtain⟨o,ho,hc,hd⟩:=id hit
 obtain⟨oa,hoa,hexa,hda,hfa⟩:=ha
 unfold pyNext
 refine wpAny_bind (wpAny_attempt (wpAny_callSpecial?_slot (name:=Str.ofString "__next__") hit.typeIs slot_si_next (wpAny_call_entry slot_si_next hit.typeIs Yb9 ?_ (Ycg _))))
 show wpAny _ _ (fieldsOf (.ref I) >>= _) _ _ s
 refine wpAny_bind (wpAny_fieldsOf ho hd ?_)
 show wpAny _ _ (setEntries a >>= _) _ _ s
 refine wpAny_bind (wpAny_setEntries_of hoa hda hfa ?_)
 rw[if_neg (by simp)]
 show wpAny _ _ (setNext a sl i ep >>= _) _ _ s
 refine wpAny_bind (hn _ _ _ ?_)
 show wpAny _ _ (setField (.ref I) 0 (rawInt nx) >>= _) _ _ s
 refine wpAny_bind (wpAny_setField ho hd (by simp) ?_)
 have ho1:=Heap.get?_update_self (Obj.mapFields (·.setIfInBounds 0 (rawInt nx))) ho (Obj.isFreed_of_fields (Obj.data_mapFields hd _))
 have hd1:=Obj.data_mapFields hd (·.setIfInBounds 0 (rawInt nx))
 show wpAny _ _ (setField (.ref I) 1 (rawInt (i+1)) >>= _) _ _ _
 refine wpAny_bind (wpAny_setField (s:={ s with heap:=s.heap.update I (Obj.mapFields (·.setIfInBounds 0 (rawInt nx))) }) ho1 hd1 (by simp) (wpAny_pure ⟨x,rfl,wpAny_pure (hQ _ ?_ ((Heap.SameBut.update ..).trans (Heap.SameBut.update ..)))⟩))
 exact⟨_,Heap.get?_update_self _ ho1 (Obj.isFreed_of_fields (Obj.data_mapFields hd1 _)),(Obj.cls_mapFields ..).trans ((Obj.cls_mapFields ..).trans hc),by
  rw[Obj.data_mapFields hd1];simp[rawInt]⟩
theorem Yya{I a:Addr}{sl i ep:Nat}{es:Array (Int × Value)}{t:SetTable}{Q:Option Value->Shared->Prop}(hh:A.handled=none)(hit:SIt s.heap I (.int sl 0) i a es.size ep)(ha:SAt s.heap a es ep t)
 (hn:∀(A':Around) (Q':Option (Value × Nat)->Shared->Prop) (E':Value->Shared->Prop),Q' none s->wpAny (model prog w) A' (setNext a sl i ep) Q' E' s)
 (hQ:∀h',Heap.ExtBut I s.heap h'->Q none { s with heap:=h' }):wpAny (model prog w) A (pyNext (.ref I)) Q E s:=by
 obtain⟨o,ho,hc,hd⟩:=id hit
 obtain⟨oa,hoa,hexa,hda,hfa⟩:=ha
 unfold pyNext
 refine wpAny_bind (wpAny_attempt (wpAny_callSpecial?_slot (name:=Str.ofString "__next__") hit.typeIs slot_si_next (wpAny_call_entry slot_si_next hit.typeIs Yb9 ?_ (Ycg _))))
 show wpAny _ _ (fieldsOf (.ref I) >>= _) _ _ s
 refine wpAny_bind (wpAny_fieldsOf ho hd ?_)
 show wpAny _ _ (setEntries a >>= _) _ _ s
 refine wpAny_bind (wpAny_setEntries_of hoa hda hfa ?_)
 rw[if_neg (by simp)]
 show wpAny _ _ (setNext a sl i ep >>= _) _ _ s
 refine wpAny_bind (hn _ _ _ ?_)
 show wpAny _ _ (setField (.ref I) 2 .none >>= _) _ _ s
 refine wpAny_bind (wpAny_setField ho hd (by simp) ?_)
 show wpAny _ _ (newExc (.type "StopIteration") [] >>= _) _ _ _
 refine wpAny_bind ?_
 simp only[newExc,newTuple]
 refine wpAny_bind (wpAny_newObj_type ?_ (by size_fits))
 refine wpAny_bind (m:=firstArgMember _ _) (wpAny_of_eq (a:=Value.none) (by first | rfl | (simp only[firstArgMember];rfl)) ?_)
 refine wpAny_newObj_type ?_ (by size_fits)
 simp only[raiseNew]
 refine wpAny_bind (wpAny_handled ?_)
 first | rw[show A.in1.handled=none from hh] | rw[hh]
 refine wpAny_bind (wpAny_pure (wpAny_throw ?_))
 refine wpAny_bind (wpAny_isInstance (T:="StopIteration") (b:=true) ⟨_,qo _ rfl,rfl⟩ isSubtype_stop ?_)
 exact wpAny_pure (hQ _ (((Heap.SameBut.update ..).extBut.push _).push _))
theorem Yva{I a T:Addr}{i j ep:Nat}{pl:Array Value}{tk:Tok}{es:Array (Int × Value)}{t:SetTable}{e:Int × Value}{Q:Option Value->Shared->Prop}(hit:SIt s.heap I (.ref T) i a es.size ep)(ha:SAt s.heap a es ep t)
 (hT:s.heap.IsTuple T pl) (hp:pl[i]?=some (.int j tk)) (he:es[j]?=some e)
 (hQ:∀h',SIt h' I (.ref T) (i+1) a es.size ep->Heap.SameBut I s.heap h'->Q (some e.2) { s with heap:=h' }):wpAny (model prog w) A (pyNext (.ref I)) Q E s:=by
 obtain⟨o,ho,hc,hd⟩:=id hit
 obtain⟨oa,hoa,hexa,hda,hfa⟩:=ha
 obtain⟨ot,hot,_,nt,hdt⟩:=hT
 unfold pyNext
 refine wpAny_bind (wpAny_attempt (wpAny_callSpecial?_slot (name:=Str.ofString "__next__") hit.typeIs slot_si_next (wpAny_call_entry slot_si_next hit.typeIs Yb9 ?_ (Ycg _))))
 show wpAny _ _ (fieldsOf (.ref I) >>= _) _ _ s
 refine wpAny_bind (wpAny_fieldsOf ho hd ?_)
 show wpAny _ _ (setEntries a >>= _) _ _ s
 refine wpAny_bind (wpAny_setEntries_of hoa hda hfa ?_)
 rw[if_neg (by simp)]
 show wpAny _ _ (seqItems? (.ref T) >>= _) _ _ s
 refine wpAny_bind (wpAny_seqItems hot hdt ?_)
 simp only[Int.toNat_natCast,hp]
 show wpAny _ _ (setNextDrawn a j ep >>= _) _ _ s
 refine wpAny_bind ?_
 unfold setNextDrawn
 refine wpAny_bind (wpAny_setState_of hoa hda hfa ?_)
 dsimp only
 rw[if_neg (by simp)]
 show wpAny _ _ (match es[j]? with | some (_,x)=>pure x | _=>unsupported "internal:set_iterator") _ _ s
 rw[he]
 refine wpAny_pure ?_
 show wpAny _ _ (setField (.ref I) 1 (rawInt (i+1)) >>= _) _ _ _
 refine wpAny_bind (wpAny_setField ho hd (by simp) (wpAny_pure ⟨e.2,rfl,wpAny_pure (hQ _ ?_ (Heap.SameBut.update ..))⟩))
 exact⟨_,Heap.get?_update_self _ ho (Obj.isFreed_of_fields (Obj.data_mapFields hd _)),(Obj.cls_mapFields ..).trans hc,by
  rw[Obj.data_mapFields hd];simp[rawInt]⟩
theorem Yvb{I a T:Addr}{i ep:Nat}{pl:Array Value}{es:Array (Int × Value)}{t:SetTable}{Q:Option Value->Shared->Prop}(hh:A.handled=none)(hit:SIt s.heap I (.ref T) i a es.size ep)(ha:SAt s.heap a es ep t)
 (hT:s.heap.IsTuple T pl) (hp:pl[i]?=none) (hQ:∀h',Heap.ExtBut I s.heap h'->Q none { s with heap:=h' }):wpAny (model prog w) A (pyNext (.ref I)) Q E s:=by
 obtain⟨o,ho,hc,hd⟩:=id hit
 obtain⟨oa,hoa,hexa,hda,hfa⟩:=ha
 obtain⟨ot,hot,_,nt,hdt⟩:=hT
 unfold pyNext
 refine wpAny_bind (wpAny_attempt (wpAny_callSpecial?_slot (name:=Str.ofString "__next__") hit.typeIs slot_si_next (wpAny_call_entry slot_si_next hit.typeIs Yb9 ?_ (Ycg _))))
 show wpAny _ _ (fieldsOf (.ref I) >>= _) _ _ s
 refine wpAny_bind (wpAny_fieldsOf ho hd ?_)
 show wpAny _ _ (setEntries a >>= _) _ _ s
 refine wpAny_bind (wpAny_setEntries_of hoa hda hfa ?_)
 rw[if_neg (by simp)]
 show wpAny _ _ (seqItems? (.ref T) >>= _) _ _ s
 refine wpAny_bind (wpAny_seqItems hot hdt ?_)
 simp only[Int.toNat_natCast,hp]
 show wpAny _ _ (setField (.ref I) 0 (rawInt 0) >>= _) _ _ s
 refine wpAny_bind (wpAny_setField ho hd (by simp) ?_)
 have ho1:=Heap.get?_update_self (Obj.mapFields (·.setIfInBounds 0 (rawInt 0))) ho (Obj.isFreed_of_fields (Obj.data_mapFields hd _))
 have hd1:=Obj.data_mapFields hd (·.setIfInBounds 0 (rawInt 0))
 show wpAny _ _ (setField (.ref I) 2 .none >>= _) _ _ _
 refine wpAny_bind (wpAny_setField (s:={ s with heap:=s.heap.update I (Obj.mapFields (·.setIfInBounds 0 (rawInt 0))) }) ho1 hd1 (by simp) ?_)
 show wpAny _ _ (newExc (.type "StopIteration") [] >>= _) _ _ _
 refine wpAny_bind ?_
 simp only[newExc,newTuple]
 refine wpAny_bind (wpAny_newObj_type ?_ (by size_fits))
 refine wpAny_bind (m:=firstArgMember _ _) (wpAny_of_eq (a:=Value.none) (by first | rfl | (simp only[firstArgMember];rfl)) ?_)
 refine wpAny_newObj_type ?_ (by size_fits)
 simp only[raiseNew]
 refine wpAny_bind (wpAny_handled ?_)
 first | rw[show A.in1.handled=none from hh] | rw[hh]
 refine wpAny_bind (wpAny_pure (wpAny_throw ?_))
 refine wpAny_bind (wpAny_isInstance (T:="StopIteration") (b:=true) ⟨_,qo _ rfl,rfl⟩ isSubtype_stop ?_)
 exact wpAny_pure (hQ _ ((((Heap.SameBut.update ..).trans (Heap.SameBut.update ..)).extBut.push _).push _))
end
end
section
set_option maxRecDepth 100000
section
variable {prog:Program} {w:World} {A:Around} {E:Value->Shared->Prop} {s:Shared}
theorem Ye2{Q:Bool->Shared->Prop}(h:Q (byT w) s):wpAny (model prog w) A setsByText Q E s:=by
 unfold setsByText
 exact wpAny_bind (wpAny_askSetting (wpAny_pure h))
theorem Yl6{a:Addr}{es:Array (Int × Value)}{ep sl i:Nat}{t:SetTable}(hb:byT w=true)(ha:SAt s.heap a es ep t){Q:Option (Value × Nat)->Shared->Prop}
 (h:Q (((pickOrder (w.params.setOrder a ep) es)[i]?).map fun e=>(e.2,sl)) s):wpAny (model prog w) A (setNext a sl i ep) Q E s:=by
 obtain⟨oa,hoa,hexa,hda,hfa⟩:=ha
 unfold setNext
 refine wpAny_bind (wpAny_setState_of hoa hda hfa ?_)
 dsimp only
 refine wpAny_bind (Ye2 ?_)
 rw[if_pos hb,if_neg (by simp)]
 refine wpAny_bind (m:=setWalk a) ?_
 unfold setWalk
 refine wpAny_bind (wpAny_setState_of hoa hda hfa ?_)
 dsimp only
 refine wpAny_bind (Ye2 ?_)
 rw[if_pos hb]
 refine wpAny_bind (wpAny_askSetting (wpAny_pure ?_))
 exact wpAny_pure h
theorem Yl7{a:Addr}{es:Array (Int × Value)}{ep sl i g:Nat}{t:SetTable}(hb:byT w=false)(hd:(!t.plain&&decide (es.size > 1))=false)(hl:t.led=true)(ha:SAt s.heap a es ep t){Q:Option (Value × Nat)->Shared->Prop}
 (hp:SetTable.below t.place sl=i) (h:Q (match es[i]?,t.place[i]? with | some (_,x),some j=>some (x,j+1) | _,_=>none) s):wpAny (model prog w) A (setNext a sl g ep) Q E s:=by
 obtain⟨oa,hoa,hexa,hda,hfa⟩:=ha
 unfold setNext
 refine wpAny_bind (wpAny_setState_of hoa hda hfa ?_)
 dsimp only
 refine wpAny_bind (Ye2 ?_)
 rw[if_neg (by rw[hb];exact qh)]
 show wpAny _ _ (if (!t.plain&&decide (es.size > 1))=true then _ else _) _ _ _
 rw[if_neg (show ¬((!t.plain&&decide (es.size > 1))=true) by rw[hd];exact qh)]
 show wpAny _ _ ((if (!t.led&&!es.isEmpty)=true then unsupported "set:maker-not-led" else pure ()) >>= _) _ _ _
 rw[if_neg (by rw[hl];simp)]
 refine wpAny_bind (wpAny_pure ?_)
 rw[hp]
 exact wpAny_pure h
def Yec(pl:Array Nat):Nat->Nat
 | 0=>0
 | i+1=>pl.getD i 0+1
theorem Ypk{pl:Array Nat}(hr:Rise pl){i:Nat}(hi:i<=pl.size):SetTable.below pl (Yec pl i)=i:=by
 obtain⟨h1,h2,h3⟩:=Yd2 hr (Yec pl i)
 generalize hp:SetTable.below pl (Yec pl i)=p at h1 h2 h3
 have mono:∀(i k:Nat) (hi:i < pl.size) (hk:k < pl.size),i < k->pl[i] < pl[k]:=fun i k hi hk h=>by
  have:=List.pairwise_iff_getElem.mp hr i k (by simpa using hi) (by simpa using hk) h
  simpa using this
 have e1:∀k (hk:k < pl.size),k < p->pl[k] < Yec pl i:=fun k hk hkp=>h2 _ (by
  rw[List.mem_iff_getElem]
  exact⟨k,by simp;lia,by simp⟩)
 have e2:∀k (hk:k < pl.size),p<=k->Yec pl i<=pl[k]:=fun k hk hkp=>h3 _ (by
  rw[List.mem_iff_getElem]
  exact⟨k - p,by simp;lia,by
   rw[List.getElem_drop,Array.getElem_toList]
   congr 1
   lia⟩)
 rcases Nat.lt_trichotomy p i with h | h | h
 ·have hk:p < pl.size:=by lia
  have:=e2 p hk (qt _)
  cases i with
  | zero=>lia
  | succ j=>
    have hj:j < pl.size:=by lia
    simp only[Yec,Array.getD,hj,dite_true]at this
    by_cases e:p=j
    ·subst e;exact absurd this (by simp)
    ·have:=mono p j hk hj (by lia)
     simp at *
     lia
 ·exact h
 ·have hk:i < pl.size:=by lia
  have:=e1 i hk h
  cases i with
  | zero=>simp[Yec]at this
  | succ j=>
    have hj:j < pl.size:=by lia
    have h':=mono j (j+1) hj hk (by lia)
    simp only[Yec,Array.getD,hj,dite_true]at this
    simp at *
    lia
end
end
section
inductive D where
 | non | bl (b:Bool) | int (i:Int) | str (x:Str) | tup (l:List D) | lst (l:List D)
 | scr (ns:List Int)
 | dct (t:Bool) (ks vs:List D)
 | obj (c:Str) (ks:List Str) (vs:List D)
 | adr (a:Addr)
mutual
def toPy:D->PyData
 | .non=>.none
 | .bl b=>.bool b
 | .int i=>.int i
 | .str x=>.str x
 | .tup l=>.tuple (Yca l)
 | .lst l=>.list (Yca l)
 | .scr ns=>.list (ns.map PyData.int)
 | .dct _ _ _=>.none
 | .obj _ _ _=>.none
 | .adr _=>.none
def Yca:List D->List PyData
 | []=>[]
 | d::l=>toPy d::Yca l
end
def eqD(d e:D):Bool:=PyData.eqv (toPy d) (toPy e)
def eqL(l m:List D):Bool:=PyData.eqvAll (Yca l) (Yca m)
def numV:V->Option Int
 | .int i=>some i
 | .bl b=>some (if b then 1 else 0)
 | _=>none
def Yyb:List V->Option (List Int)
 | []=>some []
 | x::r=>(numV x).bind fun i=>(Yyb r).map (i::·)
def Yyc(ks:List Int):Int:=reduceHash (Builtin.Tuple.tupleHashOf (ks.map hashInt))
def DtOk(a:Addr)(nks:List (List Int × Addr))(vxs:List V)(ep:Nat)(h:Heap):Prop:=
 (a==sysModules)=false/\∃us o es,Vals vxs us/\h.get? a=some o/\o.ExactDict/\o.data=.dict es ep/\es.toList=(nks.zip us).map fun p=>(⟨Yyc p.1.1,.ref p.1.2,p.2⟩:DictEntry)
def dTo(a:Addr)(nks:List (List Int × Addr))(vxs:List V)(ep:Nat):HO:=.ext (DtOk a nks vxs ep)
def Dc(t:Bool)(G H:Hp)(a:Addr)(kxs vxs:List V):Prop:=
 (t=false/\∃kvs:List (Key × V),H a=some (.dK kvs)/\(kvs.map (·.1)).Nodup/\kxs=kvs.map (fun p=>kV p.1)/\vxs=kvs.map (·.2))\/
 (t=true/\∃(nks:List (List Int × Addr)) (ep:Nat),H a=some (dTo a nks vxs ep)/\nks.length=vxs.length/\(nks.map (·.1)).Nodup/\kxs=nks.map (fun p=>V.ref p.2)/\∀p∈nks,∃ys,G p.2=some (.tup ys)/\Yyb ys=some p.1)
mutual
def Rp(K:W.Frag)(G:Hp):D->V->Prop
 | .non,v=>v=V.non
 | .bl b,v=>v=V.bl b
 | .int i,v=>v=V.int i
 | .str x,v=>v=V.str x/\PyData.strOk x=true
 | .tup l,v=>∃a xs,v=V.ref a/\G a=some (HO.tup xs)/\RpL K G l xs
 | .lst l,v=>∃a xs,v=V.ref a/\Rd G a (HO.lst xs)/\RpL K G l xs
 | .scr ns,v=>∃a,v=V.ref a/\SqL K G a (ns.map V.int)
 | .dct t ks vs,v=>∃a kxs vxs,v=V.ref a/\Dc t G G a kxs vxs/\RpL K G ks kxs/\RpL K G vs vxs
 | .obj c ks vs,v=>∃a C dx xs,v=V.ref a/\W.nsIn K mainGlobals c=some (some (.ref C))/\G a=some (HO.ins C dx (ks.zip xs))/\xs.length=ks.length/\RpL K G vs xs
 | .adr a,v=>v=V.ref a
def RpL(K:W.Frag)(G:Hp):List D->List V->Prop
 | [],xs=>xs=[]
 | d::l,xs=>∃x r,xs=x::r/\Rp K G d x/\RpL K G l r
end
variable {K:W.Frag}
theorem Yaz{G G':Hp}(h:Same G G'){a:Addr}{u:HO}(r:Rd G a u):Rd G' a u:=by
 rcases r with r | ⟨o,r⟩
 ·exact .inl (h _ _ r)
 ·exact .inr ⟨o,h _ _ r⟩
theorem Dc.mono{t:Bool}{G G' H H':Hp}(g:Same G G'){a:Addr}{kxs vxs:List V}(h:∀o,H a=some o->H' a=some o)(d:Dc t G H a kxs vxs):Dc t G' H' a kxs vxs:=by
 rcases d with⟨e,kvs,h1,h2⟩ | ⟨e,nks,ep,h1,h2,h3,h4,h5⟩
 ·exact .inl ⟨e,kvs,h _ h1,h2⟩
 ·refine .inr ⟨e,nks,ep,h _ h1,h2,h3,h4,fun p hp=>?_⟩
  obtain⟨ys,q1,q2⟩:=h5 p hp
  exact⟨ys,g _ _ q1,q2⟩
theorem Dc.someT{t:Bool}{G H:Hp}{a:Addr}{kxs vxs:List V}(d:Dc t G H a kxs vxs):∃o,H a=some o/\∀xs,o≠.tup xs:=by
 rcases d with⟨_,kvs,h1,_⟩ | ⟨_,nks,ep,h1,_⟩
 ·exact⟨_,h1,fun xs z=>by cases z⟩
 ·exact⟨_,h1,fun xs z=>by cases z⟩
theorem Dc.some{t:Bool}{G H:Hp}{a:Addr}{kxs vxs:List V}(d:Dc t G H a kxs vxs):∃o,H a=some o/\∀xs,o≠.lst xs:=by
 rcases d with⟨_,kvs,h1,_⟩ | ⟨_,nks,ep,h1,_⟩
 ·exact⟨_,h1,fun xs z=>by cases z⟩
 ·exact⟨_,h1,fun xs z=>by cases z⟩
mutual
theorem Rp.mono{G G':Hp}(h:Same G G'):∀{d:D} {v:V},Rp K G d v->Rp K G' d v
 | .non,_,r=>by rw[Rp]at r ⊢;exact r
 | .bl _,_,r=>by rw[Rp]at r ⊢;exact r
 | .int _,_,r=>by rw[Rp]at r ⊢;exact r
 | .str _,_,r=>by rw[Rp]at r ⊢;exact r
 | .tup l,_,r=>by
   rw[Rp]at r ⊢
   obtain⟨a,xs,e,g,q⟩:=r
   exact⟨a,xs,e,h _ _ g,RpL.mono h q⟩
 | .lst l,_,r=>by
   rw[Rp]at r ⊢
   obtain⟨a,xs,e,g,q⟩:=r
   exact⟨a,xs,e,Yaz h g,RpL.mono h q⟩
 | .scr ns,_,r=>by
   rw[Rp]at r ⊢
   obtain⟨a,e,g⟩:=r
   exact⟨a,e,h.seq g⟩
 | .dct t ks vs,_,r=>by
   rw[Rp]at r ⊢
   obtain⟨a,kxs,vxs,e,g,q1,q2⟩:=r
   exact⟨a,kxs,vxs,e,g.mono h fun o=>h _ o,RpL.mono h q1,RpL.mono h q2⟩
 | .obj c ks vs,_,r=>by
   rw[Rp]at r ⊢
   obtain⟨a,C,dx,xs,e,n,g,l,q⟩:=r
   exact⟨a,C,dx,xs,e,n,h _ _ g,l,RpL.mono h q⟩
 | .adr _,_,r=>by rw[Rp]at r ⊢;exact r
theorem RpL.mono{G G':Hp}(h:Same G G'):∀{l:List D} {xs:List V},RpL K G l xs->RpL K G' l xs
 | [],_,r=>by rw[RpL]at r ⊢;exact r
 | d::l,_,r=>by
   rw[RpL]at r ⊢
   obtain⟨x,xs,e,g,q⟩:=r
   exact⟨x,xs,e,Rp.mono h g,RpL.mono h q⟩
end
section
variable {G:Hp}
theorem RpL.length:∀{l:List D} {xs:List V},RpL K G l xs->xs.length=l.length
 | [],_,r=>by rw[RpL]at r;subst r;rfl
 | d::l,_,r=>by
   rw[RpL]at r
   obtain⟨x,xs,rfl,_,q⟩:=r
   simp[RpL.length q]
theorem RpL.get:∀{l:List D} {xs:List V} {i:Nat} {d:D},RpL K G l xs->l[i]?=some d->∃x,xs[i]?=some x/\Rp K G d x
 | [],_,_,_,_,e=>by simp at e
 | d::l,_,0,_,r,e=>by
   rw[RpL]at r
   obtain⟨x,xs,rfl,g,q⟩:=r
   simp at e
   subst e
   exact⟨x,rfl,g⟩
 | d::l,_,i+1,_,r,e=>by
   rw[RpL]at r
   obtain⟨x,xs,rfl,g,q⟩:=r
   obtain⟨y,h1,h2⟩:=RpL.get (i:=i) q (by simpa using e)
   exact⟨y,by simpa using h1,h2⟩
theorem RpL.nil:RpL K G [] []:=by rw[RpL]
theorem RpL.cons{d:D}{l:List D}{x:V}{xs:List V}(h:Rp K G d x)(q:RpL K G l xs):RpL K G (d::l) (x::xs):=by rw[RpL];exact⟨x,xs,rfl,h,q⟩
theorem RpL.append:∀{l m:List D} {xs ys:List V},RpL K G l xs->RpL K G m ys->RpL K G (l++m) (xs++ys)
 | [],_,_,_,r,q=>by rw[RpL]at r;subst r;exact q
 | d::l,m,_,ys,r,q=>by
   rw[RpL]at r
   obtain⟨x,xs,rfl,g,r⟩:=r
   exact .cons g (RpL.append r q)
theorem RpL.one{d:D}{x:V}(h:Rp K G d x):RpL K G [d] [x]:=.cons h .nil
theorem RpL.take:∀{l:List D} {xs:List V} (n:Nat),RpL K G l xs->RpL K G (l.take n) (xs.take n)
 | _,_,0,_=>by rw[List.take_zero,List.take_zero];exact .nil
 | [],_,_+1,r=>by rw[RpL]at r;subst r;exact .nil
 | d::l,_,n+1,r=>by
   rw[RpL]at r
   obtain⟨x,xs,rfl,g,r⟩:=r
   exact .cons g (RpL.take n r)
theorem RpL.drop:∀{l:List D} {xs:List V} (n:Nat),RpL K G l xs->RpL K G (l.drop n) (xs.drop n)
 | _,_,0,r=>r
 | [],_,_+1,r=>by rw[RpL]at r;subst r;exact .nil
 | d::l,_,n+1,r=>by
   rw[RpL]at r
   obtain⟨x,xs,rfl,g,r⟩:=r
   exact RpL.drop n r
theorem RpL.ints:∀(ns:List Int),RpL K G (ns.map D.int) (ns.map V.int)
 | []=>.nil
 | n::ns=>.cons (by rw[Rp]) (RpL.ints ns)
end
structure Gr(H G H' G':Hp):Prop where
 h:Same H H'
 g:Same G G'
 s:Same G' H'
 n:∀a,G a=none->G' a≠none->H a=none
theorem Gr.refl{H G:Hp}(s:Same G H):Gr H G H G:=⟨Same.refl _,Same.refl _,s,fun _ h h'=>absurd h h'⟩
theorem Gr.trans{H G H1 G1 H2 G2:Hp}(a:Gr H G H1 G1)(b:Gr H1 G1 H2 G2):Gr H G H2 G2:=
 ⟨a.h.trans b.h,a.g.trans b.g,b.s,fun x h h'=>by
  by_cases e:G1 x=none
  ·exact a.h.free (b.n x e h')
  ·exact a.n x h e⟩
theorem Gr.new{H G:Hp}(s:Same G H){p:Addr}(hp:H p=none)(o:HO):Gr H G (upd H p o) (upd G p o):=by
 have gp:G p=none:=s.free hp
 refine⟨fun b u e=>?_,fun b u e=>?_,fun b u e=>?_,fun b h h'=>?_⟩
 ·rw[Yv (Ys e hp)];exact e
 ·rw[Yv (Ys e gp)];exact e
 ·by_cases q:b=p
  ·subst q;rw[Yt]at e ⊢;exact e
  ·rw[Yv q]at e ⊢;exact s _ _ e
 ·by_cases q:b=p
  ·subst q;exact hp
  ·rw[Yv q]at h';exact absurd h h'
theorem Gr.hid{H G:Hp}(s:Same G H){p:Addr}(hp:H p=none)(o:HO):Gr H G (upd H p o) G:=by
 have gp:G p=none:=s.free hp
 refine⟨fun b u e=>?_,Same.refl _,fun b u e=>?_,fun b h h'=>absurd h h'⟩
 ·rw[Yv (Ys e hp)];exact e
 ·rw[Yv (Ys e gp)];exact s _ _ e
theorem Gr.show{H G H' G':Hp}(g:Gr H G H' G'){p:Addr}{o:HO}(hp:H p=none)(gp:G' p=none)(e:H' p=some o):Gr H G H' (upd G' p o):=by
 refine⟨g.h,fun b u q=>?_,fun b u q=>?_,fun b h h'=>?_⟩
 ·have:=g.g b u q
  rw[Yv (Ys this gp)];exact this
 ·by_cases z:b=p
  ·subst z;rw[Yt]at q;rw[e];exact q
  ·rw[Yv z]at q;exact g.s b u q
 ·by_cases z:b=p
  ·subst z;exact hp
  ·rw[Yv z]at h';exact g.n b h h'
def Ct(K:W.Frag)(G H:Hp):D->V->Prop
 | .non,v=>v=V.non
 | .bl b,v=>v=V.bl b
 | .int i,v=>v=V.int i
 | .str x,v=>v=V.str x/\PyData.strOk x=true
 | .tup l,v=>∃a xs,v=V.ref a/\(H a=some (HO.tup xs)/\G a=some (HO.tup xs))/\RpL K G l xs
 | .lst l,v=>∃a xs,v=V.ref a/\Rd H a (HO.lst xs)/\RpL K G l xs
 | .scr ns,v=>∃a,v=V.ref a/\SqL K H a (ns.map V.int)
 | .dct t ks vs,v=>∃a kxs vxs,v=V.ref a/\Dc t G H a kxs vxs/\RpL K G ks kxs/\RpL K G vs vxs
 | .obj c ks vs,v=>∃a C dx xs,v=V.ref a/\W.nsIn K mainGlobals c=some (some (.ref C))/\G a=some (HO.ins C dx (ks.zip xs))/\xs.length=ks.length/\RpL K G vs xs
 | .adr a,v=>v=V.ref a
theorem Ct.of{G H:Hp}(s:Same G H){d:D}{v:V}(r:Rp K G d v):Ct K G H d v:=by
 cases d<;>rw[Rp]at r<;>rw[Ct]
 ·exact r
 ·exact r
 ·exact r
 ·exact r
 ·obtain⟨a,xs,e,g,q⟩:=r
  exact⟨a,xs,e,⟨s _ _ g,g⟩,q⟩
 ·obtain⟨a,xs,e,g,q⟩:=r
  exact⟨a,xs,e,Yaz s g,q⟩
 ·obtain⟨a,e,g⟩:=r
  exact⟨a,e,s.seq g⟩
 ·obtain⟨a,kxs,vxs,e,g,q1,q2⟩:=r
  exact⟨a,kxs,vxs,e,g.mono (Same.refl _) fun o=>s _ o,q1,q2⟩
 ·exact r
 ·exact r
theorem Ct.rp{G H:Hp}(s:Same G H){d:D}{v:V}(r:Ct K G H d v):Rp K H d v:=by
 cases d<;>rw[Ct]at r<;>rw[Rp]
 ·exact r
 ·exact r
 ·exact r
 ·exact r
 ·obtain⟨a,xs,e,g,q⟩:=r
  exact⟨a,xs,e,g.1,q.mono s⟩
 ·obtain⟨a,xs,e,g,q⟩:=r
  exact⟨a,xs,e,g,q.mono s⟩
 ·exact r
 ·obtain⟨a,kxs,vxs,e,g,q1,q2⟩:=r
  exact⟨a,kxs,vxs,e,g.mono s fun _ z=>z,q1.mono s,q2.mono s⟩
 ·obtain⟨a,C,dx,xs,e,n,g,l,q⟩:=r
  exact⟨a,C,dx,xs,e,n,s _ _ g,l,q.mono s⟩
 ·exact r
theorem Ct.grow{G H G' H':Hp}(g:Gr H G H' G'){d:D}{v:V}(r:Ct K G H d v):Ct K G' H' d v:=by
 cases d<;>rw[Ct]at r<;>rw[Ct]
 ·exact r
 ·exact r
 ·exact r
 ·exact r
 ·obtain⟨a,xs,e,h,q⟩:=r
  exact⟨a,xs,e,⟨g.h _ _ h.1,g.g _ _ h.2⟩,q.mono g.g⟩
 ·obtain⟨a,xs,e,h,q⟩:=r
  exact⟨a,xs,e,Yaz g.h h,q.mono g.g⟩
 ·obtain⟨a,e,h⟩:=r
  exact⟨a,e,g.h.seq h⟩
 ·obtain⟨a,kxs,vxs,e,h,q1,q2⟩:=r
  exact⟨a,kxs,vxs,e,h.mono g.g fun o=>g.h _ o,q1.mono g.g,q2.mono g.g⟩
 ·obtain⟨a,C,dx,xs,e,n,h,l,q⟩:=r
  exact⟨a,C,dx,xs,e,n,g.g _ _ h,l,q.mono g.g⟩
 ·exact r
def CtL(K:W.Frag)(G H:Hp):List D->List V->Prop
 | [],xs=>xs=[]
 | d::l,xs=>∃x r,xs=x::r/\Ct K G H d x/\CtL K G H l r
inductive B where
 | sh (d:D) | ow (l:List D) | od (t:Bool) (ks vs:List D)
abbrev Ro:=List (Option B)
structure SR(K:W.Frag)(H0 G0:Hp)(σ:L2.St)(H G:Hp)(ρ:Ro):Prop where
 gr:Gr H0 G0 H G
 len:σ.length=ρ.length
 sh:∀(i:Nat) d,ρ[i]?=some (some (B.sh d))->∃v,σ[i]?=some (some v)/\Rp K G d v
 ow:∀(i:Nat) l,ρ[i]?=some (some (B.ow l))->∃a xs,σ[i]?=some (some (V.ref a))/\G a=none/\H0 a=none/\H a=some (.lst xs)/\RpL K G l xs
 ap:∀(i j:Nat) l l' a b,ρ[i]?=some (some (B.ow l))->ρ[j]?=some (some (B.ow l'))->i≠j->σ[i]?=some (some (V.ref a))->σ[j]?=some (some (V.ref b))->a≠b
 od:∀(i:Nat) t ks vs,ρ[i]?=some (some (B.od t ks vs))->∃a kxs vxs,σ[i]?=some (some (V.ref a))/\G a=none/\H0 a=none/\Dc t G H a kxs vxs/\RpL K G ks kxs/\RpL K G vs vxs
 apd:∀(i j:Nat) t ks vs t' ks' vs' a b,ρ[i]?=some (some (B.od t ks vs))->ρ[j]?=some (some (B.od t' ks' vs'))->i≠j->σ[i]?=some (some (V.ref a))->σ[j]?=some (some (V.ref b))->a≠b
section
variable {H0 G0 H G H' G':Hp} {σ:L2.St} {ρ:Ro}
theorem SR.mkSh(g:Gr H0 G0 H G)(len:σ.length=ρ.length)(sh:∀(i:Nat) d,ρ[i]?=some (some (B.sh d))->∃v,σ[i]?=some (some v)/\Rp K G d v)(no:∀(i:Nat) l,ρ[i]?≠some (some (B.ow l)))(no':∀(i:Nat) t ks vs,ρ[i]?≠some (some (B.od t ks vs))):SR K H0 G0 σ H G ρ:=
 ⟨g,len,sh,fun i l h=>absurd h (no i l),fun i j l l' a b h=>absurd h (no i l),fun i t ks vs h=>absurd h (no' i t ks vs),fun i j t ks vs t' ks' vs' a b h=>absurd h (no' i t ks vs)⟩
theorem Yl8(g:Gr H G H' G'){a:Addr}{o:HO}(h:H a=some o)(n:G a=none):G' a=none:=by
 cases q:G' a with
 | none=>rfl
 | some o=>
   have:=g.n a n (by rw[q];exact fun z=>nomatch z)
   rw[h]at this
   cases this
theorem SR.grow(s:SR K H0 G0 σ H G ρ)(g:Gr H G H' G'):SR K H0 G0 σ H' G' ρ:=by
 refine⟨s.gr.trans g,s.len,fun i d e=>?_,fun i l e=>?_,s.ap,fun i t ks vs e=>?_,s.apd⟩
 ·obtain⟨v,h1,h2⟩:=s.sh i d e
  exact⟨v,h1,h2.mono g.g⟩
 ·obtain⟨a,xs,h1,h2,h3,h4,h5⟩:=s.ow i l e
  exact⟨a,xs,h1,Yl8 g h4 h2,h3,g.h _ _ h4,h5.mono g.g⟩
 ·obtain⟨a,kxs,vxs,h1,h2,h3,h4,h5,h6⟩:=s.od i t ks vs e
  obtain⟨o,h7,_⟩:=h4.some
  exact⟨a,kxs,vxs,h1,Yl8 g h7 h2,h3,h4.mono g.g fun o=>g.h _ o,h5.mono g.g,h6.mono g.g⟩
theorem SR.seen(s:SR K H0 G0 σ H G ρ):Same G H:=s.gr.s
theorem Yn{α:Type}{l:List α}{i j:Nat}{x y:α}(h:(l.set i x)[j]?=some y):(j=i/\y=x/\i < l.length)\/(j≠i/\l[j]?=some y):=by
 by_cases e:j=i
 ·subst e
  have hl:j < l.length:=by
   have:=(qm h).1
   simpa using this
  rw[List.getElem?_set_self hl]at h
  exact .inl ⟨rfl,(Option.some.inj h).symm,hl⟩
 ·rw[Qd (Ne.symm e)]at h
  exact .inr ⟨e,h⟩
theorem SR.set_sh(s:SR K H0 G0 σ H G ρ)(i:Nat){d:D}{v:V}(r:Rp K G d v):SR K H0 G0 (σ.set i (some v)) H G (ρ.set i (some (.sh d))):=by
 refine⟨s.gr,by simp[s.len],fun j e h=>?_,fun j l h=>?_,fun j k l l' a b h1 h2 h3 h4 h5=>?_,fun j t ks vs h=>?_,fun j k t ks vs t' ks' vs' a b h1 h2 h3 h4 h5=>?_⟩
 ·rcases Yn h with⟨rfl,e1,hl⟩ | ⟨hj,h⟩
  ·cases e1
   exact⟨v,by rw[List.getElem?_set_self (by rw[s.len];exact hl)],r⟩
  ·obtain⟨w,q1,q2⟩:=s.sh j e h
   exact⟨w,by rw[Qd (Ne.symm hj)];exact q1,q2⟩
 ·rcases Yn h with⟨rfl,e1,hl⟩ | ⟨hj,h⟩
  ·cases e1
  ·obtain⟨a,xs,q1,q2⟩:=s.ow j l h
   exact⟨a,xs,by rw[Qd (Ne.symm hj)];exact q1,q2⟩
 ·rcases Yn h1 with⟨rfl,e1,_⟩ | ⟨hj,h1⟩
  ·cases e1
  ·rcases Yn h2 with⟨rfl,e1,_⟩ | ⟨hk,h2⟩
   ·cases e1
   ·rw[Qd (Ne.symm hj)]at h4
    rw[Qd (Ne.symm hk)]at h5
    exact s.ap j k l l' a b h1 h2 h3 h4 h5
 ·rcases Yn h with⟨rfl,e1,hl⟩ | ⟨hj,h⟩
  ·cases e1
  ·obtain⟨a,kxs,vxs,q1,q2⟩:=s.od j t ks vs h
   exact⟨a,kxs,vxs,by rw[Qd (Ne.symm hj)];exact q1,q2⟩
 ·rcases Yn h1 with⟨rfl,e1,_⟩ | ⟨hj,h1⟩
  ·cases e1
  ·rcases Yn h2 with⟨rfl,e1,_⟩ | ⟨hk,h2⟩
   ·cases e1
   ·rw[Qd (Ne.symm hj)]at h4
    rw[Qd (Ne.symm hk)]at h5
    exact s.apd j k t ks vs t' ks' vs' a b h1 h2 h3 h4 h5
theorem SR.set_ow(s:SR K H0 G0 σ H G ρ)(i:Nat){l:List D}{p:Addr}{xs:List V}(g:Gr H G H' G')(hp:H p=none)(gp:G' p=none)(e:H' p=some (.lst xs))(r:RpL K G' l xs):SR K H0 G0 (σ.set i (some (.ref p))) H' G' (ρ.set i (some (.ow l))):=by
 have s':=s.grow g
 have np:∀(j:Nat) l a,ρ[j]?=some (some (B.ow l))->σ[j]?=some (some (V.ref a))->a≠p:=fun j l a h1 h2 z=>by
  obtain⟨b,ys,q1,_,_,q4,_⟩:=s.ow j l h1
  rw[h2]at q1
  cases q1
  rw[z,hp]at q4
  cases q4
 refine⟨s'.gr,by simp[s.len],fun j e h=>?_,fun j l h=>?_,fun j k l l' a b h1 h2 h3 h4 h5=>?_,fun j t ks vs h=>?_,fun j k t ks vs t' ks' vs' a b h1 h2 h3 h4 h5=>?_⟩
 ·rcases Yn h with⟨rfl,e1,hl⟩ | ⟨hj,h⟩
  ·cases e1
  ·obtain⟨w,q1,q2⟩:=s'.sh j e h
   exact⟨w,by rw[Qd (Ne.symm hj)];exact q1,q2⟩
 ·rcases Yn h with⟨rfl,e1,hl⟩ | ⟨hj,h⟩
  ·cases e1
   exact⟨p,xs,by rw[List.getElem?_set_self (by rw[s.len];exact hl)],gp,s.gr.h.free hp,e,r⟩
  ·obtain⟨a,xs,q1,q2⟩:=s'.ow j l h
   exact⟨a,xs,by rw[Qd (Ne.symm hj)];exact q1,q2⟩
 ·rcases Yn h1 with⟨rfl,e1,hl⟩ | ⟨hj,h1n⟩
  ·rcases Yn h2 with⟨rfl,e2,_⟩ | ⟨hk,h2⟩
   ·exact absurd rfl h3
   ·rw[List.getElem?_set_self (by rw[s.len];exact hl)]at h4
    cases h4
    rw[Qd (Ne.symm hk)]at h5
    exact Ne.symm (np k l' b h2 h5)
  ·rcases Yn h2 with⟨rfl,e2,hl⟩ | ⟨hk,h2⟩
   ·rw[List.getElem?_set_self (by rw[s.len];exact hl)]at h5
    cases h5
    rw[Qd (Ne.symm hj)]at h4
    exact np j l a h1n h4
   ·rw[Qd (Ne.symm hj)]at h4
    rw[Qd (Ne.symm hk)]at h5
    exact s.ap j k l l' a b h1n h2 h3 h4 h5
 ·rcases Yn h with⟨rfl,e1,hl⟩ | ⟨hj,h⟩
  ·cases e1
  ·obtain⟨a,kxs,vxs,q1,q2⟩:=s'.od j t ks vs h
   exact⟨a,kxs,vxs,by rw[Qd (Ne.symm hj)];exact q1,q2⟩
 ·rcases Yn h1 with⟨rfl,e1,_⟩ | ⟨hj,h1⟩
  ·cases e1
  ·rcases Yn h2 with⟨rfl,e1,_⟩ | ⟨hk,h2⟩
   ·cases e1
   ·rw[Qd (Ne.symm hj)]at h4
    rw[Qd (Ne.symm hk)]at h5
    exact s.apd j k t ks vs t' ks' vs' a b h1 h2 h3 h4 h5
theorem SR.mut(s:SR K H0 G0 σ H G ρ){i:Nat}{l l':List D}{a:Addr}{ys:List V}(hi:ρ[i]?=some (some (B.ow l)))(ha:σ[i]?=some (some (V.ref a)))(r:RpL K G l' ys):SR K H0 G0 σ (upd H a (.lst ys)) G (ρ.set i (some (.ow l'))):=by
 obtain⟨a',xs,q1,q2,q3,q4,q5⟩:=s.ow i l hi
 rw[ha]at q1
 cases q1
 have hl:i < ρ.length:=(qm hi).1
 refine⟨⟨fun b o e=>?_,s.gr.g,fun b o e=>?_,s.gr.n⟩,by simp[s.len],fun j e h=>?_,fun j m h=>?_,fun j k m m' b c h1 h2 h3 h4 h5=>?_,fun j t ks vs h=>?_,fun j k t ks vs t' ks' vs' b c h1 h2 h3 h4 h5=>?_⟩
 ·rw[Yv (Ys e q3)];exact s.gr.h b o e
 ·rw[Yv (Ys e q2)];exact s.gr.s b o e
 ·rcases Yn h with⟨rfl,e1,_⟩ | ⟨hj,h⟩
  ·cases e1
  ·exact s.sh j e h
 ·rcases Yn h with⟨rfl,e1,_⟩ | ⟨hj,h⟩
  ·cases e1
   exact⟨a,ys,ha,q2,q3,Yt,r⟩
  ·obtain⟨b,zs,p1,p2,p3,p4,p5⟩:=s.ow j m h
   exact⟨b,zs,p1,p2,p3,by rw[Yv (s.ap j i m l b a h hi hj p1 ha)];exact p4,p5⟩
 ·have old:∀(j:Nat) m,(ρ.set i (some (.ow l')))[j]?=some (some (B.ow m))->∃m',ρ[j]?=some (some (B.ow m')):=fun j m h=>by
   rcases Yn h with⟨rfl,_,_⟩ | ⟨_,h⟩
   ·exact⟨l,hi⟩
   ·exact⟨m,h⟩
  obtain⟨n1,e1⟩:=old j m h1
  obtain⟨n2,e2⟩:=old k m' h2
  exact s.ap j k n1 n2 b c e1 e2 h3 h4 h5
 ·rcases Yn h with⟨rfl,e1,_⟩ | ⟨hj,h⟩
  ·cases e1
  ·obtain⟨b,kxs,vxs,p1,p2,p3,p4,p5⟩:=s.od j t ks vs h
   refine⟨b,kxs,vxs,p1,p2,p3,p4.mono (Same.refl _) fun o q=>?_,p5⟩
   obtain⟨o',q',nl⟩:=p4.some
   rw[q]at q'
   cases q'
   rw[Yv (fun z=>by rw[z,q4]at q;cases q;exact nl _ rfl)];exact q
 ·rcases Yn h1 with⟨rfl,e1,_⟩ | ⟨hj,h1⟩
  ·cases e1
  ·rcases Yn h2 with⟨rfl,e1,_⟩ | ⟨hk,h2⟩
   ·cases e1
   ·exact s.apd j k t ks vs t' ks' vs' b c h1 h2 h3 h4 h5
theorem SR.freezeT(s:SR K H0 G0 σ H G ρ){i:Nat}{l:List D}(hi:ρ[i]?=some (some (B.ow l))):∃G',SR K H0 G0 σ H G' (ρ.set i (some (.sh (.lst l))))/\∀b ys,G' b=some (.tup ys)->G b=some (.tup ys):=by
 obtain⟨a,xs,q1,q2,q3,q4,q5⟩:=s.ow i l hi
 have hl:i < ρ.length:=(qm hi).1
 have sm:Same G (upd G a (.lst xs)):=fun b o e=>by rw[Yv (Ys e q2)];exact e
 refine⟨upd G a (.lst xs),?_,fun b ys e=>by
  by_cases z:b=a
  ·subst z;rw[Yt]at e;cases e
  ·rw[Yv z]at e;exact e⟩
 refine⟨⟨s.gr.h,s.gr.g.trans sm,fun b o e=>?_,fun b h h'=>?_⟩,by simp[s.len],fun j e h=>?_,fun j m h=>?_,fun j k m m' b c h1 h2 h3 h4 h5=>?_,fun j t ks vs h=>?_,fun j k t ks vs t' ks' vs' b c h1 h2 h3 h4 h5=>?_⟩
 ·by_cases z:b=a
  ·subst z;rw[Yt]at e;rw[q4];exact e
  ·rw[Yv z]at e;exact s.gr.s b o e
 ·by_cases z:b=a
  ·subst z;exact q3
  ·rw[Yv z]at h';exact s.gr.n b h h'
 ·rcases Yn h with⟨rfl,e1,_⟩ | ⟨hj,h⟩
  ·cases e1
   exact⟨_,q1,by rw[Rp];exact⟨a,xs,rfl,.inl Yt,q5.mono sm⟩⟩
  ·obtain⟨v,p1,p2⟩:=s.sh j e h
   exact⟨v,p1,p2.mono sm⟩
 ·rcases Yn h with⟨rfl,e1,_⟩ | ⟨hj,h⟩
  ·cases e1
  ·obtain⟨b,zs,p1,p2,p3,p4,p5⟩:=s.ow j m h
   exact⟨b,zs,p1,by rw[Yv (s.ap j i m l b a h hi hj p1 q1)];exact p2,p3,p4,p5.mono sm⟩
 ·rcases Yn h1 with⟨rfl,e1,_⟩ | ⟨hj,h1⟩
  ·cases e1
  ·rcases Yn h2 with⟨rfl,e1,_⟩ | ⟨hk,h2⟩
   ·cases e1
   ·exact s.ap j k m m' b c h1 h2 h3 h4 h5
 ·rcases Yn h with⟨rfl,e1,_⟩ | ⟨hj,h⟩
  ·cases e1
  ·obtain⟨b,kxs,vxs,p1,p2,p3,p4,p5,p6⟩:=s.od j t ks vs h
   obtain⟨o',q',nl⟩:=p4.some
   exact⟨b,kxs,vxs,p1,by rw[Yv (fun z=>by rw[z,q4]at q';cases q';exact nl _ rfl)];exact p2,p3,p4.mono sm fun _ z=>z,p5.mono sm,p6.mono sm⟩
 ·rcases Yn h1 with⟨rfl,e1,_⟩ | ⟨hj,h1⟩
  ·cases e1
  ·rcases Yn h2 with⟨rfl,e1,_⟩ | ⟨hk,h2⟩
   ·cases e1
   ·exact s.apd j k t ks vs t' ks' vs' b c h1 h2 h3 h4 h5
theorem SR.freeze(s:SR K H0 G0 σ H G ρ){i:Nat}{l:List D}(hi:ρ[i]?=some (some (B.ow l))):∃G',SR K H0 G0 σ H G' (ρ.set i (some (.sh (.lst l)))):=by
 obtain⟨G',h,_⟩:=s.freezeT hi
 exact⟨G',h⟩
theorem SR.freezedT(s:SR K H0 G0 σ H G ρ){i:Nat}{t:Bool}{ks vs:List D}(hi:ρ[i]?=some (some (B.od t ks vs))):∃G',SR K H0 G0 σ H G' (ρ.set i (some (.sh (.dct t ks vs))))/\∀b ys,G' b=some (.tup ys)->G b=some (.tup ys):=by
 obtain⟨a,kxs,vxs,q1,q2,q3,q4,q5,q6⟩:=s.od i t ks vs hi
 obtain⟨o,q7,nl⟩:=q4.some
 have hl:i < ρ.length:=(qm hi).1
 have sm:Same G (upd G a o):=fun b o e=>by rw[Yv (Ys e q2)];exact e
 obtain⟨oT,q8,nt⟩:=q4.someT
 rw[q7]at q8
 cases q8
 refine⟨upd G a o,?_,fun b ys e=>by
  by_cases z:b=a
  ·subst z;rw[Yt]at e;cases e;exact absurd rfl (nt _)
  ·rw[Yv z]at e;exact e⟩
 refine⟨⟨s.gr.h,s.gr.g.trans sm,fun b o' e=>?_,fun b h h'=>?_⟩,by simp[s.len],fun j e h=>?_,fun j m h=>?_,fun j k m m' b c h1 h2 h3 h4 h5=>?_,fun j t ks vs h=>?_,fun j k t ks vs t' ks' vs' b c h1 h2 h3 h4 h5=>?_⟩
 ·by_cases z:b=a
  ·subst z;rw[Yt]at e;rw[q7];exact e
  ·rw[Yv z]at e;exact s.gr.s b o' e
 ·by_cases z:b=a
  ·subst z;exact q3
  ·rw[Yv z]at h';exact s.gr.n b h h'
 ·rcases Yn h with⟨rfl,e1,_⟩ | ⟨hj,h⟩
  ·cases e1
   refine⟨_,q1,?_⟩
   rw[Rp]
   refine⟨a,kxs,vxs,rfl,q4.mono sm fun o' z=>?_,q5.mono sm,q6.mono sm⟩
   rw[q7]at z
   rw[Yt];exact z
  ·obtain⟨v,p1,p2⟩:=s.sh j e h
   exact⟨v,p1,p2.mono sm⟩
 ·rcases Yn h with⟨rfl,e1,_⟩ | ⟨hj,h⟩
  ·cases e1
  ·obtain⟨b,zs,p1,p2,p3,p4,p5⟩:=s.ow j m h
   exact⟨b,zs,p1,by rw[Yv (fun z=>by rw[z,q7]at p4;cases p4;exact nl _ rfl)];exact p2,p3,p4,p5.mono sm⟩
 ·rcases Yn h1 with⟨rfl,e1,_⟩ | ⟨hj,h1⟩
  ·cases e1
  ·rcases Yn h2 with⟨rfl,e1,_⟩ | ⟨hk,h2⟩
   ·cases e1
   ·exact s.ap j k m m' b c h1 h2 h3 h4 h5
 ·rcases Yn h with⟨rfl,e1,_⟩ | ⟨hj,h⟩
  ·cases e1
  ·obtain⟨b,kx,vx,p1,p2,p3,p4,p5,p6⟩:=s.od j t ks vs h
   exact⟨b,kx,vx,p1,by rw[Yv (s.apd j i _ _ _ _ _ _ b a h hi hj p1 q1)];exact p2,p3,p4.mono sm fun _ z=>z,p5.mono sm,p6.mono sm⟩
 ·rcases Yn h1 with⟨rfl,e1,_⟩ | ⟨hj,h1⟩
  ·cases e1
  ·rcases Yn h2 with⟨rfl,e1,_⟩ | ⟨hk,h2⟩
   ·cases e1
   ·exact s.apd j k t ks vs t' ks' vs' b c h1 h2 h3 h4 h5
theorem SR.freezed(s:SR K H0 G0 σ H G ρ){i:Nat}{t:Bool}{ks vs:List D}(hi:ρ[i]?=some (some (B.od t ks vs))):∃G',SR K H0 G0 σ H G' (ρ.set i (some (.sh (.dct t ks vs)))):=by
 obtain⟨G',h,_⟩:=s.freezedT hi
 exact⟨G',h⟩
def Le(ρ ρ':Ro):Prop:=ρ.length=ρ'.length/\∀(i:Nat) b,ρ[i]?=some (some b)->ρ'[i]?=some (some b)
theorem SR.le{ρ':Ro}(s:SR K H0 G0 σ H G ρ')(h:Le ρ ρ'):SR K H0 G0 σ H G ρ:=
 ⟨s.gr,s.len.trans h.1.symm,fun i d e=>s.sh i d (h.2 i _ e),fun i l e=>s.ow i l (h.2 i _ e),fun i j l l' a b e1 e2=>s.ap i j l l' a b (h.2 i _ e1) (h.2 j _ e2),
  fun i t ks vs e=>s.od i t ks vs (h.2 i _ e),fun i j t ks vs t' ks' vs' a b e1 e2=>s.apd i j t ks vs t' ks' vs' a b (h.2 i _ e1) (h.2 j _ e2)⟩
theorem SR.rebase(s:SR K H0 G0 σ H G ρ):∃H1,SR K H1 G σ H G ρ/\∀σ' H' G' ρ',SR K H1 G σ' H' G' ρ'->SR K H0 G0 σ' H' G' ρ':=by
 classical
 let own:Addr->Prop:=fun a=>∃(i:Nat),((∃l:List D,ρ[i]?=some (some (B.ow l)))\/(∃t ks vs,ρ[i]?=some (some (B.od t ks vs))))/\σ[i]?=some (some (V.ref a))
 have h0:∀a,own a->H0 a=none:=fun a hx_=>by
  obtain⟨i,e1,e2⟩:=hx_
  rcases e1 with⟨l,e1⟩ | ⟨t,ks,vs,e1⟩
  ·obtain⟨b,xs,q1,_,q3,_⟩:=s.ow i l e1
   rw[e2]at q1;cases q1;exact q3
  ·obtain⟨b,kxs,vxs,q1,_,q3,_⟩:=s.od i t ks vs e1
   rw[e2]at q1;cases q1;exact q3
 have back:∀a,(if own a then (none:Option HO)else H a)=none->H0 a=none:=fun a h=>by
  by_cases o:own a
  ·exact h0 a o
  ·rw[if_neg o]at h;exact s.gr.h.free h
 refine⟨fun a=>if own a then none else H a,⟨⟨fun b o e=>?_,Same.refl _,s.gr.s,fun _ h h'=>absurd h h'⟩,s.len,s.sh,fun i l e=>?_,s.ap,fun i t ks vs e=>?_,s.apd⟩,fun σ' H' G' ρ' t=>⟨⟨fun b o e=>?_,s.gr.g.trans t.gr.g,t.gr.s,fun b h h'=>?_⟩,t.len,t.sh,fun i l e=>?_,t.ap,fun i t1 ks vs e=>?_,t.apd⟩⟩
 ·by_cases z:own b
  ·simp only[if_pos z]at e;cases e
  ·simp only[if_neg z]at e;exact e
 ·obtain⟨a,xs,q1,q2,q3,q4,q5⟩:=s.ow i l e
  exact⟨a,xs,q1,q2,if_pos ⟨i,.inl ⟨l,e⟩,q1⟩,q4,q5⟩
 ·obtain⟨a,kxs,vxs,q1,q2,q3,q4⟩:=s.od i t ks vs e
  exact⟨a,kxs,vxs,q1,q2,if_pos ⟨i,.inr ⟨t,ks,vs,e⟩,q1⟩,q4⟩
 ·refine t.gr.h b o ?_
  have z:¬own b:=fun z=>by rw[h0 b z]at e;cases e
  show(if own b then none else H b)=some o
  rw[if_neg z];exact s.gr.h b o e
 ·by_cases z:G b=none
  ·exact back b (t.gr.n b z h')
  ·exact s.gr.n b h z
 ·obtain⟨a,xs,q1,q2,q3,q4,q5⟩:=t.ow i l e
  exact⟨a,xs,q1,q2,back a q3,q4,q5⟩
 ·obtain⟨a,kxs,vxs,q1,q2,q3,q4⟩:=t.od i t1 ks vs e
  exact⟨a,kxs,vxs,q1,q2,back a q3,q4⟩
end
def tOf(K:W.Frag)(f:Ro->Option D):TE:=fun σ H Q=>∃ρ d H0 G0 G,f ρ=some d/\SR K H0 G0 σ H G ρ/\∀v H' G',Gr H G H' G'->Rp K G' d v->Q v H'
def tCof(K:W.Frag)(f:Ro->Option D):TE:=fun σ H Q=>∃ρ d H0 G0 G,f ρ=some d/\SR K H0 G0 σ H G ρ/\∀v H' G',Gr H G H' G'->Ct K G' H' d v->Q v H'
def tCAof(K:W.Frag)(f:Ro->Option (List D)):TA:=fun σ H Q=>∃ρ l H0 G0 G,f ρ=some l/\SR K H0 G0 σ H G ρ/\∀vs H' G',Gr H G H' G'->CtL K G' H' l vs->Q vs H'
def tFof(K:W.Frag)(f:Ro->Option (List D)):TE:=fun σ H Q=>∃ρ l H0 G0 G,f ρ=some l/\SR K H0 G0 σ H G ρ/\∀p xs H' G',Gr H G H' G'->H p=none->G' p=none->H' p=some (.lst xs)->RpL K G' l xs->Q (.ref p) H'
def tTof(K:W.Frag)(f:Ro->Option Bool):TT:=fun σ H Q=>∃ρ b H0 G0 G,f ρ=some b/\SR K H0 G0 σ H G ρ/\∀H' G',Gr H G H' G'->Q b H'
def tAof(K:W.Frag)(f:Ro->Option (List D)):TA:=fun σ H Q=>∃ρ l H0 G0 G,f ρ=some l/\SR K H0 G0 σ H G ρ/\∀vs H' G',Gr H G H' G'->RpL K G' l vs->Q vs H'
def Wk(K:W.Frag)(J:It)(G':Hp)(ds:List D):Prop:=ds.length<=sizeLine/\∀(i:Nat) H2 G2,Same G' G2->Same G2 H2->
 (∀d,ds[i]?=some d->J.go i H2/\∀y H3,J.yld i H2 y H3->∃G3,Gr H2 G2 H3 G3/\Rp K G3 d y)/\(ds.length<=i->J.stop i H2)
def tIof(K:W.Frag)(f:Ro->Option (List D)):TI:=fun σ H R=>∃ρ ds H0 G0 G,f ρ=some ds/\SR K H0 G0 σ H G ρ/\∀J H' G',Gr H G H' G'->Wk K J G' ds->R J H'
inductive Out where
 | nx (ρ:Ro) | rt (d:D) | bk (ρ:Ro) | ct (ρ:Ro)
def Cont(K:W.Frag)(H0 G0:Hp)(F:Ends):Out->Prop
 | .nx ρ'=>∀σ' H' G',SR K H0 G0 σ' H' G' ρ'->F.nx σ' H'
 | .rt d=>∀v H' G',Gr H0 G0 H' G'->Rp K G' d v->F.rt v H'
 | .bk ρ'=>∀σ' H' G',SR K H0 G0 σ' H' G' ρ'->F.bk σ' H'
 | .ct ρ'=>∀σ' H' G',SR K H0 G0 σ' H' G' ρ'->F.ct σ' H'
def sOf(K:W.Frag)(f:Ro->Option Out):TS:=fun F σ H=>∃ρ out H0 G0 G,f ρ=some out/\SR K H0 G0 σ H G ρ/\Cont K H0 G0 F out
def gOf(K:W.Frag)(gt:D->Ro->Option Ro):TG:=fun v σ H Q=>∃d ρ ρ' H0 G0 G,gt d ρ=some ρ'/\SR K H0 G0 σ H G ρ/\Rp K G d v/\∀σ',SR K H0 G0 σ' H G ρ'->Q σ' H
abbrev ME(X:Cx)(e:Expr)(f:Ro->Option D):Prop:=PE X e (tOf X.K f)
abbrev MC(X:Cx)(e:Expr)(f:Ro->Option D):Prop:=PE X e (tCof X.K f)
abbrev MCA(X:Cx)(es:List Expr)(f:Ro->Option (List D)):Prop:=PA X es (tCAof X.K f)
abbrev MF(X:Cx)(e:Expr)(f:Ro->Option (List D)):Prop:=PE X e (tFof X.K f)
abbrev MT(X:Cx)(e:Expr)(f:Ro->Option Bool):Prop:=PT X e (tTof X.K f)
abbrev MA(X:Cx)(es:List Expr)(f:Ro->Option (List D)):Prop:=PA X es (tAof X.K f)
abbrev MI(X:Cx)(tg iter:Expr)(f:Ro->Option (List D)):Prop:=PI X tg iter (tIof X.K f)
abbrev MS(X:Cx)(st:Stmt)(f:Ro->Option Out):Prop:=PS X st (sOf X.K f)
abbrev MB(X:Cx)(sts:List Stmt)(f:Ro->Option Out):Prop:=PSs X sts (sOf X.K f)
abbrev MG(X:Cx)(tg:Expr)(gt:D->Ro->Option Ro):Prop:=PG X tg (gOf X.K gt)
section
variable {X:Cx}
theorem PE.imp{e:Expr}{t t':TE}(h:PE X e t)(i:∀σ H Q,t' σ H Q->t σ H Q):PE X e t':=fun pins s σ H Q I hw=>h pins s σ H Q I (i σ H Q hw)
theorem PT.imp{e:Expr}{t t':TT}(h:PT X e t)(i:∀σ H Q,t' σ H Q->t σ H Q):PT X e t':=fun pins s σ H Q I hw=>h pins s σ H Q I (i σ H Q hw)
theorem PA.imp{es:List Expr}{t t':TA}(h:PA X es t)(i:∀σ H Q,t' σ H Q->t σ H Q):PA X es t':=fun pos pins s σ H Q I hw=>h pos pins s σ H Q I (i σ H Q hw)
theorem PS.imp{st:Stmt}{t t':TS}(h:PS X st t)(i:∀F σ H,t' F σ H->t F σ H):PS X st t':=fun pins s σ H F I hw=>h pins s σ H F I (i F σ H hw)
theorem PSs.imp{st:List Stmt}{t t':TS}(h:PSs X st t)(i:∀F σ H,t' F σ H->t F σ H):PSs X st t':=fun pins s σ H F I hw=>h pins s σ H F I (i F σ H hw)
theorem PI.imp{tg e:Expr}{t t':TI}(h:PI X tg e t)(i:∀σ H R,t' σ H R->t σ H R):PI X tg e t':=fun pins s σ H R I hw=>h pins s σ H R I (i σ H R hw)
theorem PG.imp{e:Expr}{t t':TG}(h:PG X e t)(i:∀v σ H Q,t' v σ H Q->t v σ H Q):PG X e t':=fun pins s σ H v u Q I r hw=>h pins s σ H v u Q I r (i v σ H Q hw)
variable {H0 G0 H G:Hp} {σ:L2.St} {ρ:Ro}
theorem tOf.at{f:Ro->Option D}{d:D}{Q:VK}(e:f ρ=some d)(s:SR K H0 G0 σ H G ρ)(h:∀v H' G',Gr H G H' G'->Rp K G' d v->SR K H0 G0 σ H' G' ρ->Q v H'):tOf K f σ H Q:=
 ⟨ρ,d,H0,G0,G,e,s,fun v H' G' g r=>h v H' G' g r (s.grow g)⟩
theorem tCof.at{f:Ro->Option D}{d:D}{Q:VK}(e:f ρ=some d)(s:SR K H0 G0 σ H G ρ)(h:∀v H' G',Gr H G H' G'->Ct K G' H' d v->SR K H0 G0 σ H' G' ρ->Q v H'):tCof K f σ H Q:=
 ⟨ρ,d,H0,G0,G,e,s,fun v H' G' g r=>h v H' G' g r (s.grow g)⟩
theorem tCAof.at{f:Ro->Option (List D)}{l:List D}{Q:List V->Hp->Prop}(e:f ρ=some l)(s:SR K H0 G0 σ H G ρ)(h:∀vs H' G',Gr H G H' G'->CtL K G' H' l vs->SR K H0 G0 σ H' G' ρ->Q vs H'):tCAof K f σ H Q:=
 ⟨ρ,l,H0,G0,G,e,s,fun v H' G' g r=>h v H' G' g r (s.grow g)⟩
theorem ME.mc{e:Expr}{f:Ro->Option D}(h:ME X e f):MC X e f:=PE.imp h fun σ H Q ⟨ρ,d,H0,G0,G,e,s,h⟩=>⟨ρ,d,H0,G0,G,e,s,fun v H' G' g r=>h v H' G' g (.of g.s r)⟩
theorem tTof.at{f:Ro->Option Bool}{b:Bool}{Q:Bool->Hp->Prop}(e:f ρ=some b)(s:SR K H0 G0 σ H G ρ)(h:∀H' G',Gr H G H' G'->SR K H0 G0 σ H' G' ρ->Q b H'):tTof K f σ H Q:=
 ⟨ρ,b,H0,G0,G,e,s,fun H' G' g=>h H' G' g (s.grow g)⟩
theorem tAof.at{f:Ro->Option (List D)}{l:List D}{Q:List V->Hp->Prop}(e:f ρ=some l)(s:SR K H0 G0 σ H G ρ)(h:∀vs H' G',Gr H G H' G'->RpL K G' l vs->SR K H0 G0 σ H' G' ρ->Q vs H'):tAof K f σ H Q:=
 ⟨ρ,l,H0,G0,G,e,s,fun v H' G' g r=>h v H' G' g r (s.grow g)⟩
end
end
section
variable {K:W.Frag}
def b2{α:Type}(fa fb:Ro->Option D)(g:D->D->Option α):Ro->Option α:=fun ρ=>(fa ρ).bind fun x=>(fb ρ).bind fun y=>g x y
def b1{α:Type}(fa:Ro->Option D)(g:D->Option α):Ro->Option α:=fun ρ=>(fa ρ).bind g
theorem Yhl{α:Type}{fa fb:Ro->Option D}{g:D->D->Option α}{ρ:Ro}{r:α}(h:b2 fa fb g ρ=some r):∃x y,fa ρ=some x/\fb ρ=some y/\g x y=some r:=by
 unfold b2 at h
 obtain⟨x,h1,h⟩:=qa h
 obtain⟨y,h2,h⟩:=qa h
 exact⟨x,y,h1,h2,h⟩
theorem Ybm{α:Type}{fa:Ro->Option D}{g:D->Option α}{ρ:Ro}{r:α}(h:b1 fa g ρ=some r):∃x,fa ρ=some x/\g x=some r:=by
 unfold b1 at h
 obtain⟨x,h1,h⟩:=qa h
 exact⟨x,h1,h⟩
def Sem2(K:W.Frag)(r:R2)(g:D->D->Option D):Prop:=∀(x y:V) (dx dy d:D) (H G:Hp) (Q:VK),g dx dy=some d->Same G H->Ct K G H dx x->Ct K G H dy y->(∀v H' G',Gr H G H' G'->Rp K G' d v->Q v H')->r x y H Q
def Ye3(K:W.Frag)(r:R2)(g:D->D->Option Bool):Prop:=∀(x y:V) (dx dy:D) (b:Bool) (H G:Hp) (Q:VK),g dx dy=some b->Same G H->Ct K G H dx x->Ct K G H dy y->Q (.bl b) H->r x y H Q
def SemC(K:W.Frag)(r:List V->Hp->VK->Prop)(g:List D->Option D):Prop:=∀(vs:List V) (ds:List D) (d:D) (H G:Hp) (Q:VK),g ds=some d->Same G H->CtL K G H ds vs->(∀v H' G',Gr H G H' G'->Rp K G' d v->Q v H')->r vs H Q
def SemF(K:W.Frag)(r:List V->Hp->VK->Prop)(g:List D->Option (List D)):Prop:=∀(vs:List V) (ds l:List D) (H G:Hp) (Q:VK),g ds=some l->Same G H->CtL K G H ds vs->
 (∀p xs H' G',Gr H G H' G'->H p=none->G' p=none->H' p=some (.lst xs)->RpL K G' l xs->Q (.ref p) H')->r vs H Q
section
variable {X:Cx} {a b c e:Expr} {es:List Expr} {fa fb fc f:Ro->Option D} {ga:Ro->Option (List D)} {pos:Pos}
def getV(i:Nat):Ro->Option D:=fun ρ=>match ρ[i]? with
 | some (some (B.sh d))=>some d
 | _=>none
def getO(i:Nat):Ro->Option (List D):=fun ρ=>match ρ[i]? with
 | some (some (B.ow l))=>some l
 | _=>none
theorem Yhm{i:Nat}{ρ:Ro}{d:D}(h:getV i ρ=some d):ρ[i]?=some (some (B.sh d)):=by
 unfold getV at h
 split at h
 ·cases h;assumption
 ·cases h
theorem Ye4{i:Nat}{ρ:Ro}{l:List D}(h:getO i ρ=some l):ρ[i]?=some (some (B.ow l)):=by
 unfold getO at h
 split at h
 ·cases h;assumption
 ·cases h
theorem y1k(i:Nat){x:Str}(hN:X.N[i]?=some x:=by rfl)(hv:Vis X.env.scope x:=by first | exact Or.inl rfl | exact Or.inr (Or.inl rfl) | exact Or.inr (Or.inr rfl))(hd:(x==("__debug__":Str))=false:=by decide)
 (hcd:(x==("__classdict__":Str))=false:=by decide):ME X (.Name x pos) (getV i):=
 PE.imp (Yhb hN hv hd hcd) fun σ H Q hx_=>by
  obtain⟨ρ,d,H0,G0,G,e,s,h⟩:=hx_
  obtain⟨v,h1,h2⟩:=s.sh i d (Yhm e)
  exact⟨v,h1,h v H G (.refl s.seen) h2⟩
def getC(i:Nat):Ro->Option D:=fun ρ=>match ρ[i]? with
 | some (some (B.sh d))=>some d
 | some (some (B.ow l))=>some (.lst l)
 | some (some (B.od t ks vs))=>some (.dct t ks vs)
 | _=>none
theorem y1l(i:Nat){x:Str}(hN:X.N[i]?=some x:=by rfl)(hv:Vis X.env.scope x:=by first | exact Or.inl rfl | exact Or.inr (Or.inl rfl) | exact Or.inr (Or.inr rfl))(hd:(x==("__debug__":Str))=false:=by decide)
 (hcd:(x==("__classdict__":Str))=false:=by decide):MC X (.Name x pos) (getC i):=
 PE.imp (Yhb hN hv hd hcd) fun σ H Q hx_=>by
  obtain⟨ρ,d,H0,G0,G,e,s,h⟩:=hx_
  unfold getC at e
  split at e
  ·rename_i d' hd'
   cases e
   obtain⟨v,h1,h2⟩:=s.sh i _ hd'
   exact⟨v,h1,h v H G (.refl s.seen) (.of s.seen h2)⟩
  ·rename_i l hl
   cases e
   obtain⟨a,xs,h1,h2,h3,h4,h5⟩:=s.ow i l hl
   exact⟨_,h1,h _ H G (.refl s.seen) (by rw[Ct];exact⟨a,xs,rfl,.inl h4,h5⟩)⟩
  ·rename_i t ks vs hl
   cases e
   obtain⟨a,kxs,vxs,h1,h2,h3,h4,h5⟩:=s.od i t ks vs hl
   exact⟨_,h1,h _ H G (.refl s.seen) (by rw[Ct];exact⟨a,kxs,vxs,rfl,h4,h5⟩)⟩
  ·cases e
def kD(d:D):Ro->Option D:=fun _=>some d
theorem Ye5{v:V}{d:D}{t:TE}(h:PE X e t)(ht:∀σ H Q,Q v H->t σ H Q)(hr:∀G,Rp X.K G d v):ME X e (kD d):=
 PE.imp h fun σ H Q hx_=>by
  obtain⟨ρ,d',H0,G0,G,e,s,h⟩:=hx_
  cases e
  exact ht σ H Q (h v H G (.refl s.seen) (hr G))
theorem y1m{i:Int}{j}:ME X (.Constant (.int i) j pos) (kD (.int i)):=Ye5 (v:=.int i) y0n (fun _ _ _ q=>q) fun _=>by rw[Rp]
theorem y31{k:Bool}{j}:ME X (.Constant (.bool k) j pos) (kD (.bl k)):=Ye5 (v:=.bl k) y3k (fun _ _ _ q=>q) fun _=>by rw[Rp]
theorem y1n{j}:ME X (.Constant .none j pos) (kD .non):=Ye5 (v:=.non) y0o (fun _ _ _ q=>q) fun _=>by rw[Rp]
theorem y1o{x:Str}{j}(hx:PyData.strOk x=true:=by decide +kernel):ME X (.Constant (.str x) j pos) (kD (.str x)):=Ye5 (v:=.str x) y0p (fun _ _ _ q=>q) fun _=>by rw[Rp];exact⟨rfl,hx⟩
theorem Ywy{r:R2}{g:D->D->Option D}(hr:Sem2 K r g){σ:L2.St}{H:Hp}{Q:VK}(h:tOf K (b2 fa fb g) σ H Q):tOp r (tCof K fa) (tCof K fb) σ H Q:=by
 obtain⟨ρ,d,H0,G0,G,e,s,h⟩:=h
 obtain⟨dx,dy,h1,h2,h3⟩:=Yhl e
 exact tCof.at h1 s fun v H1 G1 g1 r1 s1=>tCof.at h2 s1 fun u H2 G2 g2 r2 s2=>hr v u dx dy d H2 G2 Q h3 s2.seen (r1.grow g2) r2 fun w H' G' g3 r3=>h w H' G' ((g1.trans g2).trans g3) r3
theorem Yyd{r:R2}{g:D->D->Option Bool}(hr:Ye3 K r g){σ:L2.St}{H:Hp}{Q:Bool->Hp->Prop}(h:tTof K (b2 fa fb g) σ H Q):y08 (tOp r (tCof K fa) (tCof K fb)) σ H Q:=by
 obtain⟨ρ,d,H0,G0,G,e,s,h⟩:=h
 obtain⟨dx,dy,h1,h2,h3⟩:=Yhl e
 exact tCof.at h1 s fun v H1 G1 g1 r1 s1=>tCof.at h2 s1 fun u H2 G2 g2 r2 s2=>hr v u dx dy d H2 G2 _ h3 s2.seen (r1.grow g2) r2 ⟨d,rfl,h H2 G2 (g1.trans g2)⟩
def mB(f:Ro->Option Bool):Ro->Option D:=fun ρ=>(f ρ).map D.bl
theorem Yn2{f:Ro->Option Bool}{ρ:Ro}{d:D}(h:mB f ρ=some d):∃b,f ρ=some b/\d=.bl b:=by
 unfold mB at h
 obtain⟨b,h1,h2⟩:=qb h
 exact⟨b,h1,h2.symm⟩
theorem Yvc{r:R2}{g:D->D->Option Bool}(hr:Ye3 K r g){σ:L2.St}{H:Hp}{Q:VK}(h:tOf K (mB (b2 fa fb g)) σ H Q):tOp r (tCof K fa) (tCof K fb) σ H Q:=by
 obtain⟨ρ,d,H0,G0,G,e,s,h⟩:=h
 obtain⟨b,eb,rfl⟩:=Yn2 e
 obtain⟨dx,dy,h1,h2,h3⟩:=Yhl eb
 exact tCof.at h1 s fun v H1 G1 g1 r1 s1=>tCof.at h2 s1 fun u H2 G2 g2 r2 s2=>hr v u dx dy b H2 G2 _ h3 s2.seen (r1.grow g2) r2 (h _ H2 G2 (g1.trans g2) (by rw[Rp]))
theorem Yj1{op:Operator}{r:R2}{g:D->D->Option D}(ho:OpR X (binaryOp op) r)(hr:Sem2 X.K r g)(ha:MC X a fa)(hb:MC X b fb):ME X (.BinOp a op b pos) (b2 fa fb g):=PE.imp (Yxr ho ha hb) fun _ _ _ h=>Ywy hr h
theorem Ypl{op:CmpOp}{r:R2}{g:D->D->Option Bool}(ho:OpR X (compareOp op) r)(hr:Ye3 X.K r g)(ha:MC X a fa)(hb:MC X b fb)(hm:behindInMarks op b=false):ME X (.Compare a [op] [b] pos) (mB (b2 fa fb g)):=PE.imp (Yxu ho ha hb hm) fun _ _ _ h=>Yvc hr h
theorem Ye6{op:CmpOp}{r:R2}{g:D->D->Option Bool}(ho:OpR X (compareOp op) r)(hr:Ye3 X.K r g)(ha:MC X a fa)(hb:MC X b fb)(hm:behindInMarks op b=false):MT X (.Compare a [op] [b] pos) (b2 fa fb g):=PT.imp (Yrk ho ha hb hm) fun _ _ _ h=>Yyd hr h
theorem y32{r:R2}{g:D->D->Option D}(hi:IxR X r)(hr:Sem2 X.K r g)(ha:MC X a fa)(hb:MC X b fb)(hs:Yki b):ME X (.Subscript a b pos) (b2 fa fb g):=PE.imp (y3z hi ha hb hs) fun _ _ _ h=>Ywy hr h
def i2(C:Int->Int->Bool)(g:Int->Int->Int):D->D->Option D
 | .int i,.int j=>if C i j=true then some (.int (g i j))else none
 | _,_=>none
def i2b(g:Int->Int->Bool):D->D->Option Bool
 | .int i,.int j=>some (g i j)
 | _,_=>none
theorem Ypm{C:Int->Int->Prop}{Cb:Int->Int->Bool}(hC:∀i j,Cb i j=true->C i j){g:Int->Int->Int}:Sem2 K (rI C fun i j=>.int (g i j)) (i2 Cb g):=by
 intro x y dx dy d H G Q h s rx ry q
 unfold i2 at h
 split at h
 ·split at h
  ·rename_i i j hc
   cases h
   rw[Ct]at rx ry
   subst rx;subst ry
   exact⟨i,j,rfl,rfl,hC i j hc,q _ H G (.refl s) (by rw[Rp])⟩
  ·cases h
 ·cases h
theorem Yrv{g:Int->Int->Int}:Sem2 K (rI0 fun i j=>.int (g i j)) (i2 (fun _ _=>true) g):=by
 intro x y dx dy d H G Q h s rx ry q
 unfold i2 at h
 split at h
 ·split at h
  ·rename_i i j hc
   cases h
   rw[Ct]at rx ry
   subst rx;subst ry
   exact⟨i,j,rfl,rfl,q _ H G (.refl s) (by rw[Rp])⟩
  ·cases h
 ·cases h
theorem Yep{g:Int->Int->Bool}:Ye3 K (rI0 fun i j=>.bl (g i j)) (i2b g):=by
 intro x y dx dy d H G Q h s rx ry q
 unfold i2b at h
 split at h
 ·rename_i i j
  cases h
  rw[Ct]at rx ry
  subst rx;subst ry
  exact⟨i,j,rfl,rfl,q⟩
 ·cases h
def addI:D->D->Option D:=i2 (fun _ _=>true) fun i j=>i+j
def subI:D->D->Option D:=i2 (fun _ _=>true) fun i j=>i - j
def mulI:D->D->Option D:=i2 (fun i j=>(decide (-(2 ^ 64) < i)&&decide (i < 2 ^ 64))||(decide (-(2 ^ 64) < j)&&decide (j < 2 ^ 64))) fun i j=>i * j
def divI:D->D->Option D:=i2 (fun _ j=>decide (0 < j)&&decide (j < 1073741824)) fun i j=>i / j
def modI:D->D->Option D:=i2 (fun _ j=>decide (0 < j)) fun i j=>i % j
theorem y1p(ha:MC X a fa)(hb:MC X b fb):ME X (.BinOp a .Sub b pos) (b2 fa fb subI):=Yj1 y01 Yrv ha hb
theorem y1q(ha:MC X a fa)(hb:MC X b fb):ME X (.BinOp a .Mult b pos) (b2 fa fb mulI):=Yj1 y02 (Ypm fun i j h=>by
 simp only[Bool.or_eq_true,Qf,decide_eq_true_eq]at h
 exact h) ha hb
theorem y1r(ha:MC X a fa)(hb:MC X b fb):ME X (.BinOp a .FloorDiv b pos) (b2 fa fb divI):=Yj1 Yxs (Ypm fun i j h=>by
 simp only[Qf,decide_eq_true_eq]at h
 exact h) ha hb
theorem y1s(ha:MC X a fa)(hb:MC X b fb):ME X (.BinOp a .Mod b pos) (b2 fa fb modI):=Yj1 y03 (Ypm fun i j h=>of_decide_eq_true h) ha hb
def ltI:=i2b fun i j=>decide (i < j)
def leI:=i2b fun i j=>decide (i<=j)
def gtI:=i2b fun i j=>decide (j < i)
def geI:=i2b fun i j=>decide (j<=i)
theorem y33(ha:MC X a fa)(hb:MC X b fb):ME X (.Compare a [.GtE] [b] pos) (mB (b2 fa fb geI)):=Ypl y3v Yep ha hb (Ydl _)
theorem y34(ha:MC X a fa)(hb:MC X b fb):MT X (.Compare a [.Lt] [b] pos) (b2 fa fb ltI):=Ye6 y06 Yep ha hb (Ydl _)
theorem y35(ha:MC X a fa)(hb:MC X b fb):MT X (.Compare a [.Gt] [b] pos) (b2 fa fb gtI):=Ye6 y3u Yep ha hb (Ydl _)
mutual
def dep:D->Nat
 | .tup l=>depL l+1
 | .lst l=>depL l+1
 | .scr _=>1
 | .dct _ _ _=>1000
 | .obj _ _ _=>1000
 | .adr _=>1000
 | _=>0
def depL:List D->Nat
 | []=>0
 | d::l=>max (dep d) (depL l)
end
mutual
theorem Ycb:∀d:D,(toPy d).depth<=dep d
 | .non=>by simp[toPy,PyData.depth,dep]
 | .bl b=>by simp[toPy,PyData.depth,dep]
 | .int b=>by simp[toPy,PyData.depth,dep]
 | .str b=>by simp[toPy,PyData.depth,dep]
 | .tup l=>by have:=Yc5 l;simp[toPy,PyData.depth,dep];lia
 | .lst l=>by have:=Yc5 l;simp[toPy,PyData.depth,dep];lia
 | .scr ns=>by rw[toPy,PyData.depth,dep,W.ke_depthAll];exact qt _
 | .dct _ _ _=>by simp[toPy,PyData.depth,dep]
 | .obj _ _ _=>by simp[toPy,PyData.depth,dep]
 | .adr _=>by simp[toPy,PyData.depth,dep]
theorem Yc5:∀l:List D,PyData.depthAll (Yca l)<=depL l
 | []=>by simp[Yca,PyData.depthAll,depL]
 | d::l=>by have h1:=Ycb d;have h2:=Yc5 l;simp[Yca,PyData.depthAll,depL];lia
end
section
variable {pins:List (Addr × Obj)} {σ:L2.St} {H:Hp} {s:Shared}
mutual
theorem Yc6(I:Inv X pins σ H s):∀{d:D} {v:V} {u:Value},dep d<=100->Rp X.K H d v->RelV v u->∃as,Reads s.heap u (toPy d) as/\(toPy d).canLay0=true
 | .non,v,u,_,r,q=>by
   rw[Rp]at r;subst r
   cases q
   exact⟨_,by rw[toPy];exact .none,by simp[toPy,PyData.canLay0]⟩
 | .bl b,v,u,_,r,q=>by
   rw[Rp]at r;subst r
   cases q
   exact⟨_,by rw[toPy];exact .bool b,by simp[toPy,PyData.canLay0]⟩
 | .int i,v,u,_,r,q=>by
   rw[Rp]at r;subst r
   obtain⟨t,rfl⟩:=q
   exact⟨_,by rw[toPy];exact .int i t,by simp[toPy,PyData.canLay0]⟩
 | .str x,v,u,_,r,q=>by
   rw[Rp]at r;obtain⟨rfl,hx⟩:=r
   obtain⟨t,rfl⟩:=q
   exact⟨_,by rw[toPy];exact .str x t,by simp[toPy,PyData.canLay0,hx]⟩
 | .tup l,v,u,hd,r,q=>by
   rw[Rp]at r
   obtain⟨a,xs,rfl,g,rl⟩:=r
   cases q
   obtain⟨_,its,rv,ht⟩:=(show ObjOk X.prog X.w H s.heap a (.tup xs) from I.hok a _ g)
   obtain⟨o,h1,h2,n,h3⟩:=ht
   obtain⟨as,q,hc⟩:=Yhn I (by simp only[dep]at hd;lia) rl rv
   exact⟨_,by rw[toPy];exact .tuple h1 h2 h3 (by simpa using q),by simpa [toPy,PyData.canLay0]using hc⟩
 | .lst l,v,u,hd,r,q=>by
   rw[Rp]at r
   obtain⟨a,xs,rfl,g,rl⟩:=r
   cases q
   obtain⟨its,rv,pl,_⟩:=I.list (.inl g)
   obtain⟨o,h1,h2,n,h3⟩:=pl.isList
   obtain⟨as,q,hc⟩:=Yhn I (by simp only[dep]at hd;lia) rl rv
   exact⟨_,by rw[toPy];exact .list h1 h2 h3 (by simpa using q),by simpa [toPy,PyData.canLay0]using hc⟩
 | .dct _ _ _,v,u,hd,r,q=>by simp[dep]at hd
 | .obj _ _ _,v,u,hd,r,q=>by simp[dep]at hd
 | .adr _,v,u,hd,r,q=>by simp[dep]at hd
 | .scr ns,v,u,_,r,q=>by
   rw[Rp]at r
   obtain⟨a,rfl,g⟩:=r
   cases q
   obtain⟨its,rv,pl,_⟩:=I.list g
   exact⟨_,by rw[toPy];exact W.reads_of_ints pl.isList (Yfm rv),by rw[toPy];simp[PyData.canLay0,W.ke_canLayAll0]⟩
theorem Yhn(I:Inv X pins σ H s):∀{l:List D} {xs:List V} {us:List Value},depL l<=100->RpL X.K H l xs->Vals xs us->∃as,ReadsAll s.heap us (Yca l) as/\PyData.canLayAll0 (Yca l)=true
 | [],xs,us,_,r,q=>by
   rw[RpL]at r;subst r
   cases q
   exact⟨_,by rw[Yca];exact .nil,by simp[Yca,PyData.canLayAll0]⟩
 | d::l,xs,us,hd,r,q=>by
   rw[RpL]at r
   obtain⟨x,xs,rfl,r1,r2⟩:=r
   rw[depL]at hd
   cases q with
   | cons q1 q2=>
     obtain⟨as,h1,h2⟩:=Yc6 I (by lia) r1 q1
     obtain⟨bs,h3,h4⟩:=Yhn I (by lia) r2 q2
     exact⟨_,by rw[Yca];exact .cons h1 h3,by simp[Yca,PyData.canLayAll0,h2,h4]⟩
end
end
theorem Yho(l:List D)(d:D):((Yca l).any fun y=>PyData.eqv y (toPy d))=l.any fun y=>eqD y d:=by
 induction l with
 | nil=>simp[Yca]
 | cons e l ih=>
   rw[Yca,List.any_cons,List.any_cons,ih]
   rfl
def eqM(neg:Bool):D->D->Option Bool:=fun d e=>if dep d<=60/\dep e<=60 then some (if neg then !eqD d e else eqD d e)else none
def rEqD(K:W.Frag)(neg:Bool):R2:=fun x y H Q=>∃d e,Rp K H d x/\Rp K H e y/\(dep d<=60/\dep e<=60)/\Q (.bl (if neg then !eqD d e else eqD d e)) H
theorem Ywz(hu:X.A.units+64 < cLine):OpR X (compareOp .Eq) (rEqD X.K false):=by
 intro pins s σ H x y v u Q I rx ry h
 obtain⟨d,e,r1,r2,hd,q⟩:=h
 obtain⟨as,h1,h2⟩:=Yc6 I (by lia) r1 rx
 obtain⟨bs,h3,h4⟩:=Yc6 I (by lia) r2 ry
 exact SeqAt.eqOverData X.prog X.w X.A X.xe s v u _ _ as bs _ h1 h3 h2 h4 (by have:=Ycb d;have:=Ycb e;lia) ⟨.bl _,H,I,rfl,by exact q⟩
theorem Yw0(hu:X.A.units+64 < cLine):OpR X (compareOp .NotEq) (rEqD X.K true):=by
 intro pins s σ H x y v u Q I rx ry h
 obtain⟨d,e,r1,r2,hd,q⟩:=h
 obtain⟨as,h1,h2⟩:=Yc6 I (by lia) r1 rx
 obtain⟨bs,h3,h4⟩:=Yc6 I (by lia) r2 ry
 exact SeqAt.neOverData X.prog X.w X.A X.xe s v u _ _ as bs _ h1 h3 h2 h4 (by have:=Ycb d;have:=Ycb e;lia) ⟨.bl _,H,I,rfl,by exact q⟩
theorem Ykp{neg:Bool}:Ye3 K (rEqD K neg) (eqM neg):=by
 intro x y dx dy b H G Q h s rx ry q
 unfold eqM at h
 split at h
 ·cases h
  exact⟨dx,dy,rx.rp s,ry.rp s,by assumption,q⟩
 ·cases h
theorem y36(hu:X.A.units+64 < cLine)(ha:MC X a fa)(hb:MC X b fb):ME X (.Compare a [.Eq] [b] pos) (mB (b2 fa fb (eqM false))):=Ypl (Ywz hu) Ykp ha hb (Ydl _)
theorem y37(hu:X.A.units+64 < cLine)(ha:MC X a fa)(hb:MC X b fb):ME X (.Compare a [.NotEq] [b] pos) (mB (b2 fa fb (eqM true))):=Ypl (Yw0 hu) Ykp ha hb (Ydl _)
theorem y38(hu:X.A.units+64 < cLine)(ha:MC X a fa)(hb:MC X b fb):MT X (.Compare a [.Eq] [b] pos) (b2 fa fb (eqM false)):=Ye6 (Ywz hu) Ykp ha hb (Ydl _)
theorem y39(hu:X.A.units+64 < cLine)(ha:MC X a fa)(hb:MC X b fb):MT X (.Compare a [.NotEq] [b] pos) (b2 fa fb (eqM true)):=Ye6 (Yw0 hu) Ykp ha hb (Ydl _)
def Ym:D->Option (List D)
 | .tup l=>some l
 | .lst l=>some l
 | .scr ns=>some (ns.map D.int)
 | _=>none
def inD(d:D)(l:List D):Bool:=l.any fun y=>eqD y d
def inM(neg:Bool):D->D->Option Bool:=fun d c=>(Ym c).bind fun l=>if depL l<=60/\dep d<=60 then some (if neg then !inD d l else inD d l)else none
def rInD(K:W.Frag)(neg:Bool):R2:=fun x y H Q=>∃d c l,Rp K H d x/\Rp K H c y/\Ym c=some l/\(depL l<=60/\dep d<=60)/\Q (.bl (if neg then !inD d l else inD d l)) H
theorem Yaw{c:D}{l:List D}(h:Ym c=some l):c=.tup l\/c=.lst l\/∃ns,c=.scr ns/\l=ns.map D.int:=by
 cases c with
 | tup m=>cases h;exact .inl rfl
 | lst m=>cases h;exact .inr (.inl rfl)
 | scr ns=>cases h;exact .inr (.inr ⟨ns,rfl,rfl⟩)
 | non=>cases h
 | bl _=>cases h
 | int _=>cases h
 | str _=>cases h
 | dct _ _ _=>cases h
 | obj _ _ _=>cases h
 | adr _=>cases h
theorem Yj2:∀ns:List Int,Yca (ns.map D.int)=ns.map PyData.int
 | []=>by simp[Yca]
 | n::ns=>by simp[Yca,toPy,Yj2 ns]
theorem Yrw(hu:X.A.units+64 < cLine):OpR X (compareOp .NotIn) (rInD X.K true):=by
 intro pins s σ H x y v u Q I rx ry h
 obtain⟨d,c,l,r1,r2,hc,hd,q⟩:=h
 obtain⟨as,h1,h2⟩:=Yc6 I (by lia) r1 rx
 have hdc:dep c<=61:=by
  rcases Yaw hc with rfl | rfl | ⟨ns,rfl,rfl⟩
  ·rw[dep];lia
  ·rw[dep];lia
  ·rw[dep];lia
 obtain⟨bs,h3,h4⟩:=Yc6 I (by lia) r2 ry
 have hdd:=Ycb d
 have hdl:=Yc5 l
 rcases Yaw hc with rfl | rfl | ⟨ns,rfl,rfl⟩
 ·rw[toPy]at h3 h4
  exact SeqAt.notIn_tuple_reads h3 h1 (by simpa [PyData.canLay0]using h4) h2 (by lia) ⟨.bl _,H,I,rfl,by rw[Yho];exact q⟩
 ·rw[toPy]at h3 h4
  exact SeqAt.notIn_list_reads h3 h1 (by simpa [PyData.canLay0]using h4) h2 (by lia) ⟨.bl _,H,I,rfl,by rw[Yho];exact q⟩
 ·rw[toPy,<-Yj2]at h3 h4
  exact SeqAt.notIn_list_reads h3 h1 (by simpa [PyData.canLay0]using h4) h2 (by lia) ⟨.bl _,H,I,rfl,by rw[Yho];exact q⟩
theorem Yye{neg:Bool}:Ye3 K (rInD K neg) (inM neg):=by
 intro x y dx dy b H G Q h s rx ry q
 unfold inM at h
 obtain⟨l,h1,h⟩:=qa h
 split at h
 ·cases h
  exact⟨dx,dy,l,rx.rp s,ry.rp s,h1,by assumption,q⟩
 ·cases h
theorem y1t(hu:X.A.units+64 < cLine)(ha:MC X a fa)(hb:MC X b fb)(hm:behindInMarks .NotIn b=false:=by with_unfolding_all rfl):MT X (.Compare a [.NotIn] [b] pos) (b2 fa fb (inM true)):=Ye6 (Yrw hu) Yye ha hb hm
end
end
section
variable {K:W.Frag}
section
variable {X:Cx} {a b c e:Expr} {es:List Expr} {fa fb f:Ro->Option D} {fc fd:Ro->Option Bool} {ga:Ro->Option (List D)} {pos:Pos} {rest:List Expr}
def truD:D->Option Bool
 | .non=>some false
 | .bl b=>some b
 | .int i=>some (i != 0)
 | .tup l=>some (!l.isEmpty)
 | .lst l=>some (!l.isEmpty)
 | .scr ns=>some (!ns.isEmpty)
 | .str _=>none
 | .dct _ _ _=>none
 | .obj _ _ _=>none
 | .adr _=>none
theorem Yyf{d:D}{v:V}{k:Bool}{H G:Hp}(h:truD d=some k)(r:Ct X.K G H d v):TruV X.K v H k:=by
 cases d with
 | non=>rw[Ct]at r;subst r;cases h;rfl
 | bl b=>rw[Ct]at r;subst r;cases h;rfl
 | int i=>rw[Ct]at r;subst r;cases h;rfl
 | str x=>cases h
 | dct _ _ _=>cases h
 | obj _ _ _=>cases h
 | adr _=>cases h
 | tup l=>
   rw[Ct]at r
   obtain⟨a,xs,rfl,g,rl⟩:=r
   cases h
   refine .inr (.inl ⟨xs,.inl (.inl g.1),?_⟩)
   have:=rl.length
   cases l<;>cases xs<;>simp_all
 | lst l=>
   rw[Ct]at r
   obtain⟨a,xs,rfl,g,rl⟩:=r
   cases h
   refine .inl ⟨xs,.inl g,?_⟩
   have:=rl.length
   cases l<;>cases xs<;>simp_all
 | scr ns=>
   rw[Ct]at r
   obtain⟨a,rfl,g⟩:=r
   cases h
   refine .inl ⟨_,g,?_⟩
   cases ns<;>simp
theorem y1u(ha:MC X a fa)(he:∀whole,isTrue a X.env whole=(do let v <-whole;standAt a.pos;holding [v] (truthy v)):=by intro _;rfl):MT X a (b1 fa truD):=
 PT.imp (Yu3 ha he) fun σ H Q hx_=>by
  obtain⟨ρ,k,H0,G0,G,e,s,h⟩:=hx_
  obtain⟨d,h1,h2⟩:=Ybm e
  exact tCof.at h1 s fun v H1 G1 g1 r1 s1=>⟨k,Yyf h2 r1,h H1 G1 g1⟩
def andT(fc fd:Ro->Option Bool):Ro->Option Bool:=fun ρ=>(fc ρ).bind fun k=>if k=true then fd ρ else some false
def orT(fc fd:Ro->Option Bool):Ro->Option Bool:=fun ρ=>(fc ρ).bind fun k=>if k=true then some true else fd ρ
def notT(fc:Ro->Option Bool):Ro->Option Bool:=fun ρ=>(fc ρ).map (!·)
abbrev MW(X:Cx)(e:Expr)(f:Ro->Option Bool):Prop:=PW X e (tTof X.K f)
theorem PW.imp{t t':TT}(h:PW X e t)(i:∀σ H Q,t' σ H Q->t σ H Q):PW X e t':=fun whole pins s σ H Q I hw=>h whole pins s σ H Q I (i σ H Q hw)
theorem Yyg(ha:MT X a fc):MW X (.BoolOp .And [a] pos) fc:=Yxn ha
theorem y1v(ha:MT X a fc):MW X (.BoolOp .Or [a] pos) fc:=y0q ha
theorem Yyh{σ:L2.St}{H:Hp}{Q:Bool->Hp->Prop}(h:tTof K (andT fc fd) σ H Q):tAnd (tTof K fc) (tTof K fd) σ H Q:=by
 obtain⟨ρ,k,H0,G0,G,e,s,h⟩:=h
 unfold andT at e
 obtain⟨k1,h1,e⟩:=qa e
 refine tTof.at h1 s fun H1 G1 g1 s1=>?_
 cases k1 with
 | true=>
   rw[if_pos rfl]at e ⊢
   exact tTof.at e s1 fun H2 G2 g2 _=>h H2 G2 (g1.trans g2)
 | false=>
   rw[if_neg qh]at e ⊢
   cases e
   exact h H1 G1 g1
theorem y1w{σ:L2.St}{H:Hp}{Q:Bool->Hp->Prop}(h:tTof K (orT fc fd) σ H Q):tOr (tTof K fc) (tTof K fd) σ H Q:=by
 obtain⟨ρ,k,H0,G0,G,e,s,h⟩:=h
 unfold orT at e
 obtain⟨k1,h1,e⟩:=qa e
 refine tTof.at h1 s fun H1 G1 g1 s1=>?_
 cases k1 with
 | false=>
   rw[if_neg qh]at e ⊢
   exact tTof.at e s1 fun H2 G2 g2 _=>h H2 G2 (g1.trans g2)
 | true=>
   rw[if_pos rfl]at e ⊢
   cases e
   exact h H1 G1 g1
theorem y1x(ha:MT X a fc)(hb:MW X (.BoolOp .And (b::rest) pos) fd):MW X (.BoolOp .And (a::b::rest) pos) (andT fc fd):=PW.imp (y0r ha hb) fun _ _ _ h=>Yyh h
theorem y4a(ha:MT X a fc)(hb:MW X (.BoolOp .Or (b::rest) pos) fd):MW X (.BoolOp .Or (a::b::rest) pos) (orT fc fd):=PW.imp (y3l ha hb) fun _ _ _ h=>y1w h
theorem y1y(ha:MT X a fc):MT X (.UnaryOp .Not a pos) (notT fc):=PT.imp (y0s ha) fun σ H Q hx_=>by
 obtain⟨ρ,k,H0,G0,G,e,s,h⟩:=hx_
 obtain⟨k1,h1,rfl⟩:=qb e
 exact tTof.at h1 s fun H1 G1 g1 _=>h H1 G1 g1
def blD:D->Option Bool
 | .bl b=>some b
 | _=>none
theorem Ykq{d:D}{k:Bool}(h:blD d=some k):d=.bl k:=by cases d<;>simp[blD]at h;subst h;rfl
def andV(fa fb:Ro->Option D):Ro->Option D:=fun ρ=>(b1 fa blD ρ).bind fun k=>if k=true then fb ρ else some (.bl false)
def orV(fa fb:Ro->Option D):Ro->Option D:=fun ρ=>(b1 fa blD ρ).bind fun k=>if k=true then some (.bl true)else fb ρ
def notV(fa:Ro->Option D):Ro->Option D:=fun ρ=>(b1 fa blD ρ).map fun k=>.bl (!k)
theorem Yyi(ha:ME X a fa):ME X (.BoolOp .And [a] pos) fa:=Yws ha
theorem y1z(ha:ME X a fa):ME X (.BoolOp .Or [a] pos) fa:=Yws ha
theorem y10(ha:ME X a fa)(hb:ME X (.BoolOp .And (b::rest) pos) fb):ME X (.BoolOp .And (a::b::rest) pos) (andV fa fb):=PE.imp (y0t ha hb) fun σ H Q hx_=>by
 obtain⟨ρ,d,H0,G0,G,e,s,h⟩:=hx_
 unfold andV at e
 obtain⟨k,h1,e⟩:=qa e
 obtain⟨d1,h2,h3⟩:=Ybm h1
 cases Ykq h3
 refine tOf.at h2 s fun v H1 G1 g1 r1 s1=>⟨k,by rw[Rp]at r1;exact r1,?_⟩
 cases k with
 | true=>
   rw[if_pos rfl]at e ⊢
   exact tOf.at e s1 fun w H2 G2 g2 r2 _=>h w H2 G2 (g1.trans g2) r2
 | false=>
   rw[if_neg qh]at e ⊢
   cases e
   exact h _ H1 G1 g1 (by rw[Rp])
theorem y4b(ha:ME X a fa)(hb:ME X (.BoolOp .Or (b::rest) pos) fb):ME X (.BoolOp .Or (a::b::rest) pos) (orV fa fb):=PE.imp (y3o ha hb) fun σ H Q hx_=>by
 obtain⟨ρ,d,H0,G0,G,e,s,h⟩:=hx_
 unfold orV at e
 obtain⟨k,h1,e⟩:=qa e
 obtain⟨d1,h2,h3⟩:=Ybm h1
 cases Ykq h3
 refine tOf.at h2 s fun v H1 G1 g1 r1 s1=>⟨k,by rw[Rp]at r1;exact r1,?_⟩
 cases k with
 | false=>
   rw[if_neg qh]at e ⊢
   exact tOf.at e s1 fun w H2 G2 g2 r2 _=>h w H2 G2 (g1.trans g2) r2
 | true=>
   rw[if_pos rfl]at e ⊢
   cases e
   exact h _ H1 G1 g1 (by rw[Rp])
theorem y11(ha:ME X a fa):ME X (.UnaryOp .Not a pos) (notV fa):=PE.imp (y0u ha) fun σ H Q hx_=>by
 obtain⟨ρ,d,H0,G0,G,e,s,h⟩:=hx_
 obtain⟨k,h1,rfl⟩:=qb e
 obtain⟨d1,h2,h3⟩:=Ybm h1
 cases Ykq h3
 exact tOf.at h2 s fun v H1 G1 g1 r1 s1=>⟨k,by rw[Rp]at r1;exact r1,h _ H1 G1 g1 (by rw[Rp])⟩
def ifV(fc:Ro->Option Bool)(fa fb:Ro->Option D):Ro->Option D:=fun ρ=>(fc ρ).bind fun k=>if k=true then fa ρ else fb ρ
theorem y4c(hc:MT X c fc)(ha:ME X a fa)(hb:ME X b fb):ME X (.IfExp c a b pos) (ifV fc fa fb):=PE.imp (Yu0 hc ha hb) fun σ H Q hx_=>by
 obtain⟨ρ,d,H0,G0,G,e,s,h⟩:=hx_
 unfold ifV at e
 obtain⟨k,h1,e⟩:=qa e
 refine tTof.at h1 s fun H1 G1 g1 s1=>?_
 cases k with
 | true=>
   rw[if_pos rfl]at e ⊢
   exact tOf.at e s1 fun w H2 G2 g2 r2 _=>h w H2 G2 (g1.trans g2) r2
 | false=>
   rw[if_neg qh]at e ⊢
   exact tOf.at e s1 fun w H2 G2 g2 r2 _=>h w H2 G2 (g1.trans g2) r2
def Yqp:D->Bool
 | .non=>true
 | _=>false
theorem Ypn{d:D}{v:V}{G H:Hp}(r:Ct K G H d v):decide (v=V.non)=Yqp d:=by
 cases d with
 | non=>rw[Ct]at r;subst r;rfl
 | bl _=>rw[Ct]at r;subst r;rfl
 | int _=>rw[Ct]at r;subst r;rfl
 | str _=>rw[Ct]at r;obtain⟨rfl,_⟩:=r;rfl
 | tup _=>rw[Ct]at r;obtain⟨_,_,rfl,_⟩:=r;rfl
 | lst _=>rw[Ct]at r;obtain⟨_,_,rfl,_⟩:=r;rfl
 | scr _=>rw[Ct]at r;obtain⟨_,rfl,_⟩:=r;rfl
 | dct _ _ _=>rw[Ct]at r;obtain⟨_,_,_,rfl,_⟩:=r;rfl
 | obj _ _ _=>rw[Ct]at r;obtain⟨_,_,_,_,rfl,_⟩:=r;rfl
 | adr _=>rw[Ct]at r;subst r;rfl
def isN(neg:Bool):D->D->Option Bool:=fun d e=>if Yqp e then some (if neg then !Yqp d else Yqp d)else none
theorem Yyj:Ye3 K (fun x y H Q=>y=.non/\Q (.bl (decide (x=.non))) H) (isN false):=by
 intro x y dx dy b H G Q h s rx ry q
 unfold isN at h
 split at h
 ·rename_i hn
  cases h
  cases dy<;>simp[Yqp]at hn
  rw[Ct]at ry
  exact⟨ry,by rw[Ypn rx];exact q⟩
 ·cases h
theorem Ypo:Ye3 K (fun x y H Q=>y=.non/\Q (.bl (!decide (x=.non))) H) (isN true):=by
 intro x y dx dy b H G Q h s rx ry q
 unfold isN at h
 split at h
 ·rename_i hn
  cases h
  cases dy<;>simp[Yqp]at hn
  rw[Ct]at ry
  exact⟨ry,by rw[Ypn rx];exact q⟩
 ·cases h
theorem Yyk(ha:MC X a fa)(hb:MC X b fb):ME X (.Compare a [.IsNot] [b] pos) (mB (b2 fa fb (isN true))):=Ypl Yrj Ypo ha hb (Ydl _)
theorem y12(ha:MC X a fa)(hb:MC X b fb):MT X (.Compare a [.Is] [b] pos) (b2 fa fb (isN false)):=Ye6 y07 Yyj ha hb (Ydl _)
theorem Yyl(ha:MC X a fa)(hb:MC X b fb):MT X (.Compare a [.IsNot] [b] pos) (b2 fa fb (isN true)):=Ye6 Yrj Ypo ha hb (Ydl _)
def ixD:D->D->Option D
 | c,.int i=>(Ym c).bind fun l=>atI l i
 | _,_=>none
theorem Yrx{G:Hp}{l:List D}{xs:List V}{i:Int}{d:D}(r:RpL K G l xs)(h:atI l i=some d):∃x,atI xs i=some x/\Rp K G d x:=by
 unfold atI at h ⊢
 rw[r.length]
 obtain⟨j,h1,h2⟩:=qa h
 obtain⟨x,h3,h4⟩:=r.get h2
 exact⟨x,by rw[h1];exact h3,h4⟩
theorem y13:Sem2 X.K (rIx X.K) ixD:=by
 intro x y dx dy d H G Q h s rx ry q
 unfold ixD at h
 split at h
 ·rename_i c i
  obtain⟨l,h1,h2⟩:=qa h
  rw[Ct]at ry
  subst ry
  rcases Yaw h1 with rfl | rfl | ⟨ns,rfl,rfl⟩
  ·rw[Ct]at rx
   obtain⟨p,xs,rfl,g,rl⟩:=rx
   obtain⟨v,h3,h4⟩:=Yrx rl h2
   exact .inr (.inl ⟨p,xs,i,v,rfl,rfl,.inl (.inl g.1),h3,q v H G (.refl s) h4⟩)
  ·rw[Ct]at rx
   obtain⟨p,xs,rfl,g,rl⟩:=rx
   obtain⟨v,h3,h4⟩:=Yrx rl h2
   exact .inl ⟨p,xs,i,v,rfl,rfl,.inl g,h3,q v H G (.refl s) h4⟩
  ·rw[Ct]at rx
   obtain⟨p,rfl,g⟩:=rx
   obtain⟨v,h3,h4⟩:=Yrx (G:=G) (K:=X.K) (.ints ns) h2
   exact .inl ⟨p,_,i,v,rfl,rfl,g,h3,q v H G (.refl s) h4⟩
 ·cases h
theorem Yym(ha:MC X a fa)(hb:MC X b fb)(hs:Yki b:=by intro _ _;rfl):ME X (.Subscript a b pos) (b2 fa fb ixD):=y32 y1h y13 ha hb hs
def intD:D->Option Int
 | .int i=>some i
 | _=>none
def optI(f:Option (Ro->Option D)):Ro->Option (Option Int):=fun ρ=>match f with
 | none=>some none
 | some f=>(b1 f intD ρ).map some
def cutD(l:List D)(lo hi:Option Int):List D:=(l.drop (HT.sIx l.length 0 lo)).take (HT.sIx l.length l.length hi - HT.sIx l.length 0 lo)
def lstD:D->Option (List D)
 | .lst l=>some l
 | .scr ns=>some (ns.map D.int)
 | _=>none
theorem Yry{d:D}{l:List D}{v:V}{G H:Hp}(h:lstD d=some l)(r:Ct K G H d v):∃p xs,v=.ref p/\SqL K H p xs/\RpL K G l xs:=by
 cases d with
 | lst m=>
   cases h
   rw[Ct]at r
   obtain⟨p,xs,e,g,q⟩:=r
   exact⟨p,xs,e,.inl g,q⟩
 | scr ns=>
   cases h
   rw[Ct]at r
   obtain⟨p,e,g⟩:=r
   exact⟨p,_,e,g,.ints ns⟩
 | non=>cases h
 | bl _=>cases h
 | int _=>cases h
 | str _=>cases h
 | tup _=>cases h
 | dct _ _ _=>cases h
 | obj _ _ _=>cases h
 | adr _=>cases h
def slF(fa:Ro->Option D)(lo hi:Option (Ro->Option D)):Ro->Option (List D):=fun ρ=>(b1 fa lstD ρ).bind fun l=>(optI lo ρ).bind fun i=>(optI hi ρ).bind fun j=>some (cutD l i j)
abbrev tO(K:W.Frag)(f:Option (Ro->Option D)):TO:=match f with
 | none=>Yrp
 | some f=>y1f (tCof K f)
theorem y14{H0 G0 H G:Hp}{σ:L2.St}{ρ:Ro}{f:Option (Ro->Option D)}{i:Option Int}{Q:Option Int->Hp->Prop}(e:optI f ρ=some i)(s:SR K H0 G0 σ H G ρ)(h:∀H' G',Gr H G H' G'->SR K H0 G0 σ H' G' ρ->Q i H'):tO K f σ H Q:=by
 cases f with
 | none=>
   cases e
   exact h H G (.refl s.seen) s
 | some f=>
   obtain⟨k,h1,rfl⟩:=qb e
   obtain⟨d,h2,h3⟩:=Ybm h1
   refine tCof.at h2 s fun v H1 G1 g1 r1 s1=>⟨k,?_,h H1 G1 g1 s1⟩
   cases d<;>simp[intD]at h3
   subst h3
   rw[Ct]at r1
   exact r1
theorem Yvd{lo hi:Option Expr}{fl fh:Option (Ro->Option D)}{p2:Pos}(ha:MC X a fa)(hl:PO X lo (tO X.K fl))(hh:PO X hi (tO X.K fh)):MF X (.Subscript a (.Slice lo hi none p2) pos) (slF fa fl fh):=
 PE.imp (Yu4 Yx1 ha hl hh) fun σ H Q hx_=>by
  obtain⟨ρ,l,H0,G0,G,e,s,h⟩:=hx_
  unfold slF at e
  obtain⟨l0,h1,e⟩:=qa e
  obtain⟨i,h2,e⟩:=qa e
  obtain⟨j,h3,e⟩:=qa e
  cases e
  obtain⟨d,h4,h5⟩:=Ybm h1
  refine tCof.at h4 s fun v H1 G1 g1 r1 s1=>y14 h2 s1 fun H2 G2 g2 s2=>y14 h3 s2 fun H3 G3 g3 s3=>?_
  have r3:=(r1.grow g2).grow g3
  obtain⟨p,xs,rfl,g,rl⟩:=Yry h5 r3
  refine⟨p,xs,rfl,g,fun q hq=>?_⟩
  have hq0:H q=none:=g1.h.free (g2.h.free (g3.h.free hq))
  have gg:=((g1.trans g2).trans g3).trans (Gr.hid (p:=q) s3.seen hq (.lst (cutV xs i j)))
  refine h q _ _ G3 gg hq0 (s3.seen.free hq) Yt ?_
  unfold cutD cutV
  rw[rl.length]
  exact(rl.drop _).take _
theorem y4d:PO X none (tO X.K none):=Yxx
theorem y4e(h:MC X e f):PO X (some e) (tO X.K (some f)):=Yxy h
def lF(f:Ro->Option (List D)):Ro->Option D:=fun ρ=>(f ρ).map D.lst
theorem MF.me{g:Ro->Option (List D)}(h:MF X e g):ME X e (lF g):=PE.imp h fun σ H Q hx_=>by
 obtain⟨ρ,d,H0,G0,G,e,s,h⟩:=hx_
 obtain⟨l,h1,rfl⟩:=qb e
 exact⟨ρ,l,H0,G0,G,h1,s,fun p xs H' G' g hp gp e' r=>h _ H' _ (g.show hp gp e') (by
  rw[Rp]
  refine⟨p,xs,rfl,.inl Yt,r.mono fun b o q=>?_⟩
  rw[Yv (Ys q gp)];exact q)⟩
def aNil:Ro->Option (List D):=fun _=>some []
def Ye(f:Ro->Option D)(g:Ro->Option (List D)):Ro->Option (List D):=fun ρ=>(f ρ).bind fun d=>(g ρ).map (d::·)
theorem Yw1:MA X [] aNil:=PA.imp Yeb fun σ H Q hx_=>by
 obtain⟨ρ,l,H0,G0,G,e,s,h⟩:=hx_
 cases e
 exact h [] H G (.refl s.seen) .nil
theorem Yrz(ha:ME X e f)(hr:MA X es ga)(hs:starEach (e::es) X.env=(false,eval e X.env)::starEach es X.env:=by rfl):MA X (e::es) (Ye f ga):=PA.imp (Ybd ha hr hs) fun σ H Q hx_=>by
 obtain⟨ρ,l,H0,G0,G,e,s,h⟩:=hx_
 unfold Ye at e
 obtain⟨d,h1,e⟩:=qa e
 obtain⟨l',h2,rfl⟩:=qb e
 exact tOf.at h1 s fun v H1 G1 g1 r1 s1=>tAof.at h2 s1 fun vs H2 G2 g2 r2 _=>h (v::vs) H2 G2 (g1.trans g2) (.cons (r1.mono g2.g) r2)
theorem Yr0:MCA X [] aNil:=PA.imp Yeb fun σ H Q hx_=>by
 obtain⟨ρ,l,H0,G0,G,e,s,h⟩:=hx_
 cases e
 exact h [] H G (.refl s.seen) rfl
theorem Ypp(ha:MC X e f)(hr:MCA X es ga)(hs:starEach (e::es) X.env=(false,eval e X.env)::starEach es X.env:=by rfl):MCA X (e::es) (Ye f ga):=PA.imp (Ybd ha hr hs) fun σ H Q hx_=>by
 obtain⟨ρ,l,H0,G0,G,e,s,h⟩:=hx_
 unfold Ye at e
 obtain⟨d,h1,e⟩:=qa e
 obtain⟨l',h2,rfl⟩:=qb e
 exact tCof.at h1 s fun v H1 G1 g1 r1 s1=>tCAof.at h2 s1 fun vs H2 G2 g2 r2 _=>h (v::vs) H2 G2 (g1.trans g2) ⟨v,vs,rfl,r1.grow g2,r2⟩
def cap6:Nat:=1000000
theorem Ydo{n:Nat}(h:n<=cap6):n<=sizeLine:=Nat.le_trans h (by rw[sizeLine_eq];decide)
def dTup(ga:Ro->Option (List D)):Ro->Option D:=fun ρ=>(ga ρ).bind fun l=>if l.length<=cap6 then some (.tup l)else none
theorem y15{x1}(h:MA X es ga):ME X (.Tuple es x1 pos) (dTup ga):=PE.imp (y1b h) fun σ H Q hx_=>by
 obtain⟨ρ,d,H0,G0,G,e,s,h⟩:=hx_
 unfold dTup at e
 obtain⟨l,h1,e⟩:=qa e
 split at e
 ·cases e
  refine tAof.at h1 s fun vs H1 G1 g1 r1 s1=>⟨by rw[r1.length];exact Ydo (by assumption),fun p hp=>?_⟩
  refine h _ _ _ (g1.trans (.new s1.seen hp (.tup vs))) ?_
  rw[Rp]
  exact⟨p,vs,rfl,Yt,r1.mono (Gr.new s1.seen hp (.tup vs)).g⟩
 ·cases e
def dLst(ga:Ro->Option (List D)):Ro->Option (List D):=fun ρ=>(ga ρ).bind fun l=>if l.length<=cap6 then some l else none
theorem y16(h:MA X es ga):MF X (.List es pos) (dLst ga):=PE.imp (y1c h) fun σ H Q hx_=>by
 obtain⟨ρ,d,H0,G0,G,e,s,h⟩:=hx_
 unfold dLst at e
 obtain⟨l,h1,e⟩:=qa e
 split at e
 ·cases e
  refine tAof.at h1 s fun vs H1 G1 g1 r1 s1=>⟨by rw[r1.length];exact Ydo (by assumption),fun p hp=>?_⟩
  exact h p vs _ G1 (g1.trans (.hid s1.seen hp (.lst vs))) (g1.h.free hp) (s1.seen.free hp) Yt r1
 ·cases e
def cC(ga:Ro->Option (List D))(g:List D->Option D):Ro->Option D:=fun ρ=>(ga ρ).bind g
def cF(ga:Ro->Option (List D))(g:List D->Option (List D)):Ro->Option (List D):=fun ρ=>(ga ρ).bind g
theorem Yw2{r:List V->Hp->VK->Prop}{g:List D->Option D}(hr:SemC K r g){σ:L2.St}{H:Hp}{Q:VK}(h:tOf K (cC ga g) σ H Q):tCB r (tCAof K ga) σ H Q:=by
 obtain⟨ρ,d,H0,G0,G,e,s,h⟩:=h
 unfold cC at e
 obtain⟨l,h1,h2⟩:=qa e
 exact tCAof.at h1 s fun vs H1 G1 g1 r1 s1=>hr vs l d H1 G1 Q h2 s1.seen r1 fun v H' G' g2 r2=>h v H' G' (g1.trans g2) r2
theorem Yr1{r:List V->Hp->VK->Prop}{g:List D->Option (List D)}(hr:SemF K r g){σ:L2.St}{H:Hp}{Q:VK}(h:tFof K (cF ga g) σ H Q):tCB r (tCAof K ga) σ H Q:=by
 obtain⟨ρ,d,H0,G0,G,e,s,h⟩:=h
 unfold cF at e
 obtain⟨l,h1,h2⟩:=qa e
 exact tCAof.at h1 s fun vs H1 G1 g1 r1 s1=>hr vs l d H1 G1 Q h2 s1.seen r1 fun p xs H' G' g2 hp gp e' r2=>h p xs H' G' (g1.trans g2) (g1.h.free hp) gp e' r2
section
variable {x:Str} {p:Pos} {id T:String} {r:List V->Hp->VK->Prop} {g:List D->Option D} {gf:List D->Option (List D)}
theorem Yve(hc:Yb5 X (.builtin id) r)(hr:SemC X.K r g)(hg:Gl X x)(hm:X.mg x=none)(hv:bootBuiltins x=some (.builtin id))(ha:MCA X (e::es) ga)(hn:x≠"__name__":=by decide)(hdb:(x==("__debug__":Str))=false:=by decide)
 (he:starEach (e::es) X.env=(false,eval e X.env)::starEach es X.env:=by rfl) (hpl:(backTo pos (starEach es X.env)).any (·.1)=false:=by rfl):ME X (.Call (.Name x p) (e::es) [] pos) (cC ga g):=
 PE.imp (Yc3 hc hg hm hv ha hn hdb he hpl) fun _ _ _ h=>Yw2 hr h
theorem Yvf(hc:Yb5 X (.builtin id) r)(hr:SemF X.K r gf)(hg:Gl X x)(hm:X.mg x=none)(hv:bootBuiltins x=some (.builtin id))(ha:MCA X (e::es) ga)(hn:x≠"__name__":=by decide)(hdb:(x==("__debug__":Str))=false:=by decide)
 (he:starEach (e::es) X.env=(false,eval e X.env)::starEach es X.env:=by rfl) (hpl:(backTo pos (starEach es X.env)).any (·.1)=false:=by rfl):MF X (.Call (.Name x p) (e::es) [] pos) (cF ga gf):=
 PE.imp (Yc3 hc hg hm hv ha hn hdb he hpl) fun _ _ _ h=>Yr1 hr h
theorem Yr2(hc:Yb5 X (.type T) r)(hr:SemC X.K r g)(hg:Gl X x)(hm:X.mg x=none)(hv:bootBuiltins x=some (.type T))(ha:MCA X (e::es) ga)(hn:x≠"__name__":=by decide)(hdb:(x==("__debug__":Str))=false:=by decide)
 (he:starEach (e::es) X.env=(false,eval e X.env)::starEach es X.env:=by rfl) (hpl:(backTo pos (starEach es X.env)).any (·.1)=false:=by rfl):ME X (.Call (.Name x p) (e::es) [] pos) (cC ga g):=
 PE.imp (Yez hc hg hm hv ha hn hdb he hpl) fun _ _ _ h=>Yw2 hr h
theorem Yr3(hc:Yb5 X (.type T) r)(hr:SemF X.K r gf)(hg:Gl X x)(hm:X.mg x=none)(hv:bootBuiltins x=some (.type T))(ha:MCA X (e::es) ga)(hn:x≠"__name__":=by decide)(hdb:(x==("__debug__":Str))=false:=by decide)
 (he:starEach (e::es) X.env=(false,eval e X.env)::starEach es X.env:=by rfl) (hpl:(backTo pos (starEach es X.env)).any (·.1)=false:=by rfl):MF X (.Call (.Name x p) (e::es) [] pos) (cF ga gf):=
 PE.imp (Yez hc hg hm hv ha hn hdb he hpl) fun _ _ _ h=>Yr1 hr h
end
def spOf(K:W.Frag)(n:Nat)(fn:List D->Option D):Sp:=fun vs H Q _=>vs.length=n/\∃ds d G,Same G H/\RpL K G ds vs/\fn ds=some d/\∀v H' G',Gr H G H' G'->Rp K G' d v->Q v H'
theorem Yyn{k n:Nat}{fa':Addr}{fd':FuncData}{ps:List Str}{x:Str}{p:Pos}{fn:List D->Option D}(F:FnOk X.prog X.w X.K X.mg X.base CX0 k fa' fd' ps (spOf X.K n fn))(hr:Room k X.A)(hg:Gl X x)(hm:X.mg x=some (.ref fa'))(hk:W.keepIn X.K (.ref fa')=true)(hb:Binds X.K fd' ps [])
 (ha:MA X (e::es) ga) (hdb:(x==("__debug__":Str))=false:=by decide) (he:starEach (e::es) X.env=(false,eval e X.env)::starEach es X.env:=by rfl) (hpl:(backTo pos (starEach es X.env)).any (·.1)=false:=by rfl)
 (hl:∀ρ l,ga ρ=some l->l.length=n):ME X (.Call (.Name x p) (e::es) [] pos) (cC ga fn):=
 PE.imp (Yrn (E:=E0) F hr hg hm hk hb .nil y30 ha hdb he hpl) fun σ H Q hx_=>by
  obtain⟨ρ,d,H0,G0,G,e,s,h⟩:=hx_
  unfold cC at e
  obtain⟨l,h1,h2⟩:=qa e
  refine tAof.at h1 s fun vs H1 G1 g1 r1 s1=>?_
  rw[List.append_nil]
  exact⟨by rw[r1.length];exact hl ρ l h1,l,d,G1,s1.seen,r1,h2,fun v H' G' g2 r2=>h v H' G' (g1.trans g2) r2⟩
theorem Yvg{ρ:Ro}{l:List D}(h:aNil ρ=some l):l.length=0:=by cases h;rfl
theorem Yhp{f:Ro->Option D}{g:Ro->Option (List D)}{n:Nat}(hg:∀ρ l,g ρ=some l->l.length=n):∀ρ l,Ye f g ρ=some l->l.length=n+1:=fun ρ l h=>by
 unfold Ye at h
 obtain⟨d,h1,e⟩:=qa h
 obtain⟨l',h2,rfl⟩:=qb e
 rw[qq,hg ρ l' h2]
def lenC:List D->Option D
 | [c]=>(Ym c).map fun l=>.int l.length
 | _=>none
theorem Yw3{G H:Hp}{c:D}{l:List D}{v:V}(h:Ym c=some l)(r:Ct K G H c v):∃p xs,v=.ref p/\(SqL K H p xs\/SqT K H p xs)/\RpL K G l xs:=by
 rcases Yaw h with rfl | rfl | ⟨ns,rfl,rfl⟩
 ·rw[Ct]at r
  obtain⟨p,xs,rfl,g,rl⟩:=r
  exact⟨p,xs,rfl,.inr (.inl (.inl g.1)),rl⟩
 ·rw[Ct]at r
  obtain⟨p,xs,rfl,g,rl⟩:=r
  exact⟨p,xs,rfl,.inl (.inl g),rl⟩
 ·rw[Ct]at r
  obtain⟨p,rfl,g⟩:=r
  exact⟨p,_,rfl,.inl g,.ints ns⟩
theorem Yhq{G:Hp}{d:D}{vs:List V}(h:RpL K G [d] vs):∃v,vs=[v]/\Rp K G d v:=by
 rw[RpL]at h
 obtain⟨x,r,rfl,h1,h2⟩:=h
 rw[RpL]at h2
 subst h2
 exact⟨x,rfl,h1⟩
theorem Yeq{G H:Hp}{d:D}{vs:List V}(h:CtL K G H [d] vs):∃v,vs=[v]/\Ct K G H d v:=by
 obtain⟨x,r,rfl,h1,h2⟩:=h
 cases (show r=[] from h2)
 exact⟨x,rfl,h1⟩
theorem Ya8:SemC X.K (fun xs H Q=>∃p ys,xs=[.ref p]/\(SqL X.K H p ys\/SqT X.K H p ys)/\Q (.int ys.length) H) lenC:=by
 intro vs ds d H G Q h s r q
 match ds,h,r with
 | [c],h,r=>
   obtain⟨l,h1,rfl⟩:=qb h
   obtain⟨v,rfl,rv⟩:=Yeq r
   obtain⟨p,xs,rfl,h2,rl⟩:=Yw3 (K:=X.K) h1 rv
   exact⟨p,xs,rfl,h2,q _ H G (.refl s) (by rw[Rp,rl.length])⟩
def Yyo:List D->Option (List D)
 | [c]=>Ym c
 | _=>none
theorem Yvh:SemF X.K (fun xs H Q=>∃p ys,xs=[.ref p]/\(SqL X.K H p ys\/SqT X.K H p ys)/\∀l,H l=none->Q (.ref l) (upd H l (.lst ys))) Yyo:=by
 intro vs ds l H G Q h s r q
 match ds,h,r with
 | [c],h,r=>
   obtain⟨v,rfl,rv⟩:=Yeq r
   obtain⟨p,xs,rfl,h2,rl⟩:=Yw3 (K:=X.K) h rv
   exact⟨p,xs,rfl,h2,fun m hm=>q m xs _ G (.hid s hm _) hm (s.free hm) Yt rl⟩
def tupC:List D->Option D
 | [c]=>(Ym c).map D.tup
 | _=>none
theorem Yer:SemC X.K (fun xs H Q=>∃p ys,xs=[.ref p]/\((SqL X.K H p ys/\∀l,H l=none->Q (.ref l) (upd H l (.tup ys)))\/(SqT X.K H p ys/\Q (.ref p) H))) tupC:=by
 intro vs ds d H G Q h s r q
 match ds,h,r with
 | [c],h,r=>
   obtain⟨l,h1,rfl⟩:=qb h
   obtain⟨v,rfl,rv⟩:=Yeq r
   rcases Yaw h1 with rfl | rfl | ⟨ns,rfl,rfl⟩
   ·rw[Ct]at rv
    obtain⟨p,xs,rfl,g,rl⟩:=rv
    exact⟨p,xs,rfl,.inr ⟨.inl (.inl g.1),q _ H G (.refl s) (by rw[Rp];exact⟨p,xs,rfl,g.2,rl⟩)⟩⟩
   ·rw[Ct]at rv
    obtain⟨p,xs,rfl,g,rl⟩:=rv
    refine⟨p,xs,rfl,.inl ⟨.inl g,fun m hm=>q _ _ _ (.new s hm (.tup xs)) ?_⟩⟩
    rw[Rp]
    exact⟨m,xs,rfl,Yt,rl.mono (Gr.new s hm (.tup xs)).g⟩
   ·rw[Ct]at rv
    obtain⟨p,rfl,g⟩:=rv
    refine⟨p,_,rfl,.inl ⟨g,fun m hm=>q _ _ _ (.new s hm (.tup _)) ?_⟩⟩
    rw[Rp]
    exact⟨m,_,rfl,Yt,.ints ns⟩
end
end
section
variable {K:W.Frag}
section
variable {X:Cx} {e:Expr} {f:Ro->Option D} {gl:Ro->Option (List D)} {pos pos':Pos} {st:Stmt} {sts:List Stmt} {fs gs:Ro->Option Out}
def sNil:Ro->Option Out:=fun ρ=>some (.nx ρ)
def sSeq(f g:Ro->Option Out):Ro->Option Out:=fun ρ=>(f ρ).bind fun
 | .nx ρ'=>g ρ'
 | o=>some o
theorem y17:MB X [] sNil:=PSs.imp Yrf fun F σ H hx_=>by
 obtain⟨ρ,out,H0,G0,G,e,s,h⟩:=hx_
 cases e
 exact h σ H G s
theorem Yyp(h1:MS X st fs)(h2:MB X sts gs):MB X (st::sts) (sSeq fs gs):=PSs.imp (Yg0 h1 h2) fun F σ H hx_=>by
 obtain⟨ρ,out,H0,G0,G,e,s,h⟩:=hx_
 unfold sSeq at e
 obtain⟨o,h3,e⟩:=qa e
 cases o with
 | nx ρ'=>exact⟨ρ,.nx ρ',H0,G0,G,h3,s,fun σ' H' G' s'=>⟨ρ',out,H0,G0,G',e,s',h⟩⟩
 | rt d=>cases e;exact⟨ρ,.rt d,H0,G0,G,h3,s,h⟩
 | bk ρ'=>cases e;exact⟨ρ,.bk ρ',H0,G0,G,h3,s,h⟩
 | ct ρ'=>cases e;exact⟨ρ,.ct ρ',H0,G0,G,h3,s,h⟩
theorem y18(h1:MS X st fs):MB X [st] fs:=Yxo h1
def frz1(i:Nat)(ρ:Ro):Ro:=match ρ[i]? with
 | some (some (B.ow l))=>ρ.set i (some (.sh (.lst l)))
 | some (some (B.od t ks vs))=>ρ.set i (some (.sh (.dct t ks vs)))
 | _=>ρ
theorem SR.frz1{H0 G0 H G:Hp}{σ:L2.St}{ρ:Ro}(s:SR K H0 G0 σ H G ρ)(i:Nat):∃G',SR K H0 G0 σ H G' (M.frz1 i ρ):=by
 unfold M.frz1
 split
 ·rename_i l hl
  exact s.freeze hl
 ·rename_i t ks vs hl
  exact s.freezed hl
 ·exact⟨G,s⟩
def frz(is:List Nat)(ρ:Ro):Ro:=is.foldl (fun r i=>frz1 i r) ρ
theorem SR.frz{H0 G0 H:Hp}{σ:L2.St}:∀(is:List Nat) {G:Hp} {ρ:Ro},SR K H0 G0 σ H G ρ->∃G',SR K H0 G0 σ H G' (M.frz is ρ)
 | [],G,_,s=>⟨G,s⟩
 | i::is,_,ρ,s=>by
   obtain⟨G',s'⟩:=s.frz1 i
   exact SR.frz is s'
def wF(is:List Nat)(f:Ro->Option Out):Ro->Option Out:=fun ρ=>f (frz is ρ)
theorem y19(is:List Nat)(h:MS X st fs):MS X st (wF is fs):=PS.imp h fun F σ H hx_=>by
 obtain⟨ρ,out,H0,G0,G,e,s,h⟩:=hx_
 obtain⟨G',s'⟩:=SR.frz is s
 exact⟨frz is ρ,out,H0,G0,G',e,s',h⟩
def sSet(i:Nat)(f:Ro->Option D):Ro->Option Out:=fun ρ=>(f ρ).map fun d=>.nx (ρ.set i (some (.sh d)))
def sOwn(i:Nat)(f:Ro->Option (List D)):Ro->Option Out:=fun ρ=>(f ρ).map fun l=>.nx (ρ.set i (some (.ow l)))
theorem y2a{i:Nat}{F:Ends}{σ:L2.St}{H:Hp}(h:sOf K (sSet i f) F σ H):tAsg (tOf K f) (Yqj i) F σ H:=by
 obtain⟨ρ,out,H0,G0,G,e,s,h⟩:=h
 obtain⟨d,h1,rfl⟩:=qb e
 exact tOf.at h1 s fun v H1 G1 g1 r1 s1=>h _ H1 G1 (s1.set_sh i r1)
theorem y2b{i:Nat}{F:Ends}{σ:L2.St}{H:Hp}(h:sOf K (sOwn i gl) F σ H):tAsg (tFof K gl) (Yqj i) F σ H:=by
 obtain⟨ρ,out,H0,G0,G,e,s,h⟩:=h
 obtain⟨l,h1,rfl⟩:=qb e
 exact⟨ρ,l,H0,G0,G,h1,s,fun p xs H' G' g hp gp e' r=>h _ H' G' (s.set_ow i g hp gp e' r)⟩
theorem y2c(i:Nat){x:Str}(hN:X.N.Nodup)(he:ME X e f)(hi:X.N[i]?=some x:=by rfl)(hx:Loc X.env.scope x:=by first | exact Or.inl rfl | exact Or.inr rfl)(hs:swapsWith e (some (.Name x pos')) pos.line X.env=pure false:=by rfl)
 (hf:X.fn x=true\/X.env.scope.names.lookup x=some .local:=by first | exact .inl rfl | exact .inr rfl):MS X (.Assign [.Name x pos'] e pos) (sSet i f):=PS.imp (Ywt hN hi hx he hs hf) fun _ _ _ h=>y2a h
theorem y2d(i:Nat){x:Str}(hN:X.N.Nodup)(he:MF X e gl)(hi:X.N[i]?=some x:=by rfl)(hx:Loc X.env.scope x:=by first | exact Or.inl rfl | exact Or.inr rfl)(hs:swapsWith e (some (.Name x pos')) pos.line X.env=pure false:=by rfl)
 (hf:X.fn x=true\/X.env.scope.names.lookup x=some .local:=by first | exact .inl rfl | exact .inr rfl):MS X (.Assign [.Name x pos'] e pos) (sOwn i gl):=PS.imp (Ywt hN hi hx he hs hf) fun _ _ _ h=>y2b h
def sRet(f:Ro->Option D):Ro->Option Out:=fun ρ=>(f ρ).map .rt
theorem y2e(he:ME X e f):MS X (.Return (some e) pos) (sRet f):=PS.imp (y0v he) fun F σ H hx_=>by
 obtain⟨ρ,out,H0,G0,G,e,s,h⟩:=hx_
 obtain⟨d,h1,rfl⟩:=qb e
 exact tOf.at h1 s fun v H1 G1 g1 r1 s1=>h v H1 G1 s1.gr r1
def sIf(c:Ro->Option Bool)(f g:Ro->Option Out):Ro->Option Out:=fun ρ=>(c ρ).bind fun k=>if k=true then f ρ else g ρ
theorem y4f{c:Expr}{a b:List Stmt}{fc:Ro->Option Bool}(hc:MT X c fc)(ha:MB X a fs)(hb:MB X b gs):MS X (.If c a b pos) (sIf fc fs gs):=PS.imp (y0w hc ha hb) fun F σ H hx_=>by
 obtain⟨ρ,out,H0,G0,G,e,s,h⟩:=hx_
 unfold sIf at e
 obtain⟨k,h1,e⟩:=qa e
 refine tTof.at h1 s fun H1 G1 g1 s1=>?_
 cases k with
 | true=>
   rw[if_pos rfl]at e ⊢
   exact⟨ρ,out,H0,G0,G1,e,s1,h⟩
 | false=>
   rw[if_neg qh]at e ⊢
   exact⟨ρ,out,H0,G0,G1,e,s1,h⟩
def sMut(i:Nat)(f:Ro->Option D)(g:List D->D->Option (List D)):Ro->Option Out:=fun ρ=>(getO i ρ).bind fun l=>(f ρ).bind fun d=>(g l d).map fun l'=>.nx (ρ.set i (some (.ow l')))
theorem Yr4{H0 G0 H G:Hp}{σ:L2.St}{ρ:Ro}{i:Nat}{l:List D}(s:SR K H0 G0 σ H G ρ)(h:getO i ρ=some l):∃a xs,σ[i]?=some (some (V.ref a))/\H a=some (.lst xs)/\RpL K G l xs/\G a=none:=by
 obtain⟨a,xs,h1,h2,h3,h4,h5⟩:=s.ow i l (Ye4 h)
 exact⟨a,xs,h1,h4,h5,h2⟩
def appD(l:List D)(d:D):Option (List D):=if l.length < cap6 then some (l++[d])else none
theorem Yr5(i:Nat){x:Str}{p2 apos cpos:Pos}(he:ME X e f)(hN:X.N[i]?=some x:=by rfl)(hv:Vis X.env.scope x:=by first | exact Or.inl rfl | exact Or.inr (Or.inl rfl) | exact Or.inr (Or.inr rfl))
 (hd:(x==("__debug__":Str))=false:=by decide) (hcd:(x==("__classdict__":Str))=false:=by decide) (hse:swapsWith (.Call (.Attribute (.Name x p2) "append" apos) [e] [] cpos) none pos.line X.env=pure false:=by rfl)
 (hs:starEach [e] X.env=[(false,eval e X.env)]:=by rfl)
 (hfew:((backTo cpos (starEach [e] X.env)).all (fun x=>!x.1)&&(backToKw cpos (keywordEach [] X.env)).all (fun x=>x.1.isSome)&&decide ([e].length+([]:List Keyword).length+(if ([]:List Keyword).isEmpty then 0 else 1) < 30))=true:=by rfl)
 (hline:(apos.endLine==cpos.line)=true:=by rfl) (hbase:attributeBase (.Name x p2) "append" X.env (eval (.Name x p2) X.env)=eval (.Name x p2) X.env:=by rfl) :
 MS X (.Expr (.Call (.Attribute (.Name x p2) "append" apos) [e] [] cpos) pos) (sMut i f appD):=
 PS.imp (Yhd (Yx2 PySem.F.plainAttrs_list PySem.F.slot_list_append PySem.F.type_list_append Yl1 (Yhb hN hv hd hcd) (Ybd he Yeb hs) hbase hfew hline hs rfl) hse) fun F σ H hx_=>by
  obtain⟨ρ,out,H0,G0,G,e,s,h⟩:=hx_
  unfold sMut at e
  obtain⟨l,h1,e⟩:=qa e
  obtain⟨d,h2,e⟩:=qa e
  obtain⟨l',h3,rfl⟩:=qb e
  unfold appD at h3
  split at h3
  ·rename_i hl
   cases h3
   obtain⟨a,xs,ha,hH,hr,hG⟩:=Yr4 s h1
   refine⟨_,ha,.inl ⟨rfl,xs,SqL.of hH⟩,tOf.at h2 s fun v H1 G1 g1 r1 s1=>?_⟩
   refine⟨a,xs,v,rfl,rfl,g1.h _ _ hH,?_,h σ _ G1 (s1.mut (Ye4 h1) ha ((hr.mono g1.g).append (.one r1)))⟩
   rw[hr.length]
   exact Qc hl (Ydo (qt _))
  ·cases h3
theorem Yvi{J:It}{G':Hp}{ds:List D}(hz:ds.length<=sizeLine)(h:∀(i:Nat) H2 G2,Same G' G2->Same G2 H2->(∀d,ds[i]?=some d->J.go i H2/\∀y H3,J.yld i H2 y H3->H3=H2/\Rp K G2 d y)/\(ds.length<=i->J.stop i H2)):Wk K J G' ds:=
 ⟨hz,fun i H2 G2 s1 s2=>⟨fun d hd=>⟨((h i H2 G2 s1 s2).1 d hd).1,fun y H3 q=>by
  obtain⟨rfl,r⟩:=((h i H2 G2 s1 s2).1 d hd).2 y H3 q
  exact⟨G2,.refl s2,r⟩⟩,(h i H2 G2 s1 s2).2⟩⟩
variable {tg:Expr}
def iSeq(K:W.Frag)(tl:TE):TI:=fun σ H R=>tl σ H fun x H1=>∃a xs,x=.ref a/\((SqL K H1 a xs/\(xs.length<=sizeLine->R (Itl K a) H1))\/(SqT K H1 a xs/\(xs.length<=sizeLine->R (Itt K a) H1)))
theorem y2f{l:Expr}{tl:TE}(hl:PE X l tl):PI X tg l (iSeq X.K tl):=by
 intro pins s σ H R I h
 refine thn (hl pins s σ H _ I h) fun v s1 hx_=>?_
 obtain⟨x,H1,I1,r1,q1⟩:=hx_
 obtain⟨a,xs,e,q1⟩:=q1
 subst e
 cases r1
 rcases q1 with⟨hq,q⟩ | ⟨hq,q⟩
 ·obtain⟨its,rv,p,hz⟩:=I1.list hq
  refine wpAny_pyIter_list p.isList ?_
  refine⟨s1.heap.objs.size,[s1.heap.objs.size],_,_,H1,rfl,I1.kept (t':=s1.toks) fun b o e=>qd _ e,Yrg a _,⟨_,qo _ rfl,rfl,rfl⟩,fun b hb=>?_,q hz⟩
  have e:b=s1.heap.objs.size:=by simpa using hb
  subst e
  exact I1.fpOk (qt _) (I1.hok.fresh (qt _))
 ·obtain⟨its,rv,p,hz⟩:=I1.tuple hq
  refine wpAny_pyIter_tuple (show s1.heap.IsTuple a its.toArray from p) ?_
  refine⟨s1.heap.objs.size,[s1.heap.objs.size],_,_,H1,rfl,I1.kept (t':=s1.toks) fun b o e=>qd _ e,Yqk a _,⟨_,qo _ rfl,rfl,rfl⟩,fun b hb=>?_,q hz⟩
  have e:b=s1.heap.objs.size:=by simpa using hb
  subst e
  exact I1.fpOk (qt _) (I1.hok.fresh (qt _))
theorem y2g{l:Expr}(hl:ME X l f):MI X tg l (b1 f Ym):=PI.imp (y2f hl) fun σ H R hx_=>by
 obtain⟨ρ,ds,H0,G0,G,e,s,h⟩:=hx_
 obtain⟨c,h1,h2⟩:=Ybm e
 refine tOf.at h1 s fun v H1 G1 g1 r1 s1=>?_
 rcases Yaw h2 with rfl | rfl | ⟨ns,rfl,rfl⟩
 ·rw[Rp]at r1
  obtain⟨p,xs,rfl,g,rl⟩:=r1
  refine⟨p,xs,rfl,.inr ⟨.inl (.inl (s1.seen _ _ g)),fun hz=>h _ H1 G1 g1 (Yvi (by rw[<-rl.length];exact hz) fun i H2 G2 e1 e2=>⟨fun d hd=>?_,fun hi=>⟨xs,.inl (.inl (e2 _ _ (e1 _ _ g))),by rw[rl.length];exact hi⟩⟩)⟩⟩
  obtain⟨x,hx,rx⟩:=rl.get hd
  refine⟨⟨xs,x,.inl (.inl (e2 _ _ (e1 _ _ g))),hx⟩,fun y H3 q=>⟨q.1,?_⟩⟩
  have:=q.2 xs (.inl (.inl (e2 _ _ (e1 _ _ g))))
  rw[hx]at this
  cases this
  exact rx.mono e1
 ·rw[Rp]at r1
  obtain⟨p,xs,rfl,g,rl⟩:=r1
  refine⟨p,xs,rfl,.inl ⟨.inl (Yaz s1.seen g),fun hz=>h _ H1 G1 g1 (Yvi (by rw[<-rl.length];exact hz) fun i H2 G2 e1 e2=>⟨fun d hd=>?_,fun hi=>⟨xs,.inl (Yaz e2 (Yaz e1 g)),by rw[rl.length];exact hi⟩⟩)⟩⟩
  obtain⟨x,hx,rx⟩:=rl.get hd
  refine⟨⟨xs,x,.inl (Yaz e2 (Yaz e1 g)),hx⟩,fun y H3 q=>⟨q.1,?_⟩⟩
  have:=q.2 xs (.inl (Yaz e2 (Yaz e1 g)))
  rw[hx]at this
  cases this
  exact rx.mono e1
 ·rw[Rp]at r1
  obtain⟨p,rfl,g⟩:=r1
  have rl:RpL X.K G1 (ns.map D.int) (ns.map V.int):=.ints ns
  refine⟨p,_,rfl,.inl ⟨s1.seen.seq g,fun hz=>h _ H1 G1 g1 (Yvi (by rw[<-rl.length];exact hz) fun i H2 G2 e1 e2=>⟨fun d hd=>?_,fun hi=>⟨_,e2.seq (e1.seq g),by rw[rl.length];exact hi⟩⟩)⟩⟩
  obtain⟨x,hx,rx⟩:=rl.get hd
  refine⟨⟨_,x,e2.seq (e1.seq g),hx⟩,fun y H3 q=>⟨q.1,?_⟩⟩
  have:=q.2 _ (e2.seq (e1.seq g))
  rw[hx]at this
  cases this
  exact rx.mono e1
def rngD(a n:Int):List D:=(List.range (n - a).toNat).map fun i=>.int (a+(i:Nat))
theorem Yhr(a n:Int):(rngD a n).length=(n - a).toNat:=by simp[rngD]
theorem y2h{a n:Int}{G':Hp}(hz:(n - a).toNat<=sizeLine):Wk K (Itr a (n - a).toNat) G' (rngD a n):=
 Yvi (by rw[Yhr];exact hz) fun i H2 G2 _ _=>⟨fun d hd=>by
  unfold rngD at hd
  rw[Qg]at hd
  obtain⟨j,h1,rfl⟩:=qb hd
  have hj:i < (n - a).toNat:=by
   have:=(qm h1).1
   simpa using this
  rw[List.getElem?_range hj]at h1
  cases h1
  exact⟨hj,fun y H3 q=>⟨q.1,by rw[Rp];exact q.2⟩⟩,fun hi=>by rw[Yhr]at hi;exact hi⟩
def rng1:List D->Option (List D)
 | [.int n]=>if decide (-(cap6:Int)<=n)&&decide (n<=cap6)then some (rngD 0 n)else none
 | _=>none
theorem Yl9{l ds:List D}(h:rng1 l=some ds):∃n:Int,l=[.int n]/\-1000000<=n/\n<=1000000/\ds=rngD 0 n:=by
 unfold rng1 at h
 split at h
 ·rename_i n
  split at h
  ·rename_i hc
   cases h
   simp only[Qf,decide_eq_true_eq]at hc
   have hcap:(cap6:Int)=1000000:=by decide
   exact⟨n,rfl,by lia,by lia,rfl⟩
  ·cases h
 ·cases h
theorem Yr6{a:Expr}{ga:Ro->Option (List D)}{p:Pos}(hg:Gl X "range")(hm:X.mg "range"=none)(ha:MA X [a] ga)(hs:starEach [a] X.env=[(false,eval a X.env)]:=by rfl):MI X tg (.Call (.Name "range" p) [a] [] pos) (cF ga rng1):=
 PI.imp (Yrh hg hm ha hs) fun σ H R hx_=>by
  obtain⟨ρ,ds,H0,G0,G,e,s,h⟩:=hx_
  unfold cF at e
  obtain⟨l,h1,h2⟩:=qa e
  refine tAof.at h1 s fun vs H1 G1 g1 r1 s1=>?_
  obtain⟨n,rfl,c1,c2,rfl⟩:=Yl9 h2
  obtain⟨v,rfl,rv⟩:=Yhq r1
  rw[Rp]at rv
  subst rv
  refine⟨n,rfl,by lia,by lia,?_⟩
  have:=h (Itr 0 (n - 0).toNat) H1 G1 g1 (y2h (Ydo (by unfold cap6;lia)))
  simpa using this
def gSet(i:Nat):D->Ro->Option Ro:=fun d ρ=>some (ρ.set i (some (.sh d)))
theorem Yyq(i:Nat){x:Str}(hN:X.N.Nodup)(hi:X.N[i]?=some x:=by rfl)(hx:Loc X.env.scope x:=by first | exact Or.inl rfl | exact Or.inr rfl)(hf:X.fn x=true\/X.env.scope.names.lookup x=some .local:=by first | exact .inl rfl | exact .inr rfl):MG X (.Name x pos) (gSet i):=
 PG.imp (Ynw hN hi hx hf) fun v σ H Q hx_=>by
  obtain⟨d,ρ,ρ',H0,G0,G,e,s,r,h⟩:=hx_
  cases e
  exact h _ (s.set_sh i r)
def Ykr(i j:Nat):D->Ro->Option Ro:=fun d ρ=>match d with
 | .tup [a,b]=>some ((ρ.set i (some (.sh a))).set j (some (.sh b)))
 | _=>none
theorem Yyr(i j:Nat){x y:Str}{px py:Pos}{k:Nat}(hc:X.calm=true)(hN:X.N.Nodup)(hi:X.N[i]?=some x:=by rfl)(hj:X.N[j]?=some y:=by rfl)(hx:Loc X.env.scope x:=by first | exact Or.inl rfl | exact Or.inr rfl)(hy:Loc X.env.scope y:=by first | exact Or.inl rfl | exact Or.inr rfl)
 (hf:X.fn x=true\/X.env.scope.names.lookup x=some .local:=by first | exact .inl rfl | exact .inr rfl) (hf2:X.fn y=true\/X.env.scope.names.lookup y=some .local:=by first | exact .inl rfl | exact .inr rfl):MG X (.Tuple [.Name x px,.Name y py] k pos) (Ykr i j):=
 PG.imp (y0y (n:=2) hc (Ypf (Ynw hN hi hx hf) (Ypf (Ynw hN hj hy hf2) Yxp))) fun v σ H Q hx_=>by
  obtain⟨d,ρ,ρ',H0,G0,G,e,s,r,h⟩:=hx_
  match d,e,r with
  | .tup [a,b],e,r=>
    cases e
    rw[Rp]at r
    obtain⟨p,xs,rfl,g,rl⟩:=r
    rw[RpL]at rl
    obtain⟨u,us,rfl,ru,rl⟩:=rl
    obtain⟨w,rfl,rw'⟩:=Yhq rl
    exact⟨p,[u,w],rfl,.inl (.inl (s.seen _ _ g)),rfl,u,[w],rfl,w,[],rfl,rfl,h _ ((s.set_sh i ru).set_sh j rw')⟩
def forM(gt:D->Ro->Option Ro)(fb:Ro->Option Out):List D->Ro->Option Out
 | [],ρ=>some (.nx ρ)
 | d::ds,ρ=>(gt d ρ).bind fun ρ1=>(fb ρ1).bind fun
   | .nx ρ2=>forM gt fb ds ρ2
   | .ct ρ2=>forM gt fb ds ρ2
   | .bk ρ2=>some (.nx ρ2)
   | .rt d=>some (.rt d)
def sFor(gl:Ro->Option (List D))(gt:D->Ro->Option Ro)(fb:Ro->Option Out):Ro->Option Out:=fun ρ=>(gl ρ).bind fun ds=>forM gt fb ds ρ
theorem Yes{gt:D->Ro->Option Ro}{fb:Ro->Option Out}:∀(ds:List D) (ρ:Ro) (out:Out),forM gt fb ds ρ=some out->(∃ρ',out=.nx ρ')\/∃d,out=.rt d
 | [],ρ,out,h=>by cases h;exact .inl ⟨_,rfl⟩
 | d::ds,ρ,out,h=>by
   rw[forM]at h
   obtain⟨ρ1,h1,h⟩:=qa h
   obtain⟨o,h2,h⟩:=qa h
   cases o with
   | nx ρ2=>exact Yes ds ρ2 out h
   | ct ρ2=>exact Yes ds ρ2 out h
   | bk ρ2=>cases h;exact .inl ⟨_,rfl⟩
   | rt d=>cases h;exact .inr ⟨_,rfl⟩
theorem y2i{iter:Expr}{body:List Stmt}{gt:D->Ro->Option Ro}(hp:PassesOwn (model X.prog X.w) X.A X.env X.xe)(hc:X.calm=true)(hi:MI X tg iter gl)(hg:MG X tg gt)(hb:MB X body fs)
 (hs:∀x,foldedSetIterable iter X.env x=pure x:=by intro _;rfl):MS X (.For tg iter body [] pos) (sFor gl gt fs):=
 PS.imp (y0z hp hc hi hg hb hs) fun F σ H hx_=>by
  obtain⟨ρ,out,H0,G0,G,e,s,h⟩:=hx_
  unfold sFor at e
  obtain⟨ds,h1,h2⟩:=qa e
  refine⟨ρ,ds,H0,G0,G,h1,s,fun J H1 G1 g1 wk=>?_⟩
  obtain⟨Hb,sb,back⟩:=(s.grow g1).rebase
  have hout:=Yes ds ρ out h2
  refine⟨fun i m σ' H'=>m=ds.length - i/\i<=ds.length/\∃ρ' G',SR X.K Hb G1 σ' H' G' ρ'/\forM gt fs (ds.drop i) ρ'=some out,⟨_,rfl,Nat.zero_le _,ρ,G1,sb,h2⟩,?_⟩
  rintro i m σ' H' ⟨rfl,hi,ρ',G',s',e'⟩
  have W:=wk.2 i H' G' s'.gr.g s'.seen
  by_cases hlt:i < ds.length
  ·have hd:ds[i]?=some ds[i]:=qp hlt
   obtain⟨go,yl⟩:=W.1 _ hd
   rw[List.drop_eq_getElem_cons hlt,forM]at e'
   obtain⟨ρ1,e1,e'⟩:=qa e'
   obtain⟨o,e2,e'⟩:=qa e'
   refine .inr ⟨go,fun σ' H'=>i+1<=ds.length/\∃ρ' G',SR X.K Hb G1 σ' H' G' ρ'/\forM gt fs (ds.drop (i+1)) ρ'=some out,fun σ2 H2 q=>⟨ds.length - (i+1),by lia,rfl,q.1,q.2⟩,fun x H2 y=>?_⟩
   obtain⟨G2,g2,r2⟩:=yl x H2 y
   refine⟨_,ρ',ρ1,Hb,G1,G2,e1,s'.grow g2,r2,fun σ3 s3=>?_⟩
   refine⟨ρ1,o,Hb,G1,G2,e2,s3,?_⟩
   cases o with
   | nx ρ2=>exact fun σ4 H4 G4 s4=>⟨hlt,ρ2,G4,s4,e'⟩
   | ct ρ2=>exact fun σ4 H4 G4 s4=>⟨hlt,ρ2,G4,s4,e'⟩
   | bk ρ2=>
     cases e'
     exact fun σ4 H4 G4 s4=>h σ4 H4 G4 (back _ _ _ _ s4)
   | rt d=>
     cases e'
     refine fun v H4 G4 g4 r4=>h v H4 G4 ?_ r4
     have:=(back [] H4 G4 [] (SR.mkSh g4 rfl (fun i d e=>(by simp at e)) (fun i l e=>(by simp at e)) (fun i t ks vs e=>(by simp at e)))).gr
     exact this
  ·have ei:i=ds.length:=by lia
   subst ei
   rw[List.drop_length,forM]at e'
   cases e'
   exact .inl ⟨W.2 (qt _),h σ' H' G' (back _ _ _ _ s')⟩
def capR(src:List (Option Nat))(ρ:Ro):Ro:=src.map fun o=>o.bind fun j=>match ρ[j]? with
 | some (some (B.sh d))=>some (.sh d)
 | _=>none
theorem SR.cap{H0 G0 H G:Hp}{σ:L2.St}{ρ:Ro}(s:SR K H0 G0 σ H G ρ)(src:List (Option Nat)):SR K H G (capσ src σ) H G (capR src ρ):=by
 have noow:∀(i:Nat) l,(capR src ρ)[i]?≠some (some (B.ow l)):=fun i l h=>by
  unfold capR at h
  rw[Qg]at h
  obtain⟨o,h1,h2⟩:=qb h
  obtain⟨j,rfl,h3⟩:=qa h2
  split at h3<;>cases h3
 have nood:∀(i:Nat) t ks vs,(capR src ρ)[i]?≠some (some (B.od t ks vs)):=fun i t ks vs h=>by
  unfold capR at h
  rw[Qg]at h
  obtain⟨o,h1,h2⟩:=qb h
  obtain⟨j,rfl,h3⟩:=qa h2
  split at h3<;>cases h3
 refine SR.mkSh (.refl s.seen) (by simp[capσ,capR]) (fun i d h=>?_) noow nood
 unfold capR at h
 rw[Qg]at h
 obtain⟨o,h1,h2⟩:=qb h
 obtain⟨j,rfl,h3⟩:=qa h2
 split at h3
 ·rename_i d' hd
  cases h3
  obtain⟨v,q1,q2⟩:=s.sh j _ hd
  refine⟨v,?_,q2⟩
  unfold capσ
  rw[Qg,h1]
  show some ((σ[j]?).join)=some (some v)
  rw[q1]
  rfl
 ·cases h3
def Ygm(gt:D->Ro->Option Ro)(fc:Ro->Option Bool)(fe:Ro->Option D)(ρ:Ro):List D->Option (List D)
 | []=>some []
 | d::ds=>(gt d ρ).bind fun ρ1=>(fc ρ1).bind fun k=>if k=true then (fe ρ1).bind fun v=>(Ygm gt fc fe ρ ds).map (v::·)else Ygm gt fc fe ρ ds
def Ya0(gl:Ro->Option (List D))(src:List (Option Nat))(gt:D->Ro->Option Ro)(fc:Ro->Option Bool)(fe:Ro->Option D):Ro->Option (List D):=fun ρ=>(gl ρ).bind fun ds=>Ygm gt fc fe (capR src ρ) ds
def tY:Ro->Option Bool:=fun _=>some true
theorem Yys{σ:L2.St}{H:Hp}{Q:Bool->Hp->Prop}(h:tTof K tY σ H Q):tYes σ H Q:=by
 obtain⟨ρ,k,H0,G0,G,e,s,h⟩:=h
 cases e
 exact h H G (.refl s.seen)
theorem y2j:PIfs X [] (tTof X.K tY):=fun pins s σ H Q I h=>Yx4 pins s σ H Q I (Yys h)
theorem Yae{src:List (Option Nat)}{i:Nat}(h:src[i]?=some none):∀ρ d ρ1,gSet i d (capR src ρ)=some ρ1->Le (capR src ρ) ρ1:=fun ρ d ρ1 e=>by
 cases e
 refine⟨by simp,fun j b hb=>?_⟩
 by_cases hj:j=i
 ·subst hj
  unfold capR at hb
  rw[Qg,h]at hb
  cases hb
 ·rw[Qd (Ne.symm hj)];exact hb
theorem Yvj{src:List (Option Nat)}{i k:Nat}(h:src[i]?=some none)(h':src[k]?=some none):∀ρ d ρ1,Ykr i k d (capR src ρ)=some ρ1->Le (capR src ρ) ρ1:=fun ρ d ρ1 e=>by
 unfold Ykr at e
 split at e
 ·cases e
  refine⟨by simp,fun j b hb=>?_⟩
  have ne:∀n,src[n]?=some none->j≠n:=fun n hn z=>by
   subst z
   unfold capR at hb
   rw[Qg,hn]at hb
   cases hb
  rw[Qd (Ne.symm (ne k h')),Qd (Ne.symm (ne i h))];exact hb
 ·cases e
theorem Yr7{src:List (Option Nat)}{gt:D->Ro->Option Ro}{fc:Ro->Option Bool}{fe:Ro->Option D}(hle:∀ρ d ρ1,gt d (capR src ρ)=some ρ1->Le (capR src ρ) ρ1){σ:L2.St}{H:Hp}{Q:VK}
 (h:tFof K (Ya0 gl src gt fc fe) σ H Q):tLC (tIof K gl) src (gOf K gt) (tTof K fc) (tOf K fe) σ H Q:=by
 obtain⟨ρ,l,H0,G0,G,e,s,h⟩:=h
 unfold Ya0 at e
 obtain⟨ds,h1,h2⟩:=qa e
 refine⟨ρ,ds,H0,G0,G,h1,s,fun J H1 G1 g1 wk p hp=>?_⟩
 have s1:=s.grow g1
 have sc:=s1.cap src
 have gp:G1 p=none:=s1.seen.free hp
 refine⟨fun i m σ' H'=>m=ds.length - i/\i<=ds.length/\∃G' done xs rest,SR K H1 G1 σ' H' G' (capR src ρ)/\H' p=some (.lst xs)/\G' p=none/\RpL K G' done xs/\xs.length<=i/\Ygm gt fc fe (capR src ρ) (ds.drop i)=some rest/\done++rest=l,
  ⟨_,rfl,Nat.zero_le _,G1,[],[],l,sc.grow (Gr.hid s1.seen hp _),Yt,gp,.nil,Nat.zero_le _,h2,rfl⟩,?_⟩
 rintro i m σ' H' ⟨rfl,hi,G',done,xs,rest,s',hx,gx,rx,hl,e',hd⟩
 have W:=wk.2 i H' G' s'.gr.g s'.seen
 by_cases hlt:i < ds.length
 ·have hdi:ds[i]?=some ds[i]:=qp hlt
  obtain⟨go,yl⟩:=W.1 _ hdi
  rw[List.drop_eq_getElem_cons hlt,Ygm]at e'
  obtain⟨ρ1,e1,e'⟩:=qa e'
  obtain⟨k,e2,e'⟩:=qa e'
  refine .inr ⟨go,fun x H2 y=>?_⟩
  obtain⟨G2,g2,r2⟩:=yl x H2 y
  have keep:∀{Ha Ga Hb Gb:Hp},Gr Ha Ga Hb Gb->Ha p=some (.lst xs)->Ga p=none->Hb p=some (.lst xs)/\Gb p=none:=fun {Ha Ga Hb Gb} g e1 e2=>by
   refine⟨g.h _ _ e1,?_⟩
   cases q:Gb p with
   | none=>rfl
   | some o=>
     have:=g.n p e2 (by rw[q];exact fun z=>nomatch z)
     rw[e1]at this
     cases this
  obtain⟨hx2,gx2⟩:=keep g2 hx gx
  refine⟨_,capR src ρ,ρ1,H1,G1,G2,e1,s'.grow g2,r2,fun σ3 s3=>?_⟩
  refine tTof.at e2 s3 fun H4 G4 g4 s4=>?_
  obtain⟨hx4,gx4⟩:=keep g4 hx2 gx2
  have le:=hle ρ _ ρ1 e1
  cases k with
  | false=>
    rw[if_neg qh]at e' ⊢
    exact⟨ds.length - (i+1),by lia,rfl,hlt,G4,done,xs,rest,s4.le le,hx4,gx4,(rx.mono g2.g).mono g4.g,by lia,e',hd⟩
  | true=>
    rw[if_pos rfl]at e' ⊢
    obtain⟨v,e3,e'⟩:=qa e'
    obtain⟨rest',e4,rfl⟩:=qb e'
    refine tOf.at e3 s4 fun w H5 G5 g5 r5 s5=>?_
    obtain⟨hx5,gx5⟩:=keep g5 hx4 gx4
    have hz:=wk.1
    refine⟨xs,hx5,by lia,ds.length - (i+1),by lia,rfl,hlt,G5,done++[v],xs++[w],rest',?_,Yt,gx5,(((rx.mono g2.g).mono g4.g).mono g5.g).append (.one r5),by simp;lia,e4,by simpa using hd⟩
    have s6:=s5.le le
    have noow:∀(i:Nat) l,(capR src ρ)[i]?≠some (some (B.ow l)):=fun i l h=>by
     unfold capR at h
     rw[Qg]at h
     obtain⟨o,h1,h2⟩:=qb h
     obtain⟨j,rfl,h3⟩:=qa h2
     split at h3<;>cases h3
    have nood:∀(i:Nat) t ks vs,(capR src ρ)[i]?≠some (some (B.od t ks vs)):=fun i t ks vs h=>by
     unfold capR at h
     rw[Qg]at h
     obtain⟨o,h1,h2⟩:=qb h
     obtain⟨j,rfl,h3⟩:=qa h2
     split at h3<;>cases h3
    refine SR.mkSh ⟨fun b o q=>?_,s6.gr.g,fun b o q=>?_,s6.gr.n⟩ s6.len s6.sh noow nood
    ·rw[Yv (Ys q hp)];exact s6.gr.h b o q
    ·rw[Yv (Ys q gx5)];exact s6.gr.s b o q
 ·have ei:i=ds.length:=by lia
  subst ei
  rw[List.drop_length,Ygm]at e'
  cases e'
  rw[List.append_nil]at hd
  subst hd
  exact .inl ⟨W.2 (qt _),h p xs H' G' (g1.trans s'.gr) (g1.h.free hp) gx hx rx⟩
section
variable {elt iter:Expr} {ifs:List Expr} {scope:Scope} {N:List Str} {src:List (Option Nat)} {gt:D->Ro->Option Ro} {fc:Ro->Option Bool} {fe:Ro->Option D}
theorem Yyt(S:CompSc X.N X.env.scope N src scope)(hc:X.calm=true)(hit:MI X tg iter gl)(hg:∀cl C fp s H,MG (Yak X scope N cl C fp s H) tg gt)(hi:∀cl C fp s H,PIfs (Yak X scope N cl C fp s H) ifs (tTof X.K fc))(he:∀cl C fp s H,ME (Yak X scope N cl C fp s H) elt fe)
 (hle:∀ρ d ρ1,gt d (capR src ρ)=some ρ1->Le (capR src ρ) ρ1) (hs:∀x,foldedSetIterable iter X.env x=pure x:=by intro _;rfl):MF X (.ListComp elt [⟨tg,iter,ifs,0⟩] scope pos) (Ya0 gl src gt fc fe):=
 PE.imp (Yx6 S hc hit hg hi he hs) fun _ _ _ h=>Yr7 hle h
theorem Yyu(i:Nat){y:Str}{py spos:Pos}(hN:X.N.Nodup)(S:CompSc X.N X.env.scope N src scope)(hc:X.calm=true)(hit:MI X tg iter gl)(hg:∀cl C fp s H,MG (Yak X scope N cl C fp s H) tg gt)(hi:∀cl C fp s H,PIfs (Yak X scope N cl C fp s H) ifs (tTof X.K fc))(he:∀cl C fp s H,ME (Yak X scope N cl C fp s H) elt fe)
 (hle:∀ρ d ρ1,gt d (capR src ρ)=some ρ1->Le (capR src ρ) ρ1) (hsw:swapsWith (.ListComp elt [⟨tg,iter,ifs,0⟩] scope pos) (some (.Name y py)) spos.line X.env=pure true:=by rfl) (hy:X.N[i]?=some y:=by rfl) (hx:Loc X.env.scope y:=by first | exact Or.inl rfl | exact Or.inr rfl)
 (hf:X.fn y=true\/X.env.scope.names.lookup y=some .local:=by first | exact .inl rfl | exact .inr rfl) (hs:∀x,foldedSetIterable iter X.env x=pure x:=by intro _;rfl):MS X (.Assign [.Name y py] (.ListComp elt [⟨tg,iter,ifs,0⟩] scope pos) spos) (sOwn i (Ya0 gl src gt fc fe)):=
 PS.imp (Yx7 S hc hit hg hi he hN hy hx hsw hf hs) fun F σ H h=>by
  obtain⟨ρ,out,H0,G0,G,e,s,h⟩:=h
  obtain⟨l,h1,rfl⟩:=qb e
  exact Yr7 hle ⟨ρ,l,H0,G0,G,h1,s,fun p xs H' G' g hp gp e' r=>h _ H' G' (s.set_ow i g hp gp e' r)⟩
end
def Yq(n:Nat)(ds:List D):Ro:=ds.map (fun d=>some (.sh d))++List.replicate (n - ds.length) none
def runB(k n:Nat)(fb:Ro->Option Out)(ds:List D):Option D:=if ds.length=k then (fb (Yq n ds)).bind fun
 | .rt d=>some d
 | .nx _=>some .non
 | _=>none
 else none
theorem SR.start{H G:Hp}{ds:List D}{vs:List V}{N:List Str}(s:Same G H)(r:RpL K G ds vs):SR K H G (start N vs) H G (Yq N.length ds):=by
 have hl:=r.length
 have noow:∀(i:Nat) l,(Yq N.length ds)[i]?≠some (some (B.ow l)):=fun i l h=>by
  unfold Yq at h
  rw[List.getElem?_append]at h
  split at h
  ·rw[Qg]at h
   obtain⟨d,_,h2⟩:=qb h
   cases h2
  ·rw[List.getElem?_replicate]at h
   split at h<;>cases h
 have nood:∀(i:Nat) t ks vs,(Yq N.length ds)[i]?≠some (some (B.od t ks vs)):=fun i t ks vs h=>by
  unfold Yq at h
  rw[List.getElem?_append]at h
  split at h
  ·rw[Qg]at h
   obtain⟨d,_,h2⟩:=qb h
   cases h2
  ·rw[List.getElem?_replicate]at h
   split at h<;>cases h
 refine SR.mkSh (.refl s) (by simp[L2.start,Yq,hl]) (fun i d h=>?_) noow nood
 unfold Yq at h
 rw[List.getElem?_append]at h
 split at h
 ·rename_i hi
  rw[Qg]at h
  obtain⟨d',h1,h2⟩:=qb h
  cases h2
  obtain⟨v,h3,h4⟩:=r.get h1
  refine⟨v,?_,h4⟩
  unfold L2.start
  rw[List.getElem?_append_left (by rw[qe,hl];simpa using hi),Qg,h3]
  rfl
 ·rw[List.getElem?_replicate]at h
  split at h<;>cases h
section
variable {P:Program} {w:World} {mg:Str->Option Value} {base:Heap}
theorem Yr8{x qual:Str}{st:Stmt}{f:Addr}{fd:FuncData}{N ps:List Str}{k n m:Nat}{fb:Ro->Option Out}(F:Fun K x qual st f fd)(S:FnScope N ps (defScope st))(hn:N.length=n)(hm:ps.length=m)
 (hb:∀(cdv:Value) (A:Around) (outer:List Env) (s:Shared) (H:Hp) (E:XK),Room k (A.deeper (envOfC qual (defScope st) s.heap.objs.size f cdv))->MB (cxOf CX0 P w K mg base N qual (defScope st) f cdv A outer s H E).nox (defBody st) fb) :
 FnOk P w K mg base CX0 (k+1) f fd ps (spOf K m (runB m n fb)):=by
 refine F.ok S (fun vs H Q E h=>by rw[h.1,hm]) fun cdv A outer s H vs Q E hr h=>?_
 obtain⟨hl,ds,d,G,sm,r,e,q⟩:=h
 refine⟨_,hb cdv A outer s H E hr,?_⟩
 unfold runB at e
 split at e
 ·rename_i hds
  obtain⟨o,h1,h2⟩:=qa e
  refine⟨Yq n ds,o,H,G,G,h1,by rw[<-hn];exact SR.start sm r,?_⟩
  cases o with
  | rt d'=>cases h2;exact fun v H' G' g r'=>q v H' G' g r'
  | nx ρ=>cases h2;exact fun σ' H' G' s'=>q .non H' G' s'.gr (by rw[Rp])
  | bk ρ=>cases h2
  | ct ρ=>cases h2
 ·cases e
end
end
end
section
variable {K:W.Frag}
def Okf(P:Program)(w:World)(K:W.Frag)(mg:Str->Option Value)(base:Heap)(k n:Nat)(x:Str)(ps:List Str)(fn:List D->Option D):Prop:=
 ∃a fd,FnOk P w K mg base CX0 k a fd ps (spOf K n fn)/\Binds K fd ps []/\W.keepIn K (.ref a)=true/\mg x=some (.ref a)
theorem y2k{P:Program}{w:World}{K:W.Frag}{mg:Str->Option Value}{base:Heap}{k n:Nat}{x q:Str}{ps:List Str}{fn:List D->Option D}{st:Stmt}{a:Addr}{fd:FuncData}(F:Fun K x q st a fd)(b:Binds K fd ps [])
 (hm:mg x=some (.ref a)) (h:FnOk P w K mg base CX0 k a fd ps (spOf K n fn)):Okf P w K mg base k n x ps fn:=⟨a,fd,h,b,F.kp,hm⟩
section
variable {X:Cx} {a b e:Expr} {es:List Expr} {fa fb:Ro->Option D} {ga:Ro->Option (List D)} {pos:Pos}
theorem Yvk{j k n:Nat}{x:Str}{p:Pos}{ps:List Str}{fn:List D->Option D}(c:Okf X.prog X.w X.K X.mg X.base j n x ps fn)(hr:Room k X.A)(hg:Gl X x)(ha:MA X (e::es) ga)(hl:∀ρ l,ga ρ=some l->l.length=n)
 (hj:j<=k:=by first | exact qt _ | lia) (hdb:(x==("__debug__":Str))=false:=by decide) (he:starEach (e::es) X.env=(false,eval e X.env)::starEach es X.env:=by rfl) (hpl:(backTo pos (starEach es X.env)).any (·.1)=false:=by rfl) :
 ME X (.Call (.Name x p) (e::es) [] pos) (cC ga fn):=by
 obtain⟨a,fd,F,hb,hk,hm⟩:=c
 exact Yyn F (hr.mono hj) hg hm hk hb ha hdb he hpl hl
theorem y2l(ha:MC X a fa)(hb:MC X b fb):ME X (.BinOp a .Add b pos) (b2 fa fb addI):=Yj1 y00 Yrv ha hb
def negI:D->Option D
 | .int i=>some (.int (-i))
 | _=>none
theorem y2m(ha:MC X a fa):ME X (.UnaryOp .USub a pos) (b1 fa negI):=PE.imp (y3t y05 ha) fun σ H Q hx_=>by
 obtain⟨ρ,d,H0,G0,G,e,s,h⟩:=hx_
 obtain⟨x,h1,h2⟩:=Ybm e
 refine tCof.at h1 s fun v H1 G1 g1 r1 s1=>?_
 cases x<;>simp[negI]at h2
 subst h2
 rw[Ct]at r1
 exact⟨_,r1,h _ H1 G1 g1 (by rw[Rp])⟩
def catD:D->D->Option (List D)
 | .lst a,.lst b=>if a.length+b.length<=cap6 then some (a++b)else none
 | _,_=>none
def y4g:R2:=fun x y H Q=>∃l b xs zs,x=.ref l/\y=.ref b/\Rd H l (.lst xs)/\Rd H b (.lst zs)/\xs.length+zs.length<=sizeLine/\∀p,H p=none->Q (.ref p) (upd H p (.lst (xs++zs)))
theorem Yyv:OpR X (binaryOp .Add) y4g:=by
 intro pins s σ H x y v u Q I rx ry h
 obtain⟨l,b,xs,zs,rfl,rfl,hH,hB,hz,q⟩:=h
 cases rx
 cases ry
 obtain⟨z,its,n,r,e⟩:=hH.ok I.hok
 obtain⟨z2,its2,n2,r2,e2⟩:=hB.ok I.hok
 have hl:=r.length
 have hl2:=r2.length
 refine PySem.P.add_list e e2 ?_ (by rw[qj,qj];lia)
 have ea:its.toArray++its2.toArray=(its++its2).toArray:=by simp
 rw[ea]
 exact⟨.ref _,_,I.lnew (t':=s.toks) (r.append r2) (by rw[qx];lia),rfl,q _ I.fresh⟩
theorem y2n(ha:MC X a fa)(hb:MC X b fb):MF X (.BinOp a .Add b pos) (b2 fa fb catD):=PE.imp (Yxr Yyv ha hb) fun σ H Q hx_=>by
 obtain⟨ρ,l,H0,G0,G,e,s,h⟩:=hx_
 obtain⟨dx,dy,h1,h2,h3⟩:=Yhl e
 refine tCof.at h1 s fun v H1 G1 g1 r1 s1=>tCof.at h2 s1 fun u H2 G2 g2 r2 s2=>?_
 unfold catD at h3
 split at h3
 ·rename_i l1 l2
  split at h3
  ·rename_i hz
   cases h3
   have r1':=r1.grow g2
   rw[Ct]at r1' r2
   obtain⟨p,xs,rfl,gp,rl⟩:=r1'
   obtain⟨q,zs,rfl,gq,rm⟩:=r2
   refine⟨p,q,xs,zs,rfl,rfl,gp,gq,by rw[rl.length,rm.length];exact Ydo hz,fun m hm=>?_⟩
   exact h m _ _ G2 ((g1.trans g2).trans (.hid s2.seen hm _)) (g1.h.free (g2.h.free hm)) (s2.seen.free hm) Yt (rl.append rm)
  ·cases h3
 ·cases h3
def Ye7:D->String
 | .non=>"NoneType"
 | .bl _=>"bool"
 | .int _=>"int"
 | .str _=>"str"
 | .tup _=>"tuple"
 | .lst _=>"list"
 | .scr _=>"list"
 | .dct _ _ _=>"dict"
 | .obj _ _ _=>"dict"
 | .adr _=>"dict"
def Yvl:D->Bool
 | .scr _=>false
 | .dct _ _ _=>false
 | .obj _ _ _=>false
 | .adr _=>false
 | _=>true
def isiD(T:String)(d:D):Option Bool:=if Yvl d=true then some (Ye7 d==T||(T=="int"&&Ye7 d=="bool"))else none
theorem Yyw{G H:Hp}{d:D}{v:V}(hn:Yvl d=true)(r:Ct K G H d v):TyOf K H v (.type (Ye7 d)):=by
 cases d<;>rw[Ct]at r
 ·subst r;exact .non
 ·subst r;exact .bl _
 ·subst r;exact .int _
 ·obtain⟨rfl,_⟩:=r;exact .str _
 ·obtain⟨a,xs,rfl,g,_⟩:=r;exact .tup g.1
 ·obtain⟨a,xs,rfl,g,_⟩:=r
  rcases g with g | ⟨o,g⟩
  ·exact .lst g
  ·exact .frz g
 ·cases hn
 ·cases hn
 ·cases hn
 ·cases hn
def Kit(T:String):Prop:=∀(K:W.Frag) (d:D),W.kitOne K (.type (Ye7 d)) (.type T)=some (Ye7 d==T||(T=="int"&&Ye7 d=="bool"))
theorem Yr9:Kit "int":=fun K d=>by cases d<;>rfl
theorem Ypq:Kit "bool":=fun K d=>by cases d<;>rfl
theorem Yyx:Kit "str":=fun K d=>by cases d<;>rfl
theorem Yma:Kit "tuple":=fun K d=>by cases d<;>rfl
theorem Yvm{T:String}(hk:Kit T):Yb5 X (.builtin "isinstance") (fun xs H Q=>∃x d G,xs=[x,.ty T]/\Yvl d=true/\Ct X.K G H d x/\Q (.bl (Ye7 d==T||(T=="int"&&Ye7 d=="bool"))) H):=by
 intro pins s σ H xs us Q I r h
 obtain⟨x,d,G,rfl,hn,rx,q⟩:=h
 obtain⟨u,w',rfl,r1,r2⟩:=Ynx r
 cases (show w'=Value.type T from r2)
 exact Yrm I r1 (Yyw hn rx) (hk X.K d) fun tk=>⟨.bl _,H,I.tok tk,rfl,q⟩
theorem y2o{T:String}{tn:Str}{p p2:Pos}(ha:MC X a fa)(hg:Gl X "isinstance")(hg2:Gl X tn)(hm:X.mg "isinstance"=none)(hm2:X.mg tn=none)(hv2:bootBuiltins tn=some (.type T))(hk:Kit T)(hv:bootBuiltins "isinstance"=some (.builtin "isinstance"):=by decide +kernel)
 (hn2:tn≠"__name__":=by decide) (hd2:(tn==("__debug__":Str))=false:=by decide)
 (hs:starEach [a,.Name tn p2] X.env=(false,eval a X.env)::starEach [.Name tn p2] X.env:=by rfl) (hs2:starEach [.Name tn p2] X.env=(false,eval (.Name tn p2) X.env)::starEach [] X.env:=by rfl) (hpl:(backTo pos (starEach [.Name tn p2] X.env)).any (·.1)=false:=by rfl) :
 ME X (.Call (.Name "isinstance" p) [a,.Name tn p2] [] pos) (mB (b1 fa (isiD T))):=
 PE.imp (Yc3 (Yvm hk) hg hm hv (Ybd ha (Ybd (Yre hg2 hm2 hv2 (v:=.ty T) rfl hn2 hd2) Yeb hs2) hs) (by decide) (by decide) hs hpl) fun σ H Q hx_=>by
  obtain⟨ρ,d,H0,G0,G,e,s,h⟩:=hx_
  obtain⟨k,ek,rfl⟩:=Yn2 e
  obtain⟨x,h1,h2⟩:=Ybm ek
  unfold isiD at h2
  split at h2
  ·cases h2
   exact tCof.at h1 s fun v H1 G1 g1 r1 s1=>⟨v,x,G1,rfl,by assumption,r1,h _ H1 G1 g1 (by rw[Rp])⟩
  ·cases h2
end
end
section
variable {K:W.Frag}
def insI(a:Int):List Int->List Int
 | []=>[a]
 | b::l=>if a<=b then a::b::l else b::insI a l
def Yn3:List Int->List Int
 | []=>[]
 | a::l=>insI a (Yn3 l)
theorem Yhs(a:Int):∀l:List Int,(insI a l).Perm (a::l)
 | []=>.refl _
 | b::l=>by
   rw[insI]
   split
   ·exact .refl _
   ·exact((Yhs a l).cons b).trans (.swap a b l)
theorem Yfp:∀l:List Int,(Yn3 l).Perm l
 | []=>.refl _
 | a::l=>(Yhs a _).trans ((Yfp l).cons a)
theorem Yht(a:Int):∀l:List Int,l.Pairwise (·<=·)->(insI a l).Pairwise (·<=·)
 | [],_=>by simp[insI]
 | b::l,h=>by
   rw[insI]
   split
   ·rename_i hab
    refine List.pairwise_cons.mpr ⟨fun x hx=>?_,h⟩
    rcases qr hx with rfl | hx
    ·exact hab
    ·exact Int.le_trans hab ((List.pairwise_cons.mp h).1 x hx)
   ·rename_i hab
    refine List.pairwise_cons.mpr ⟨fun x hx=>?_,Yht a l (List.pairwise_cons.mp h).2⟩
    rcases qr ((Yhs a l).mem_iff.mp hx)with rfl | hx
    ·lia
    ·exact(List.pairwise_cons.mp h).1 x hx
theorem Ygd:∀l:List Int,(Yn3 l).Pairwise (·<=·)
 | []=>.nil
 | a::l=>Yht a _ (Ygd l)
section
variable {prog:Program} {w:World} {A:Around} {E:Value->Shared->Prop} {s:Shared}
theorem Yqq{l:Addr}{vs:List Value}{Q:Value->Shared->Prop}(hl:s.heap.IsList l vs.toArray)(h2:vs.length < 2)
 (h:Q (.ref (s.heap.objs.size+1)) { s with heap:=sortedAll s.heap vs vs.toArray }):wpAny (model prog w) A (call (.builtin "sorted") [.ref l]) Q E s:=by
 refine Calls.call_function_entry kind_sorted plain_sorted entry_sorted (args_sorted1 _) ?_
 unfold Builtin.«sorted»
 refine wpAny_bind (m:=checkCount "sorted" 1 1 _) (wpAny_pure ?_)
 refine wpAny_bind (collect_list hl ?_ (by rw[sizeLine_eq];lia))
 refine wpAny_bind (wpAny_newList ?_ (by rw[sizeLine_eq];lia))
 have hsz:((s.heap.push (seqObj "list" #[] 0)).update s.heap.objs.size (Obj.mapSeq (·++vs.toArray))).objs.size=s.heap.objs.size+1:=by
  rw[Heap.size_update,size_push']
 have hoL:(((s.heap.push (seqObj "list" #[] 0)).update s.heap.objs.size (Obj.mapSeq (·++vs.toArray))).push (seqObj "list" vs.toArray 0)).get? (s.heap.objs.size+1)=some (seqObj "list" vs.toArray 0):=by
  rw[<-hsz];exact qo _ rfl
 show wpAny _ _ _ _ _ { s with heap:=((s.heap.push (seqObj "list" #[] 0)).update s.heap.objs.size (Obj.mapSeq (·++vs.toArray))).push (seqObj "list" vs.toArray 0) }
 rw[hsz]
 refine wpAny_bind (wpAny_holding (wpAny_call_entry slot_list_sort ⟨_,hoL,rfl⟩ entry_list_sort ?body (args_list_sort _)))
 case body=>
  rw[list_sort_plain]
  generalize hS:({ s with heap:=((s.heap.push (seqObj "list" #[] 0)).update s.heap.objs.size (Obj.mapSeq (·++vs.toArray))).push (seqObj "list" vs.toArray 0) }:Shared)=S at *
  have hoS:S.heap.get? (s.heap.objs.size+1)=some (seqObj "list" vs.toArray 0):=by rw[<-hS];exact hoL
  have ha:s.heap.objs.size+1 < S.heap.objs.size:=qk hoS
  refine wpAny_bind (listItems_at hoS rfl ?_)
  refine wpAny_bind (listUpdate_at hoS rfl ?_ (by rw[qj,sizeLine_eq];lia) (Nat.zero_le _))
  obtain⟨e1,ho1⟩:∃e1,(S.heap.update (s.heap.objs.size+1) (Obj.mapSeq fun _=>#[])).get? (s.heap.objs.size+1)=some (seqObj "list" #[] e1):=⟨_,get?_update_seq hoS (fun _=>#[])⟩
  refine wpAny_bind (seqEpoch_at ho1 rfl ?_)
  refine wpAny_bind (wpAny_newTuple ?_ (by show vs.length<=_;rw[sizeLine_eq];lia))
  refine wpAny_bind (wpAny_newList ?_ (Nat.zero_le _))
  refine wpAny_holding ?_
  have ho6:(((S.heap.update (s.heap.objs.size+1) (Obj.mapSeq fun _=>#[])).push (seqObj "tuple" vs.toArray 0)).push (seqObj "list" #[] 0)).get? (s.heap.objs.size+1)=some (seqObj "list" #[] e1):=by
   rw[Heap.get?_push_ne _ _ _ (by rw[size_push',Heap.size_update];exact ql (qv ha)),Heap.get?_push_ne _ _ _ (by rw[Heap.size_update];exact ql ha)]
   exact ho1
  show wpAny (model prog w) _ _ _ _ { S with heap:=((S.heap.update (s.heap.objs.size+1) (Obj.mapSeq fun _=>#[])).push (seqObj "tuple" vs.toArray 0)).push (seqObj "list" #[] 0) }
  dsimp only
  have hlt:vs.toArray.size < 2:=by rw[qj];exact h2
  rw[if_pos hlt,if_pos hlt]
  refine wpAny_bind (wpAny_pure ?_)
  rw[StateT.run_pure]
  refine wpAny_bind (wpAny_pure ?_)
  dsimp only
  refine wpAny_bind (seqEpoch_at ho6 rfl ?_)
  refine wpAny_bind (listUpdate_at ho6 rfl ?_ (hsz2:=by rw[Array.size_map];show(pairsOf vs).size<=_;rw[pairsOf_size,sizeLine_eq];lia))
  simp only[bne_self_eq_false,Bool.false_eq_true,if_false]
  have hout:(arrOf (SortSt.mk' general' (vs.toArray.zip vs.toArray) #[] 7 none)).map (·.2)=vs.toArray:=by
   show(vs.toArray.zip vs.toArray).map (·.2)=vs.toArray
   apply Array.toList_inj.mp
   simp[List.map_snd_zip]
  refine wpAny_pure ⟨_,rfl,wpAny_pure ⟨_,rfl,?_⟩⟩
  have hh:=h
  unfold sortedAll sortedHeap at hh
  rw[<-hS,hout]
  exact hh
def plt(j:Int)(q:Bool)(i:Int)(p:Bool):Bool:=if j=i then (!q&&p)else decide (j < i)
theorem Yyy{b c:Addr}{i j:Int}{p q:Bool}{t u:Tok}{R:Bool->Shared->Prop}(hb:IsTup s.heap b #[.int i t,.bool p])(hc:IsTup s.heap c #[.int j u,.bool q])(h:R (plt j q i p) s) :
 wpAny (model prog w) A (keyLt' (tuples' true) (.ref c) (.ref b)) R E s:=by
 obtain⟨ob,h1,_,n1,d1⟩:=hb
 obtain⟨oc,h2,_,n2,d2⟩:=hc
 refine W.kat_lt h2 d2 h1 d1 ?_
 show W.KatLex prog w A true false R [(.int j u,.int i t),(.bool q,.bool p)] 0 s
 unfold plt at h
 refine W.kat_cons (SeqAt.EqAt.int_int j u i t prog w _ _ (W.kat_go (fun e=>W.kat_yes (W.kat_cons (SeqAt.EqAt.bool_bool q p prog w _ _ (W.kat_go (fun e2=>W.kat_yes (W.kat_nil ?_)) fun e2=>W.kat_no (W.kat_one _ _ (lt_bool ?_)))))) fun e=>W.kat_no ?_))
 ·have e':j=i:=by simpa using e
  have e2':q=p:=by simpa using e2
  rw[if_pos e',e2']at h
  cases p<;>exact h
 ·have e':j=i:=by simpa using e
  rw[if_pos e']at h
  show R _ s
  cases p<;>cases q<;>first | exact h | simp at e2
 ·have e':¬j=i:=by simpa using e
  rw[if_neg e']at h
  exact oneLt_int h
theorem Yqr{cmp:Nat->Nat->(Bool->Shared->Prop)->Shared->Prop}{G:Array Nat->Shared->Prop}{S:Shared}(h:cmp 1 0 (fun k s'=>if k=true then G #[1,0] s' else G #[0,1] s') S):(W.kas_sort 2).kasWp cmp G S:=by
 show cmp 1 0 (fun k s'=>W.KasT.kasWp cmp _ G s') S
 have e:∀(k:Bool) (s':Shared),(if k=true then G #[1,0] s' else G #[0,1] s')=W.KasT.kasWp cmp (W.KasT.bind (W.KasT.bind (if k=true then W.KasT.ret 1 else W.kas_asc (List.toArray (List.range 2)) 0 2)
  fun n=>if (n==2)=true then W.KasT.ret (n,List.toArray (List.range 2))else if n > 1 then .ask ((List.toArray (List.range 2)).getD 0 0) ((List.toArray (List.range 2)).getD (n - 1) 0) fun c=>if c=true then .ret (n,List.toArray (List.range 2))else W.kas_descPart n 2 (W.kas_rev (List.toArray (List.range 2)) 0 n)
   else W.kas_descPart n 2 (List.toArray (List.range 2))) fun r=>if r.1 < 2 then W.kas_bin (2 - max r.1 1) r.2 (max r.1 1)else .ret r.2) G s':=fun k s'=>by cases k<;>rfl
 have e2:(fun(k:Bool) (s':Shared)=>if k=true then G #[1,0] s' else G #[0,1] s')=_:=funext fun k=>funext fun s'=>e k s'
 rw[e2]at h
 exact h
theorem Yqs{l b c:Addr}{i j:Int}{p q:Bool}{t u:Tok}{Q:Value->Shared->Prop}(hl:s.heap.IsList l #[.ref b,.ref c])(hb:IsTup s.heap b #[.int i t,.bool p])(hc:IsTup s.heap c #[.int j u,.bool q])
 (h:Q (.ref (s.heap.objs.size+1)) { s with heap:=sortedAll s.heap [.ref b,.ref c] (if plt j q i p=true then #[.ref c,.ref b]else #[.ref b,.ref c]) }):wpAny (model prog w) A (call (.builtin "sorted") [.ref l]) Q E s:=by
 generalize hvs:[Value.ref b,Value.ref c]=vs at *
 have hl':s.heap.IsList l vs.toArray:=hl
 have hlen:vs.length=2:=by rw[<-hvs];rfl
 refine Calls.call_function_entry kind_sorted plain_sorted entry_sorted (args_sorted1 _) ?_
 unfold Builtin.«sorted»
 refine wpAny_bind (m:=checkCount "sorted" 1 1 _) (wpAny_pure ?_)
 refine wpAny_bind (collect_list hl' ?_ (by rw[sizeLine_eq];lia))
 refine wpAny_bind (wpAny_newList ?_ (by rw[sizeLine_eq];lia))
 have hsz:((s.heap.push (seqObj "list" #[] 0)).update s.heap.objs.size (Obj.mapSeq (·++vs.toArray))).objs.size=s.heap.objs.size+1:=by
  rw[Heap.size_update,size_push']
 have hoL:(((s.heap.push (seqObj "list" #[] 0)).update s.heap.objs.size (Obj.mapSeq (·++vs.toArray))).push (seqObj "list" vs.toArray 0)).get? (s.heap.objs.size+1)=some (seqObj "list" vs.toArray 0):=by
  rw[<-hsz];exact qo _ rfl
 have keep0:∀b o,s.heap.get? b=some o->(((s.heap.push (seqObj "list" #[] 0)).update s.heap.objs.size (Obj.mapSeq (·++vs.toArray))).push (seqObj "list" vs.toArray 0)).get? b=some o:=fun b o q=>by
  have hlt:b < s.heap.objs.size:=qk q
  rw[Heap.get?_push_ne _ _ _ (by rw[hsz];exact ql (qv hlt)),Heap.get?_update_ne _ _ _ _ (ql hlt),Heap.get?_push_ne _ _ _ (ql hlt)]
  exact q
 show wpAny _ _ _ _ _ { s with heap:=((s.heap.push (seqObj "list" #[] 0)).update s.heap.objs.size (Obj.mapSeq (·++vs.toArray))).push (seqObj "list" vs.toArray 0) }
 rw[hsz]
 refine wpAny_bind (wpAny_holding (wpAny_call_entry slot_list_sort ⟨_,hoL,rfl⟩ entry_list_sort ?body (args_list_sort _)))
 case body=>
  rw[list_sort_plain]
  generalize hS:({ s with heap:=((s.heap.push (seqObj "list" #[] 0)).update s.heap.objs.size (Obj.mapSeq (·++vs.toArray))).push (seqObj "list" vs.toArray 0) }:Shared)=S at *
  have hoS:S.heap.get? (s.heap.objs.size+1)=some (seqObj "list" vs.toArray 0):=by rw[<-hS];exact hoL
  have keepS:∀b o,s.heap.get? b=some o->S.heap.get? b=some o:=by rw[<-hS];exact keep0
  have ha:s.heap.objs.size+1 < S.heap.objs.size:=qk hoS
  refine wpAny_bind (listItems_at hoS rfl ?_)
  refine wpAny_bind (listUpdate_at hoS rfl ?_ (by rw[qj,sizeLine_eq];lia) (Nat.zero_le _))
  obtain⟨e1,ho1⟩:∃e1,(S.heap.update (s.heap.objs.size+1) (Obj.mapSeq fun _=>#[])).get? (s.heap.objs.size+1)=some (seqObj "list" #[] e1):=⟨_,get?_update_seq hoS (fun _=>#[])⟩
  refine wpAny_bind (seqEpoch_at ho1 rfl ?_)
  refine wpAny_bind (wpAny_newTuple ?_ (by show vs.length<=_;rw[sizeLine_eq];lia))
  refine wpAny_bind (wpAny_newList ?_ (Nat.zero_le _))
  refine wpAny_holding ?_
  have ho6:(((S.heap.update (s.heap.objs.size+1) (Obj.mapSeq fun _=>#[])).push (seqObj "tuple" vs.toArray 0)).push (seqObj "list" #[] 0)).get? (s.heap.objs.size+1)=some (seqObj "list" #[] e1):=by
   rw[Heap.get?_push_ne _ _ _ (by rw[size_push',Heap.size_update];exact ql (qv ha)),Heap.get?_push_ne _ _ _ (by rw[Heap.size_update];exact ql ha)]
   exact ho1
  have keep6:∀b o,s.heap.get? b=some o->(((S.heap.update (s.heap.objs.size+1) (Obj.mapSeq fun _=>#[])).push (seqObj "tuple" vs.toArray 0)).push (seqObj "list" #[] 0)).get? b=some o:=fun b o q=>by
   have hlt:b < s.heap.objs.size:=qk q
   refine qd _ (qd _ ?_)
   rw[Heap.get?_update_ne _ _ _ _ (ql (qv hlt))]
   exact keepS b o q
  generalize hS6:({ S with heap:=((S.heap.update (s.heap.objs.size+1) (Obj.mapSeq fun _=>#[])).push (seqObj "tuple" vs.toArray 0)).push (seqObj "list" #[] 0) }:Shared)=S6
  have ho7:S6.heap.get? (s.heap.objs.size+1)=some (seqObj "list" #[] e1):=by rw[<-hS6];exact ho6
  have tb:IsTup S6.heap b #[.int i t,.bool p]:=by
   obtain⟨o,a1,a2⟩:=hb
   exact⟨o,by rw[<-hS6];exact keep6 b o a1,a2⟩
  have tc:IsTup S6.heap c #[.int j u,.bool q]:=by
   obtain⟨o,a1,a2⟩:=hc
   exact⟨o,by rw[<-hS6];exact keep6 c o a1,a2⟩
  dsimp only
  have hn2:¬vs.toArray.size < 2:=by rw[qj];lia
  rw[if_neg hn2,if_neg hn2]
  have kt:W.KatTups S6.heap vs [.int i t,.int j u]:=by
   obtain⟨ob,b1,b2,n1,b3⟩:=tb
   obtain⟨oc,c1,c2,n2,c3⟩:=tc
   rw[<-hvs]
   exact .cons b1 b2 b3 rfl (.cons c1 c2 c3 rfl .nil)
  refine wpAny_bind (W.kat_kind (T:=.type "int") kt (qv (qy 0)) (fun v hv=>?_) (by decide) ?_)
  ·rcases qr hv with rfl | hv
   ·exact .of_pure rfl
   ·rcases qr hv with rfl | hv
    ·exact .of_pure rfl
    ·cases hv
  have hcmp:wpAny (model prog w) A.in1.in1 (keyLt' (tuples' true) (vs.getD 1 Value.none) (vs.getD 0 Value.none)) (fun k s'=>k=plt j q i p/\s'=S6) (fun _ _=>False) S6:=by
   rw[<-hvs]
   exact Yyy tb tc ⟨rfl,rfl⟩
  refine wpAny_bind (wpAny_mono (W.kat_run (ks:=vs) (vs:=vs) (κ:=tuples' true) (G:=fun pm s'=>s'=S6/\pm=if plt j q i p=true then #[1,0]else #[0,1])
   (Q:=fun st' s'=>s'=S6/\failedOf st'=none/\(arrOf st').map (·.2)=if plt j q i p=true then #[.ref c,.ref b]else #[.ref b,.ref c]) rfl (by lia) (by lia) (fun pm st' s' a1 a2 a3 a4=>?_) ?_) ?_ fun _ _ e=>e)
  ·obtain⟨rfl,rfl⟩:=a4
   refine⟨rfl,a3,?_⟩
   rw[W.kat_snds rfl a2,<-hvs]
   cases plt j q i p<;>rfl
  ·rw[hlen]
   refine Yqr ?_
   refine wpAny_mono hcmp (fun k s' hk=>?_) fun _ _ x=>x
   obtain⟨rfl,rfl⟩:=hk
   cases plt j q i p
   ·exact⟨rfl,rfl⟩
   ·exact⟨rfl,rfl⟩
  rintro⟨⟨⟩,st'⟩ s' ⟨rfl,hf,hout⟩
  dsimp only
  refine wpAny_bind (seqEpoch_at ho7 rfl ?_)
  refine wpAny_bind (listUpdate_at ho7 rfl ?_ (Nat.zero_le _) (by rw[hout,sizeLine_eq];cases plt j q i p<;>exact(by decide:2<=16777216+1)))
  rw[hf]
  simp only[bne_self_eq_false,Bool.false_eq_true,if_false]
  refine wpAny_pure ⟨_,rfl,wpAny_pure ⟨_,rfl,?_⟩⟩
  have hh:=h
  unfold sortedAll sortedHeap at hh
  rw[<-hS6,<-hS,hout]
  subst hvs
  exact hh
end
def Ye8:List D->Option (List Int)
 | []=>some []
 | .int i::l=>(Ye8 l).map (i::·)
 | _=>none
def prI:D->Option (Int × Bool)
 | .tup [.int j,.bl q]=>some (j,q)
 | _=>none
def Yw4(e d:D):Option Bool:=(prI e).bind fun x=>(prI d).map fun y=>plt x.1 x.2 y.1 y.2
theorem Yfq{α:Type}{x:α}{P:Prop}(h:none=some x):P:=by cases h
theorem Yks{d:D}{x:Int × Bool}(h:prI d=some x):d=.tup [.int x.1,.bl x.2]:=by
 cases d with
 | tup l=>cases l with
   | nil=>exact Yfq h
   | cons a l=>cases a with
     | int j=>cases l with
       | nil=>exact Yfq h
       | cons b l=>cases b with
         | bl q=>cases l with
           | nil=>exact Option.some.inj h ▸ rfl
           | cons _ _=>exact Yfq h
         | _=>exact Yfq h
     | _=>exact Yfq h
 | _=>exact Yfq h
def y2p(l:List D):Option (List D):=match Ye8 l with
 | some ns=>if ns.length < 64 then some ((Yn3 ns).map D.int)else none
 | none=>match l with
   | [d]=>some [d]
   | [d,e]=>(Yw4 e d).map fun k=>if k=true then [e,d]else [d,e]
   | _=>none
def Yvn:List D->Option (List D)
 | [.lst l]=>y2p l
 | _=>none
theorem Yfr:∀{l:List D} {ns:List Int},Ye8 l=some ns->l=ns.map D.int
 | [],ns,h=>by cases h;rfl
 | .int i::l,ns,h=>by
   rw[Ye8]at h
   obtain⟨m,h1,rfl⟩:=qb h
   rw[Yfr h1]
   rfl
 | .non::l,ns,h=>by simp[Ye8]at h
 | .bl _::l,ns,h=>by simp[Ye8]at h
 | .str _::l,ns,h=>by simp[Ye8]at h
 | .tup _::l,ns,h=>by simp[Ye8]at h
 | .lst _::l,ns,h=>by simp[Ye8]at h
 | .scr _::l,ns,h=>by simp[Ye8]at h
 | .dct _ _ _::l,ns,h=>by simp[Ye8]at h
 | .obj _ _ _::l,ns,h=>by simp[Ye8]at h
 | .adr _::l,ns,h=>by simp[Ye8]at h
theorem Ykt{G:Hp}:∀{ns:List Int} {xs:List V},RpL K G (ns.map D.int) xs->xs=ns.map V.int
 | [],xs,h=>by rw[List.map_nil,RpL]at h;exact h
 | n::ns,xs,h=>by
   rw[Qb,RpL]at h
   obtain⟨x,r,rfl,h1,h2⟩:=h
   rw[Rp]at h1
   rw[h1,Ykt h2]
   rfl
def Ysa(H:Hp)(x:V)(i:Int)(p:Bool):Prop:=∃a,x=.ref a/\H a=some (.tup [.int i,.bl p])
def y2q:List V->Hp->VK->Prop:=fun vs H Q=>∃a xs,vs=[.ref a]/\Rd H a (.lst xs)/\
 ((∃ns:List Int,xs=ns.map V.int/\ns.length < 64/\∀p,H p=none->Q (.ref p) (upd H p (.lst ((Yn3 ns).map V.int))))\/
  (xs.length < 2/\∀p,H p=none->Q (.ref p) (upd H p (.lst xs)))\/
  (∃x y i p j q,xs=[x,y]/\Ysa H x i p/\Ysa H y j q/\∀r,H r=none->Q (.ref r) (upd H r (.lst (if plt j q i p=true then [y,x]else [x,y])))))
theorem Yge{X:Cx}:Yb5 X (.builtin "sorted") y2q:=by
 intro pins s σ H xs us Q I r h
 obtain⟨a,ys,rfl,hr,h⟩:=h
 obtain⟨u,rfl,ru⟩:=Ygl r
 cases ru
 obtain⟨its,rv,pl,hz⟩:=I.list (.inl hr)
 have fin:∀(out:Array Value) (zs:List V),Vals zs out.toList->zs.length<=sizeLine->Q (.ref (s.heap.objs.size+1)) (upd H (s.heap.objs.size+1) (.lst zs))->EP X pins σ Q (.ref (s.heap.objs.size+1)) { s with heap:=sortedAll s.heap its out }:=fun out zs hv hz' hq=>by
  obtain⟨e,he⟩:=sortedAll_at s.heap its out
  exact⟨.ref (s.heap.objs.size+1),_,I.laid (t':=s.toks) (fun b o q=>sortedAll_old q) (Nat.le_succ _) (show ObjOk X.prog X.w _ _ _ (.lst zs) from⟨hz',out.toList,e,hv,by rw[Array.toArray_toList];exact he⟩),rfl,hq⟩
 have fr:H (s.heap.objs.size+1)=none:=I.hok.fresh (Nat.le_succ _)
 have hl:=rv.length
 rcases h with⟨ns,rfl,h64,q⟩ | ⟨h2,q⟩ | ⟨x,y,i,p,j,k,rfl,px,py,q⟩
 ·have hI:=Yfm rv
  refine sorted_ints pl.isList hI (by rw[hI.length];exact h64) fun out ns' h1 h2 h3=>?_
  have e:ns'=Yn3 ns:=W.ksm_same (h2.trans (Yfp ns).symm) h3 (Ygd ns)
  subst e
  have hn:(Yn3 ns).length=ns.length:=(Yfp ns).length_eq
  exact fin out _ (Yhg h1) (by rw[qe,hn,sizeLine_eq];lia) (q _ fr)
 ·refine Yqq pl.isList (by lia) ?_
  exact fin its.toArray ys (by simpa using rv) hz (q _ fr)
 ·obtain⟨b,rfl,hb⟩:=px
  obtain⟨c,rfl,hc⟩:=py
  obtain⟨u1,u2,rfl,r1,r2⟩:=Ynx rv
  cases r1
  cases r2
  obtain⟨_,ib,vb,tb⟩:=(show ObjOk X.prog X.w H s.heap b (.tup [.int i,.bl p]) from I.hok b _ hb)
  obtain⟨_,ic,vc,tc⟩:=(show ObjOk X.prog X.w H s.heap c (.tup [.int j,.bl k]) from I.hok c _ hc)
  obtain⟨w1,w2,rfl,⟨t,rfl⟩,w2e⟩:=Ynx vb
  cases w2e
  obtain⟨w3,w4,rfl,⟨t',rfl⟩,w4e⟩:=Ynx vc
  cases w4e
  refine Yqs (by simpa using pl.isList) (by simpa using tb) (by simpa using tc) ?_
  refine fin _ (if plt j k i p=true then [.ref c,.ref b]else [.ref b,.ref c]) ?_ (by rw[sizeLine_eq];cases plt j k i p<;>exact(by decide:2<=16777216)) (q _ fr)
  cases plt j k i p
  ·exact .cons rfl (.cons rfl .nil)
  ·exact .cons rfl (.cons rfl .nil)
theorem Ymb{G H:Hp}{d:D}{v:V}{i:Int}{p:Bool}(s:Same G H)(e:d=.tup [.int i,.bl p])(r:Rp K G d v):Ysa H v i p:=by
 subst e
 rw[Rp]at r
 obtain⟨a,xs,rfl,g,rl⟩:=r
 rw[RpL]at rl
 obtain⟨x,r',rfl,h1,h2⟩:=rl
 obtain⟨y,rfl,h3⟩:=Yhq h2
 rw[Rp]at h1
 rw[Rp]at h3
 subst h1;subst h3
 exact⟨a,rfl,s _ _ g⟩
theorem Yn4{e d:D}{k:Bool}(h:Yw4 e d=some k):∃j q i p,e=.tup [.int j,.bl q]/\d=.tup [.int i,.bl p]/\k=plt j q i p:=by
 obtain⟨x,h1,h2⟩:=qa h
 obtain⟨y,h3,h4⟩:=qb h2
 exact⟨x.1,x.2,y.1,y.2,Yks h1,Yks h3,h4.symm⟩
theorem Yhu:SemF K y2q Yvn:=by
 intro vs ds l H G Q h s r q
 unfold Yvn at h
 split at h
 ·rename_i m
  obtain⟨v,rfl,rv⟩:=Yeq r
  rw[Ct]at rv
  obtain⟨a,xs,rfl,g,rl⟩:=rv
  refine⟨a,xs,rfl,g,?_⟩
  unfold y2p at h
  split at h
  ·rename_i ns hns
   split at h
   ·rename_i h64
    cases h
    cases Yfr hns
    refine .inl ⟨ns,Ykt rl,h64,fun p hp=>?_⟩
    exact q p _ _ G (.hid s hp _) hp (s.free hp) Yt (.ints _)
   ·cases h
  ·split at h
   ·cases h
    refine .inr (.inl ⟨by rw[rl.length];exact qy 1,fun p hp=>?_⟩)
    exact q p _ _ G (.hid s hp _) hp (s.free hp) Yt rl
   ·rename_i d e
    obtain⟨k,h1,rfl⟩:=qb h
    obtain⟨j,y,i,x,rfl,rfl,rfl⟩:=Yn4 h1
    rw[RpL]at rl
    obtain⟨v1,r1,rfl,p1,rl⟩:=rl
    obtain⟨v2,rfl,p2⟩:=Yhq rl
    refine .inr (.inr ⟨v1,v2,i,x,j,y,rfl,Ymb s rfl p1,Ymb s rfl p2,fun p hp=>?_⟩)
    refine q p _ _ G (.hid s hp _) hp (s.free hp) Yt ?_
    cases plt j y i x
    ·exact .cons p1 (.one p2)
    ·exact .cons p2 (.one p1)
   ·cases h
 ·cases h
end
section
variable {K:W.Frag}
theorem Yvo{P:Program}{w:World}{mg:Str->Option Value}{base:Heap}{k n:Nat}{x q:Str}{ps:List Str}{st:Stmt}{a:Addr}{fd:FuncData}(F:Fun K x q st a fd)(b:Binds K fd ps [])(hm:mg x=some (.ref a))(hn:ps.length=n) :
 Okf P w K mg base k n x ps (fun _=>none):=by
 have no:∀vs H Q E,¬spOf K n (fun _=>none) vs H Q E:=fun vs H Q E h=>by
  obtain⟨_,ds,d,G,_,_,e,_⟩:=h
  cases e
 exact⟨a,fd,⟨fun vs H Q E h=>absurd h (no vs H Q E),fun A outer s H args us vs Q E _ _ _ _ h=>absurd h (no vs H Q E)⟩,b,F.kp,hm⟩
section
variable {X:Cx} {e:Expr} {f fb:Ro->Option D} {pos pos':Pos}
def blsD:List D->Option (List Bool)
 | []=>some []
 | .bl b::l=>(blsD l).map (b::·)
 | _=>none
theorem Yhv:∀{l:List D} {bs:List Bool},blsD l=some bs->l=bs.map D.bl
 | [],bs,h=>by cases h;rfl
 | .bl i::l,bs,h=>by
   rw[blsD]at h
   obtain⟨m,h1,rfl⟩:=qb h
   rw[Yhv h1]
   rfl
 | .non::l,ns,h=>by simp[blsD]at h
 | .int _::l,ns,h=>by simp[blsD]at h
 | .str _::l,ns,h=>by simp[blsD]at h
 | .tup _::l,ns,h=>by simp[blsD]at h
 | .lst _::l,ns,h=>by simp[blsD]at h
 | .scr _::l,ns,h=>by simp[blsD]at h
 | .dct _ _ _::l,ns,h=>by simp[blsD]at h
 | .obj _ _ _::l,ns,h=>by simp[blsD]at h
 | .adr _::l,ns,h=>by simp[blsD]at h
theorem Yn5{G:Hp}:∀{bs:List Bool} {xs:List V},RpL K G (bs.map D.bl) xs->xs=bs.map V.bl
 | [],xs,h=>by rw[List.map_nil,RpL]at h;exact h
 | n::ns,xs,h=>by
   rw[Qb,RpL]at h
   obtain⟨x,r,rfl,h1,h2⟩:=h
   rw[Rp]at h1
   rw[h1,Yn5 h2]
   rfl
theorem Ye9:∀{bs:List Bool} {us:List Value},Vals (bs.map V.bl) us->us=bs.map Value.bool
 | [],us,h=>by cases h;rfl
 | b::bs,us,h=>by
   cases h with
   | cons r t=>
     cases (show _=Value.bool b from r)
     rw[Ye9 t]
     rfl
theorem Ymc(bs:List Bool):((List.range bs.length).any fun i=>bs.getD i false)=bs.any id:=by
 induction bs with
 | nil=>rfl
 | cons b bs ih=>
   rw[qq,List.range_succ_eq_map,List.any_cons,List.any_map,List.any_cons]
   have:(List.range bs.length).any ((fun i=>(b::bs).getD i false) ∘ Nat.succ)=(List.range bs.length).any fun i=>bs.getD i false:=by
    congr 1
   rw[this,ih]
   rfl
theorem Ysb(bs:List Bool):((List.range bs.length).all fun i=>bs.getD i false)=bs.all id:=by
 induction bs with
 | nil=>rfl
 | cons b bs ih=>
   rw[qq,List.range_succ_eq_map,List.all_cons,List.all_map,List.all_cons]
   have:(List.range bs.length).all ((fun i=>(b::bs).getD i false) ∘ Nat.succ)=(List.range bs.length).all fun i=>bs.getD i false:=by
    congr 1
   rw[this,ih]
   rfl
def rBls(g:List Bool->V):List V->Hp->VK->Prop:=fun vs H Q=>∃(a:Addr) (bs:List Bool),vs=[.ref a]/\Rd H a (.lst (bs.map V.bl))/\Q (g bs) H
theorem Yhw(A:Around)(prog:Program)(w:World)(bs:List Bool):TruthOf prog w A (fun i v=>((bs.map Value.bool).toArray)[i]?=some v) (fun i=>bs.getD i false):=fun i v s Q E hP hQ=>by
 have hP':(bs.map Value.bool)[i]?=some v:=by simpa using hP
 rw[Qg]at hP'
 obtain⟨b,h1,rfl⟩:=qb hP'
 refine wpAny_truthy_bool ?_
 have:bs.getD i false=b:=by simp[h1]
 rw[<-this]
 exact hQ
theorem Ymd{pins:List (Addr × Obj)}{s:Shared}{σ:L2.St}{H:Hp}{a:Addr}{its:List Value}{A:Around}{E:Value->Shared->Prop}{Q:Value->Shared->Prop}(hh:A.handled=none)(hl:s.heap.IsList a its.toArray)
 (h:∀s₂,s₂={ s with heap:=s.heap.push { cls:=.type "list_iterator",data:=.fields #[.ref a,.int 0 0] } }->Walks X.prog X.w A s.heap.objs.size [s.heap.objs.size,a] [s.heap.objs.size] its.toArray.size (fun i v=>its.toArray[i]?=some v) (fun i h=>h.IsListIter s.heap.objs.size a i/\h.IsList a its.toArray)->
  (s₂.heap.IsListIter s.heap.objs.size a 0/\s₂.heap.IsList a its.toArray)->Q (.ref s.heap.objs.size) s₂):wpAny (model X.prog X.w) A (pyIter (.ref a)) Q E s:=by
 have hne:a≠s.heap.objs.size:=by
  obtain⟨o,ho,_⟩:=hl
  exact ql (qk ho)
 refine wpAny_pyIter_list hl (h _ rfl (Walks.list hh _ a hne _) ⟨⟨_,qo _ rfl,rfl,rfl⟩,?_⟩)
 obtain⟨o,ho,r⟩:=hl
 exact⟨o,qd _ ho,r⟩
theorem Ydp{pins:List (Addr × Obj)}{s:Shared}{σ:L2.St}{H:Hp}{h':Heap}{tk:Nat}{o:Obj}(I:Inv X pins σ H s)(k:∀b u,b∉[s.heap.objs.size]->(s.heap.push o).get? b=some u->h'.get? b=some u):Inv X pins σ H { s with heap:=h',toks:=tk }:=
 I.kept fun b u q=>k b u (by
  intro z
  have e:b=s.heap.objs.size:=by simpa using z
  exact absurd (qk q) (by rw[e];exact Qe _)) (qd _ q)
theorem Yme(hc:X.calm=true):Yb5 X (.builtin "any") (rBls fun bs=>.bl (bs.any id)):=by
 intro pins s σ H xs us Q I r h
 obtain⟨a,bs,rfl,hr,q⟩:=h
 obtain⟨u,rfl,ru⟩:=Ygl r
 cases ru
 obtain⟨its,rv,pl,hz⟩:=I.list (.inl hr)
 cases Ye9 rv
 refine call_any_walk (Ymd (X:=X) (pins:=pins) (σ:=σ) (H:=H) (show X.A.in1.handled=none from I.ok.hd hc) pl.isList fun s₂ e W st=>?_)
 subst e
 refine⟨_,_,_,_,_,_,fun i=>bs.getD i false,rfl,W,st,Yhw _ _ _ bs,fun h' tk k=>⟨.bl _,H,(show Inv X pins σ H { s with heap:=h',toks:=tk } from Ydp I k),?_,q⟩⟩
 show Value.bool _=Value.bool _
 rw[qj,qe,Ymc]
theorem Yhx(hc:X.calm=true):Yb5 X (.builtin "all") (rBls fun bs=>.bl (bs.all id)):=by
 intro pins s σ H xs us Q I r h
 obtain⟨a,bs,rfl,hr,q⟩:=h
 obtain⟨u,rfl,ru⟩:=Ygl r
 cases ru
 obtain⟨its,rv,pl,hz⟩:=I.list (.inl hr)
 cases Ye9 rv
 refine call_all_walk (Ymd (X:=X) (pins:=pins) (σ:=σ) (H:=H) (show X.A.in1.handled=none from I.ok.hd hc) pl.isList fun s₂ e W st=>?_)
 subst e
 refine⟨_,_,_,_,_,_,fun i=>bs.getD i false,rfl,W,st,Yhw _ _ _ bs,fun h' tk k=>⟨.bl _,H,(show Inv X pins σ H { s with heap:=h',toks:=tk } from Ydp I k),?_,q⟩⟩
 show Value.bool _=Value.bool _
 rw[qj,qe,Ysb]
def anyC:List D->Option D
 | [.lst l]=>(blsD l).map fun bs=>.bl (bs.any id)
 | _=>none
def allC:List D->Option D
 | [.lst l]=>(blsD l).map fun bs=>.bl (bs.all id)
 | _=>none
theorem Ysc{g:List Bool->V}{gd:List Bool->D}{m:List D->Option D}(hm:∀ds d,m ds=some d->∃l bs,ds=[.lst l]/\blsD l=some bs/\d=gd bs)(hg:∀G bs,Rp K G (gd bs) (g bs)):SemC K (rBls g) m:=by
 intro vs ds d H G Q h s r q
 obtain⟨l,bs,rfl,h1,rfl⟩:=hm ds d h
 obtain⟨v,rfl,rv⟩:=Yeq r
 rw[Ct]at rv
 obtain⟨a,xs,rfl,g',rl⟩:=rv
 cases Yhv h1
 cases Yn5 rl
 exact⟨a,bs,rfl,g',q _ H G (.refl s) (hg G bs)⟩
theorem Yku:SemC K (rBls fun bs=>.bl (bs.any id)) anyC:=Ysc (gd:=fun bs=>.bl (bs.any id)) (fun ds d h=>by
 unfold anyC at h
 split at h
 ·obtain⟨bs,h1,rfl⟩:=qb h
  exact⟨_,bs,rfl,h1,rfl⟩
 ·cases h) fun G bs=>by rw[Rp]
theorem Yn6:SemC K (rBls fun bs=>.bl (bs.all id)) allC:=Ysc (gd:=fun bs=>.bl (bs.all id)) (fun ds d h=>by
 unfold allC at h
 split at h
 ·obtain⟨bs,h1,rfl⟩:=qb h
  exact⟨_,bs,rfl,h1,rfl⟩
 ·cases h) fun G bs=>by rw[Rp]
def Ysd(i:Nat)(fi f:Ro->Option D)(g:List D->D->D->Option (List D)):Ro->Option Out:=fun ρ=>(f ρ).bind fun d=>(getO i ρ).bind fun l=>(fi ρ).bind fun k=>(g l k d).map fun l'=>.nx (ρ.set i (some (.ow l')))
end
end
section
variable {K:W.Frag}
section
variable {prog:Program} {w:World} {A:Around} {E:Value->Shared->Prop} {s:Shared}
theorem Yfs{it t:Addr}{i:Nat}{items:Array Value}{x:Value}{Q:Value->Shared->Prop}(hit:s.heap.IsTupleIter it t i)
 (ht:s.heap.IsTuple t items) (hx:items[i]?=some x)
 (hQ:∀h',h'.IsTupleIter it t (i+1)->Heap.SameBut it s.heap h'->Q x { s with heap:=h' }) :
 wpAny (model prog w) A (Builtin.SmallTypes.nextOf (.ref it)) Q E s:=by
 obtain⟨o,ho,hc,hd⟩:=id hit
 obtain⟨ol,hol,_,nl,hdl⟩:=ht
 unfold Builtin.SmallTypes.nextOf
 refine wpAny_bind (wpAny_callSpecial?_slot (name:=Str.ofString "__next__") hit.typeIs F.slot_tuple_iterator_next
  (wpAny_call_entry F.slot_tuple_iterator_next hit.typeIs F.entry_tuple_iterator_next ?_ (F.args_tuple_iterator_next_1 _)))
 show wpAny _ _ (field (.ref it) 0 >>= _) _ _ s
 refine wpAny_bind (wpAny_field ho hd (x:=.ref t) rfl ?_)
 show wpAny _ _ (if (Value.ref t==Value.none)=true then _ else _) _ _ s
 rw[if_neg (show ¬((Value.ref t==Value.none)=true) from qh)]
 show wpAny _ _ (field (.ref it) 1 >>= _) _ _ s
 refine wpAny_bind (wpAny_field ho hd (x:=.int i 0) rfl ?_)
 show wpAny _ _ (seqItems? (.ref t) >>= _) _ _ s
 refine wpAny_bind (wpAny_seqItems hol hdl ?_)
 simp only[Int.toNat_natCast,hx]
 refine wpAny_bind (wpAny_setField ho hd (by simp) (wpAny_pure ⟨x,rfl,wpAny_pure (hQ _ ?_ (Heap.SameBut.update ..))⟩))
 exact⟨_,Heap.get?_update_self _ ho (Obj.isFreed_of_fields (Obj.data_mapFields hd _)),(Obj.cls_mapFields ..).trans hc,by
  rw[Obj.data_mapFields hd];simp[rawInt]⟩
theorem Ygn{it l:Addr}{i:Nat}{items:Array Value}{Q:Value->Shared->Prop}(hh:A.handled=none)
 (hit:s.heap.IsTupleIter it l i) (hl:s.heap.IsTuple l items) (hx:items[i]?=none)
 (hE:∀h' e,Heap.ExtBut it s.heap h'->(∃o,h'.get? e=some o/\o.cls=.type "StopIteration")->E (.ref e) { s with heap:=h' }) :
 wpAny (model prog w) A (Builtin.SmallTypes.nextOf (.ref it)) Q E s:=by
 obtain⟨o,ho,hc,hd⟩:=id hit
 obtain⟨ol,hol,_,nl,hdl⟩:=hl
 unfold Builtin.SmallTypes.nextOf
 refine wpAny_bind (wpAny_callSpecial?_slot (name:=Str.ofString "__next__") hit.typeIs F.slot_tuple_iterator_next
  (wpAny_call_entry F.slot_tuple_iterator_next hit.typeIs F.entry_tuple_iterator_next ?_ (F.args_tuple_iterator_next_1 _)))
 show wpAny _ _ (field (.ref it) 0 >>= _) _ _ s
 refine wpAny_bind (wpAny_field ho hd (x:=.ref l) rfl ?_)
 show wpAny _ _ (if (Value.ref l==Value.none)=true then _ else _) _ _ s
 rw[if_neg (show ¬((Value.ref l==Value.none)=true) from qh)]
 show wpAny _ _ (field (.ref it) 1 >>= _) _ _ s
 refine wpAny_bind (wpAny_field ho hd (x:=.int i 0) rfl ?_)
 show wpAny _ _ (seqItems? (.ref l) >>= _) _ _ s
 refine wpAny_bind (wpAny_seqItems hol hdl ?_)
 simp only[Int.toNat_natCast,hx]
 refine wpAny_bind (wpAny_rule (wpAny_bind (wpAny_setField ho hd (by simp) ?_)))
 show wpAny _ _ (newExc (.type "StopIteration") [] >>= _) _ _ _
 refine wpAny_bind ?_
 simp only[newExc,newTuple]
 refine wpAny_bind (wpAny_newObj_type ?_ (by size_fits))
 refine wpAny_bind (m:=firstArgMember _ _) (wpAny_of_eq (a:=Value.none) (by first | rfl | (simp only[firstArgMember];rfl)) ?_)
 refine wpAny_newObj_type ?_ (by size_fits)
 simp only[raiseNew]
 refine wpAny_bind (wpAny_handled ?_)
 first | rw[show A.in1.handled=none from hh] | rw[hh]
 refine wpAny_bind (wpAny_pure (wpAny_throw ?_))
 exact hE _ _ (((Heap.SameBut.update ..).extBut.push _).push _) ⟨_,qo _ rfl,rfl⟩
theorem Yhy{e it l:Addr}{i:Nat}{items:Array Value}{x old:Value}{Q:Value->Shared->Prop}
 (he:IsEnum s.heap e it i old) (hit:s.heap.IsTupleIter it l i) (hl:s.heap.IsTuple l items) (hx:items[i]?=some x) (hne:e≠it)
 (hQ:∀h',IsEnumOut h' e it ((i:Int)+1) x s.heap.objs.size->h'.IsTupleIter it l (i+1)->
  h'.get? s.heap.objs.size=some { cls:=.type "tuple",data:=.seq #[.int i s.toks,x] }->h'.objs.size=s.heap.objs.size+1->
  (∀b o,b≠e->b≠it->s.heap.get? b=some o->h'.get? b=some o)->Q (.ref s.heap.objs.size) { s with heap:=h',toks:=s.toks+1 }) :
 wpAny (model prog w) A (Builtin.«enumerate.__next__» ⟨[.ref e],[]⟩) (fun fin s'=>∃v,fin=.done (.ret v)/\Q v s') E s:=by
 obtain⟨hp,g,d,tk,os⟩:=s
 show wpAny _ _ (field (.ref e) 2 >>= _) _ _ _
 refine wpAny_bind (wpAny_field he rfl (x:=.ref it) rfl ?_)
 refine wpAny_bind (Yfs hit hl hx fun h₁ hit₁ hs₁=>?_)
 replace hs₁:Heap.SameBut it hp h₁:=hs₁
 have he₁:IsEnum h₁ e it i old:=(hs₁.2 e hne).trans he
 show wpAny _ _ (field (.ref e) 3 >>= _) _ _ ⟨h₁,g,d,tk,os⟩
 refine wpAny_bind (wpAny_field he₁ rfl (x:=rawInt i) rfl ?_)
 show wpAny _ _ (field (.ref e) 4 >>= _) _ _ ⟨h₁,g,d,tk,os⟩
 refine wpAny_bind (wpAny_field he₁ rfl (x:=.none) rfl ?_)
 show wpAny _ _ (mkInt i >>= _) _ _ ⟨h₁,g,d,tk,os⟩
 refine wpAny_bind (wpAny_mkInt ?_)
 show wpAny _ _ (setField (.ref e) 3 (rawInt ((i:Int)+1)) >>= _) _ _ ⟨h₁,g,d,tk+1,os⟩
 refine wpAny_bind (wpAny_setField_rec he₁ (by simp) fun h₂ he₂ hs₂=>?_)
 replace hs₂:Heap.SameBut e h₁ h₂:=hs₂
 replace he₂:IsEnum h₂ e it ((i:Int)+1) old:=he₂
 show wpAny _ _ (setField (.ref e) 4 .none >>= _) _ _ ⟨h₂,g,d,tk+1,os⟩
 refine wpAny_bind (wpAny_setField_rec he₂ (by simp) fun h₃ he₃ hs₃=>?_)
 replace hs₃:Heap.SameBut e h₂ h₃:=hs₃
 replace he₃:IsEnum h₃ e it ((i:Int)+1) old:=he₃
 show wpAny _ _ (newTuple [.int i tk,x] >>= _) _ _ ⟨h₃,g,d,tk+1,os⟩
 refine wpAny_bind (wpAny_newTuple ?_)
 have he₄:IsEnum (h₃.push { cls:=.type "tuple",data:=.seq #[.int i tk,x] }) e it ((i:Int)+1) old:=qd _ he₃
 generalize hh₄:h₃.push { cls:=.type "tuple",data:=.seq #[.int i tk,x] }=h₄ at he₄
 have hsz:h₃.objs.size=hp.objs.size:=by rw[hs₃.1,hs₂.1,hs₁.1]
 have hel:e < hp.objs.size:=qk he
 have ht₄:h₄.get? hp.objs.size=some { cls:=.type "tuple",data:=.seq #[.int i tk,x] }:=by rw[<-hh₄,<-hsz];exact qo _ rfl
 have hz₄:h₄.objs.size=hp.objs.size+1:=by rw[<-hh₄,Heap.size_push,hsz]
 have hk₄:∀b o,b≠e->b≠it->hp.get? b=some o->h₄.get? b=some o:=fun b o hbe hbi hb=>by
  rw[<-hh₄];exact qd _ (hs₃.extBut b o hbe (hs₂.extBut b o hbe (hs₁.extBut b o hbi hb)))
 have hit₄:h₄.IsTupleIter it l (i+1):=by
  rw[<-hh₄];obtain⟨o,ho,r⟩:=(hit₁.at fun o q=>hs₃.extBut it o (Ne.symm hne) (hs₂.extBut it o (Ne.symm hne) q));exact⟨o,qd _ ho,r⟩
 show wpAny _ _ (Builtin.SmallTypes.ownedTupleIsFree (.ref e) >>= _) _ _ ⟨h₄,g,d,tk+1,os⟩
 rw[hsz]
 clear hh₄ he₃ hs₃ he₂ hs₂ he₁ hs₁ hit₁ hsz h₃ h₂ h₁
 refine wpAny_bind ?_
 ·unfold Builtin.SmallTypes.ownedTupleIsFree
  refine wpAny_bind (wpAny_field he₄ rfl (x:=.none) rfl (wpAny_pure ?_))
  simp only[if_true]
  refine wpAny_bind (wpAny_rule ?_)
  refine wpAny_bind (wpAny_field he₄ rfl (x:=old) rfl ?_)
  refine wpAny_bind (wpAny_setField_rec he₄ (by simp) fun h₅ he₅ hs₅=>?_)
  replace hs₅:Heap.SameBut e h₄ h₅:=hs₅
  replace he₅:IsEnum h₅ e it ((i:Int)+1) x:=he₅
  show wpAny _ _ (Builtin.SmallTypes.ownedTupleHandOut (.ref e) (.ref hp.objs.size) >>= _) _ _ ⟨h₅,g,d,tk+1,os⟩
  refine wpAny_bind ?_
  ·unfold Builtin.SmallTypes.ownedTupleHandOut
   refine wpAny_bind (wpAny_setField_rec he₅ (by simp) fun h₆ he₆ hs₆=>?_)
   replace hs₆:Heap.SameBut e h₅ h₆:=hs₆
   replace he₆:IsEnumOut h₆ e it ((i:Int)+1) x hp.objs.size:=he₆
   refine wpAny_setField_rec he₆ (by simp) fun h₇ he₇ hs₇=>?_
   replace hs₇:Heap.SameBut e h₆ h₇:=hs₇
   replace he₇:IsEnumOut h₇ e it ((i:Int)+1) x hp.objs.size:=he₇
   refine wpAny_bind (wpAny_letGo (wpAny_pure ⟨_,rfl,hQ h₇ he₇ ?_ ?_ ?_ ?_⟩))
   ·exact hit₄.at fun o q=>hs₇.extBut it o (Ne.symm hne) (hs₆.extBut it o (Ne.symm hne) (hs₅.extBut it o (Ne.symm hne) q))
   ·exact hs₇.extBut _ _ (Nat.ne_of_gt hel) (hs₆.extBut _ _ (Nat.ne_of_gt hel) (hs₅.extBut _ _ (Nat.ne_of_gt hel) ht₄))
   ·rw[hs₇.1,hs₆.1,hs₅.1,hz₄]
   ·exact fun b o hbe hbi hb=>hs₇.extBut b o hbe (hs₆.extBut b o hbe (hs₅.extBut b o hbe (hk₄ b o hbe hbi hb)))
theorem Yft{e it l:Addr}{i:Nat}{items:Array Value}{x old:Value}{Q:Option Value->Shared->Prop}
 (he:IsEnum s.heap e it i old) (hit:s.heap.IsTupleIter it l i) (hl:s.heap.IsTuple l items) (hx:items[i]?=some x) (hne:e≠it)
 (hQ:∀h',IsEnumOut h' e it ((i:Int)+1) x s.heap.objs.size->h'.IsTupleIter it l (i+1)->
  h'.get? s.heap.objs.size=some { cls:=.type "tuple",data:=.seq #[.int i s.toks,x] }->h'.objs.size=s.heap.objs.size+1->
  (∀b o,b≠e->b≠it->s.heap.get? b=some o->h'.get? b=some o)->Q (some (.ref s.heap.objs.size)) { s with heap:=h',toks:=s.toks+1 }) :
 wpAny (model prog w) A (pyNext (.ref e)) Q E s:=by
 have hT:s.TypeIs (.ref e) "enumerate":=⟨_,he,rfl⟩
 unfold pyNext
 exact wpAny_bind (wpAny_attempt (wpAny_callSpecial?_slot (name:=Str.ofString "__next__") hT F.slot_enumerate_next
  (wpAny_call_entry F.slot_enumerate_next hT F.entry_enumerate_next
   (Yhy he hit hl hx hne fun h' a b c d k=>wpAny_pure (hQ h' a b c d k)) (F.args_enumerate_next_1 _))))
theorem Ygo{e it l:Addr}{i:Nat}{items:Array Value}{old:Value}{Q:Option Value->Shared->Prop}(hh:A.handled=none)
 (he:IsEnum s.heap e it i old) (hit:s.heap.IsTupleIter it l i) (hl:s.heap.IsTuple l items) (hx:items[i]?=none)
 (hQ:∀h',Heap.ExtBut it s.heap h'->Q none { s with heap:=h' }):wpAny (model prog w) A (pyNext (.ref e)) Q E s:=by
 have hT:s.TypeIs (.ref e) "enumerate":=⟨_,he,rfl⟩
 unfold pyNext
 refine wpAny_bind (wpAny_attempt (wpAny_callSpecial?_slot (name:=Str.ofString "__next__") hT F.slot_enumerate_next
  (wpAny_call_entry F.slot_enumerate_next hT F.entry_enumerate_next ?_ (F.args_enumerate_next_1 _))))
 show wpAny _ _ (field (.ref e) 2 >>= _) _ _ _
 refine wpAny_bind (wpAny_field he rfl (x:=.ref it) rfl ?_)
 refine wpAny_bind (Ygn hh hit hl hx fun h' x he' hx'=>?_)
 obtain⟨o,ho,hc⟩:=hx'
 refine wpAny_bind (wpAny_isInstance (T:="StopIteration") (b:=true) ⟨o,ho,hc⟩ isSubtype_stop ?_)
 exact wpAny_pure (hQ _ he')
theorem Yhz(l:Addr)(items:Array Value)(n:Nat)(dct:Option Addr)(sl:Array (Option Value)) :
 Meets (Builtin.«enumerate.__new__» ⟨[.type "enumerate",.ref l],[]⟩) (fun _ R s=>s.heap.get? l=some { cls:=.type "tuple",dict:=dct,data:=.seq items n,slots:=sl }/\
  R (.ok (.ret (.ref (s.heap.push { cls:=.type "tuple_iterator",data:=.fields #[.ref l,.int 0 0] }).objs.size)))
   { s with heap:=(s.heap.push { cls:=.type "tuple_iterator",data:=.fields #[.ref l,.int 0 0] }).push { cls:=.type "enumerate",data:=.fields #[.none,.bool false,.ref s.heap.objs.size,rawInt 0,.none,.none] } }):=
 .of_wp fun prog w A R s h=>by
  obtain⟨hp,g,d,tk,os⟩:=s;obtain⟨hl,h⟩:=h
  have hsub:=sub_enumerate
  have hL:Heap.IsTuple (Shared.heap ⟨hp,g,d,tk,os⟩) l items:=⟨_,hl,rfl,n,rfl⟩
  wp_walk using PySem.AutoSeq1.wpAny_loadPart' hl
  refine wpAny_stack_any fun st=>wpAny_pure ?_
  split
  ·rename_i c _ _ _ _ _
   cases (c==Value.type "enumerate")
   ·wp_walk using PySem.AutoSeq1.wpAny_loadPart' hl,wpAny_pyIter_tuple hL
    exact⟨_,rfl,h⟩
   ·wp_walk using PySem.AutoSeq1.wpAny_loadPart' hl,wpAny_pyIter_tuple hL
    exact⟨_,rfl,h⟩
  ·wp_walk using PySem.AutoSeq1.wpAny_loadPart' hl,wpAny_pyIter_tuple hL
   exact⟨_,rfl,h⟩
theorem Yd9{l:Addr}{items:Array Value}{Q:Value->Shared->Prop}(hL:s.heap.IsTuple l items)
 (h:∀h',IsEnum h' (s.heap.objs.size+1) s.heap.objs.size 0 .none->h'.IsTupleIter s.heap.objs.size l 0->h'.objs.size=s.heap.objs.size+2->
  (∀b o,s.heap.get? b=some o->h'.get? b=some o)->Q (.ref (s.heap.objs.size+1)) { s with heap:=h' }) :
 wpAny (model prog w) A (call (.type "enumerate") [.ref l]) Q E s:=by
 obtain⟨⟨c,dct,dt,sl⟩,hl,hc,n,hd⟩:=hL
 replace hc:c=.type "tuple":=hc
 replace hd:dt=.seq items n:=hd
 subst hc hd
 refine callType_new F.called_enumerate (by decide) (F.typeCall_enumerate_1 _) (F.newCall_enumerate_1 _) (fun obj=>F.args_object_init_2 obj _) F.entry_enumerate_new
  (Yhz l items n dct sl) ⟨hl,?_⟩
 have hz:(s.heap.push { cls:=.type "tuple_iterator",data:=.fields #[.ref l,.int 0 0] }).objs.size=s.heap.objs.size+1:=Heap.size_push ..
 show _/\_
 rw[hz]
 have he:IsEnum ((s.heap.push { cls:=.type "tuple_iterator",data:=.fields #[.ref l,.int 0 0] }).push
  { cls:=.type "enumerate",data:=.fields #[.none,.bool false,.ref s.heap.objs.size,rawInt 0,.none,.none] }) (s.heap.objs.size+1) s.heap.objs.size 0 .none:=by
  have:=qo (s.heap.push { cls:=.type "tuple_iterator",data:=.fields #[.ref l,.int 0 0] })
   (o:={ cls:=.type "enumerate",data:=.fields #[.none,.bool false,.ref s.heap.objs.size,rawInt 0,.none,.none] }) rfl
  rw[hz]at this;exact this
 refine⟨⟨_,he,rfl⟩,h _ he ⟨_,qd _ (qo _ rfl),rfl,rfl⟩ (by rw[Heap.size_push,hz]) fun b o x=>qd _ (qd _ x)⟩
end
theorem Yfa{X:Cx}{pins:List (Addr × Obj)}{σ:L2.St}{H:Hp}{s:Shared}{h':Heap}{t':Nat}{ch:List Addr}{T:Addr}{o:HO}(I:Inv X pins σ H s)(hf:∀b∈ch,FpOk X pins H b)
 (k:∀b u,b∉ch->s.heap.get? b=some u->h'.get? b=some u) (hT:s.heap.objs.size<=T) (new:ObjOk X.prog X.w (upd H T o) h' T o):Inv X pins σ (upd H T o) { s with heap:=h',toks:=t' }:=by
 have fr:H T=none:=I.hok.fresh hT
 have nch:∀b u,H b=some u->b∉ch:=fun b u e z=>by rw[(hf b z).1]at e;cases e
 refine I.step (g':=s.gens) (d':=s.drawn) (ch:=ch) (fun b hb=>?_) (fun b u _ _ hc e _=>k b u hc e) (fun b u _ _ hc e _=>⟨u.slots,k b u hc e⟩) (fun b u _ e n=>?_)
  (fun b u hc e=>⟨u,k b u hc e⟩) (fun b xs e=>?_) (fun b u xs e=>?_) (fun b ps e=>⟨#[],?_⟩) (fun m hm=>?_) (fun b u e=>?_) I.bare
 ·obtain⟨_,f1,_,f3,f4,f5⟩:=hf b hb
  exact⟨f3,f1,f4,f5⟩
 ·rw[Yv (ql (Qc (qk e) hT))];exact n
 ·rw[Yv (Ys e fr)];exact e
 ·rw[Yv (Ys e fr)];exact e
 ·rw[Yv (Ys e fr),e];simp
 ·obtain⟨ob,es,ep,ho,r⟩:=hm
  exact⟨ob,es,ep,k _ ob (fun z=>(hf _ z).2.1 rfl) ho,r⟩
 ·by_cases hb:b=T
  ·subst hb;rw[Yt]at e;cases e;exact new
  ·rw[Yv hb]at e
   refine(I.hok b u e).stay (fun c v hc q=>k c v ?_ q) (fun c q=>by rw[Yv (Ys q fr)];exact q) fun c xs q=>by rw[Yv (Ys q fr)];exact q
   rcases hc with z | z
   ·rw[z];exact nch b u e
   ·exact nch c _ z
def IteL(K:W.Frag)(a:Addr):It:=
 ⟨fun i H=>∃xs x,SqL K H a xs/\xs[i]?=some x,fun i H x H'=>∃y p,(∀xs,SqL K H a xs->xs[i]?=some y)/\H p=none/\x=.ref p/\H'=upd H p (.tup [.int i,y]),fun i H=>∃xs,SqL K H a xs/\xs.length<=i⟩
def IteT(K:W.Frag)(a:Addr):It:=
 ⟨fun i H=>∃xs x,SqT K H a xs/\xs[i]?=some x,fun i H x H'=>∃y p,(∀xs,SqT K H a xs->xs[i]?=some y)/\H p=none/\x=.ref p/\H'=upd H p (.tup [.int i,y]),fun i H=>∃xs,SqT K H a xs/\xs.length<=i⟩
section
variable {elts:List Expr} {x1:Nat} {pt:Pos}
theorem Yqt{P:Program}{w:World}(a it e:Addr)(hei:e≠it):Turn P w K (.Tuple elts x1 pt) (IteL K a) [e,it] e (fun i h=>(∃old,IsEnum h e it i old)/\h.IsListIter it a i) where
 mem:=by simp
 obj:=fun i h st b hb=>by
  obtain⟨⟨old,he⟩,hit⟩:=st
  rcases qr hb with rfl | hb
  ·exact⟨_,he,fun v z=>by cases z⟩
  ·have z:b=it:=by simpa using hb
   subst z
   obtain⟨o,q,c,d⟩:=hit
   exact⟨o,q,fun v z=>by rw[d]at z;cases z⟩
 keep:=fun i h h' st k=>by
  obtain⟨⟨old,he⟩,hit⟩:=st
  exact⟨⟨old,k e (by simp) _ he⟩,hit.at fun o q=>k it (by simp) o q⟩
 item:=by
  intro X hP hw hK hc i pins s σ H E I hf st hg
  subst hP hw hK
  obtain⟨xs,x,hq,hx⟩:=hg
  obtain⟨its,rv,p,hz⟩:=I.list hq
  obtain⟨u,hu,ru⟩:=rv.get hx
  obtain⟨⟨old,he⟩,hit⟩:=st
  refine wpAny_pyNext_enum_item he hit p.isList (x:=u) (by simpa using hu) hei fun h' ho hit' hT hsz hk=>?_
  refine⟨_,rfl,wpAny_letOwnedTupleGo_enum ho fun h2 he2 hs2=>?_⟩
  have fr:H s.heap.objs.size=none:=I.fresh
  have hne:∀b∈[e,it],b≠s.heap.objs.size:=fun b hb z=>by
   rcases qr hb with rfl | hb
   ·exact absurd (qk he) (by rw[z];exact Qe _)
   ·have z2:b=it:=by simpa using hb
    subst z2
    obtain⟨o,q,_⟩:=hit
    exact absurd (qk q) (by rw[z];exact Qe _)
  have kk:∀b o,b∉[e,it]->s.heap.get? b=some o->h2.get? b=some o:=fun b o hb q=>by
   have h1:b≠e:=fun z=>hb (by simp[z])
   have h3:b≠it:=fun z=>hb (by simp[z])
   exact(hs2.2 b h1).trans (hk b o h1 h3 q)
  have tT:h2.get? s.heap.objs.size=some { cls:=.type "tuple",data:=.seq #[.int i s.toks,u] }:=(hs2.2 _ (Ne.symm (hne e (by simp)))).trans hT
  refine⟨.ref s.heap.objs.size,upd H s.heap.objs.size (.tup [.int i,x]),(show Inv X pins σ _ { s with heap:=h2,toks:=s.toks+1 } from Yfa (s:=s) (t':=s.toks+1) I hf kk (qt _) ?_),rfl,⟨x,s.heap.objs.size,fun ys hy=>by rw[I.list_inj hy hq];exact hx,fr,rfl,rfl⟩,⟨⟨_,by simpa using he2⟩,hit'.at fun o q=>(hs2.2 it (Ne.symm hei)).trans q⟩,fun b hb=>?_⟩
  ·exact⟨by rw[sizeLine_eq];show 2<=16777216;decide,[.int i s.toks,u],.cons ⟨_,rfl⟩ (.cons ru .nil),_,tT,rfl,0,rfl⟩
  ·rw[Yv (hne b hb)];exact(hf b hb).1
 done:=by
  intro X hP hw hK hc i pins s σ H E I hf st hg
  subst hP hw hK
  obtain⟨xs,hq,hx⟩:=hg
  obtain⟨its,rv,p,hz⟩:=I.list hq
  obtain⟨⟨old,he⟩,hit⟩:=st
  obtain⟨f0,f1,f2,f3,f4,f5⟩:=hf it (by simp)
  have hl:=rv.length
  exact wpAny_pyNext_enum_end (I.ok.hd hc) he hit p.isList (by simp;lia) fun h' eb=>⟨rfl,I.turned (t':=s.toks) (fun b o hb e=>eb b o hb e) f0 f1 f3 f4 f5⟩
 self:=fun _ _ _ _ _ st h=>let ⟨⟨_,he⟩,_⟩:=st;wpAny_pyIter_enum he h
theorem Yqu{P:Program}{w:World}(a it e:Addr)(hei:e≠it):Turn P w K (.Tuple elts x1 pt) (IteT K a) [e,it] e (fun i h=>(∃old,IsEnum h e it i old)/\h.IsTupleIter it a i) where
 mem:=by simp
 obj:=fun i h st b hb=>by
  obtain⟨⟨old,he⟩,hit⟩:=st
  rcases qr hb with rfl | hb
  ·exact⟨_,he,fun v z=>by cases z⟩
  ·have z:b=it:=by simpa using hb
   subst z
   obtain⟨o,q,c,d⟩:=hit
   exact⟨o,q,fun v z=>by rw[d]at z;cases z⟩
 keep:=fun i h h' st k=>by
  obtain⟨⟨old,he⟩,hit⟩:=st
  exact⟨⟨old,k e (by simp) _ he⟩,hit.at fun o q=>k it (by simp) o q⟩
 item:=by
  intro X hP hw hK hc i pins s σ H E I hf st hg
  subst hP hw hK
  obtain⟨xs,x,hq,hx⟩:=hg
  obtain⟨its,rv,p,hz⟩:=I.tuple hq
  obtain⟨u,hu,ru⟩:=rv.get hx
  obtain⟨⟨old,he⟩,hit⟩:=st
  refine Yft he hit (show s.heap.IsTuple a its.toArray from p) (x:=u) (by simpa using hu) hei fun h' ho hit' hT hsz hk=>?_
  refine⟨_,rfl,wpAny_letOwnedTupleGo_enum ho fun h2 he2 hs2=>?_⟩
  have fr:H s.heap.objs.size=none:=I.fresh
  have hne:∀b∈[e,it],b≠s.heap.objs.size:=fun b hb z=>by
   rcases qr hb with rfl | hb
   ·exact absurd (qk he) (by rw[z];exact Qe _)
   ·have z2:b=it:=by simpa using hb
    subst z2
    obtain⟨o,q,_⟩:=hit
    exact absurd (qk q) (by rw[z];exact Qe _)
  have kk:∀b o,b∉[e,it]->s.heap.get? b=some o->h2.get? b=some o:=fun b o hb q=>by
   have h1:b≠e:=fun z=>hb (by simp[z])
   have h3:b≠it:=fun z=>hb (by simp[z])
   exact(hs2.2 b h1).trans (hk b o h1 h3 q)
  have tT:h2.get? s.heap.objs.size=some { cls:=.type "tuple",data:=.seq #[.int i s.toks,u] }:=(hs2.2 _ (Ne.symm (hne e (by simp)))).trans hT
  refine⟨.ref s.heap.objs.size,upd H s.heap.objs.size (.tup [.int i,x]),(show Inv X pins σ _ { s with heap:=h2,toks:=s.toks+1 } from Yfa (s:=s) (t':=s.toks+1) I hf kk (qt _) ?_),rfl,⟨x,s.heap.objs.size,fun ys hy=>by rw[I.tuple_inj hy hq];exact hx,fr,rfl,rfl⟩,⟨⟨_,by simpa using he2⟩,hit'.at fun o q=>(hs2.2 it (Ne.symm hei)).trans q⟩,fun b hb=>?_⟩
  ·exact⟨by rw[sizeLine_eq];show 2<=16777216;decide,[.int i s.toks,u],.cons ⟨_,rfl⟩ (.cons ru .nil),_,tT,rfl,0,rfl⟩
  ·rw[Yv (hne b hb)];exact(hf b hb).1
 done:=by
  intro X hP hw hK hc i pins s σ H E I hf st hg
  subst hP hw hK
  obtain⟨xs,hq,hx⟩:=hg
  obtain⟨its,rv,p,hz⟩:=I.tuple hq
  obtain⟨⟨old,he⟩,hit⟩:=st
  obtain⟨f0,f1,f2,f3,f4,f5⟩:=hf it (by simp)
  have hl:=rv.length
  exact Ygo (I.ok.hd hc) he hit (show s.heap.IsTuple a its.toArray from p) (by simp;lia) fun h' eb=>⟨rfl,I.turned (t':=s.toks) (fun b o hb e=>eb b o hb e) f0 f1 f3 f4 f5⟩
 self:=fun _ _ _ _ _ st h=>let ⟨⟨_,he⟩,_⟩:=st;wpAny_pyIter_enum he h
variable {X:Cx} {pos:Pos}
def y4h(K:W.Frag)(ta:TA):TI:=fun σ H R=>ta σ H fun vs H1=>∃a xs,vs=[.ref a]/\((SqL K H1 a xs/\(xs.length<=sizeLine->R (IteL K a) H1))\/(SqT K H1 a xs/\(xs.length<=sizeLine->R (IteT K a) H1)))
theorem Yyz{l:Expr}{ta:TA}{p:Pos}(hg:Gl X "enumerate")(hm:X.mg "enumerate"=none)(ha:PA X [l] ta)(hs:starEach [l] X.env=[(false,eval l X.env)]:=by rfl):PI X (.Tuple elts x1 pt) (.Call (.Name "enumerate" p) [l] [] pos) (y4h X.K ta):=by
 intro pins s σ H R I h
 refine Call_ (Yhc I hg hm boot_enumerate (PyProof.Rows.callWith_type1 (thn (ha pos pins s σ H _ I h) fun us s1 hx_=>?_) hs rfl))
 obtain⟨vs,H1,I1,r1,q1⟩:=hx_
 obtain⟨a,xs,rfl,q⟩:=q1
 obtain⟨u,rfl,ru⟩:=Ygl r1
 cases ru
 have fin:∀(h':Heap),h'.objs.size=s1.heap.objs.size+2->(∀b o,s1.heap.get? b=some o->h'.get? b=some o)->∀b∈[s1.heap.objs.size+1,s1.heap.objs.size],FpOk X pins H1 b:=fun h' hz hk b hb=>by
  have hb':s1.heap.objs.size<=b:=by
   rcases qr hb with rfl | hb
   ·exact Nat.le_succ _
   ·have:b=s1.heap.objs.size:=by simpa using hb
    lia
  exact I1.fpOk hb' (I1.hok.fresh hb')
 rcases q with⟨hq,q⟩ | ⟨hq,q⟩
 ·obtain⟨its,rv,pl,hz⟩:=I1.list hq
  refine call_enumerate_list pl.isList fun h' he hit hsz hk=>wpAny_pyIter_enum (s:={ s1 with heap:=h' }) he ?_
  exact⟨_,[s1.heap.objs.size+1,s1.heap.objs.size],_,_,H1,rfl,I1.kept (t':=s1.toks) hk,Yqt a s1.heap.objs.size _ (Nat.succ_ne_self _),⟨⟨_,he⟩,hit⟩,fin h' hsz hk,q hz⟩
 ·obtain⟨its,rv,pl,hz⟩:=I1.tuple hq
  refine Yd9 (show s1.heap.IsTuple a its.toArray from pl) fun h' he hit hsz hk=>wpAny_pyIter_enum (s:={ s1 with heap:=h' }) he ?_
  exact⟨_,[s1.heap.objs.size+1,s1.heap.objs.size],_,_,H1,rfl,I1.kept (t':=s1.toks) hk,Yqu a s1.heap.objs.size _ (Nat.succ_ne_self _),⟨⟨_,he⟩,hit⟩,fin h' hsz hk,q hz⟩
def Yjc(l:List D):List D:=(List.range l.length).map fun i:Nat=>.tup [.int (i:Int),l.getD i .non]
def Yse(c:D):Option (List D):=(Ym c).map Yjc
theorem Yh0{l:List D}{i:Nat}{d:D}(h:(Yjc l)[i]?=some d):∃e,l[i]?=some e/\d=.tup [.int i,e]:=by
 unfold Yjc at h
 rw[Qg]at h
 obtain⟨j,h1,rfl⟩:=qb h
 have hj:i < l.length:=by
  have:=(qm h1).1
  simpa using this
 rw[List.getElem?_range hj]at h1
 cases h1
 exact⟨l[i],qp hj,by simp[hj]⟩
theorem Ybc(l:List D):(Yjc l).length=l.length:=by simp[Yjc]
theorem Gr.newTup{H G:Hp}{d:D}{x:V}(s:Same G H){p:Addr}(hp:H p=none)(i:Nat)(r:Rp K G d x):∃G3,Gr H G (upd H p (.tup [.int i,x])) G3/\Rp K G3 (.tup [.int i,d]) (.ref p):=by
 refine⟨_,Gr.new s hp (.tup [.int i,x]),?_⟩
 rw[Rp]
 exact⟨p,_,rfl,Yt,.cons (by rw[Rp]) (.one (r.mono (Gr.new s hp _).g))⟩
theorem Ymf{l:Expr}{f:Ro->Option D}{p:Pos}(hg:Gl X "enumerate")(hm:X.mg "enumerate"=none)(hl:ME X l f)(hs:starEach [l] X.env=[(false,eval l X.env)]:=by rfl) :
 MI X (.Tuple elts x1 pt) (.Call (.Name "enumerate" p) [l] [] pos) (b1 f Yse):=
 PI.imp (Yyz hg hm (Yrz hl Yw1 hs) hs) fun σ H R hx_=>by
  obtain⟨ρ,ds,H0,G0,G,e,s,h⟩:=hx_
  obtain⟨c,h1,h2⟩:=Ybm e
  obtain⟨l,h3,rfl⟩:=qb h2
  refine tAof.at (show Ye f aNil ρ=some [c] by simp[Ye,aNil,h1]) s fun vs H1 G1 g1 r1 s1=>?_
  obtain⟨v,rfl,rv⟩:=Yhq r1
  rcases Yaw h3 with rfl | rfl | ⟨ns,rfl,rfl⟩
  ·rw[Rp]at rv
   obtain⟨p,xs,rfl,g,rl⟩:=rv
   refine⟨p,xs,rfl,.inr ⟨.inl (.inl (s1.seen _ _ g)),fun hz=>h _ H1 G1 g1 ⟨by rw[Ybc,<-rl.length];exact hz,fun i H2 G2 e1 e2=>⟨fun d hd=>?_,fun hi=>⟨xs,.inl (.inl (e2 _ _ (e1 _ _ g))),by rw[rl.length,<-Ybc l];exact hi⟩⟩⟩⟩⟩
   obtain⟨d',hd',rfl⟩:=Yh0 hd
   obtain⟨x,hx,rx⟩:=rl.get hd'
   refine⟨⟨xs,x,.inl (.inl (e2 _ _ (e1 _ _ g))),hx⟩,fun y H3 q=>?_⟩
   obtain⟨y',q',a1,a2,rfl,rfl⟩:=q
   have:=a1 xs (.inl (.inl (e2 _ _ (e1 _ _ g))))
   rw[hx]at this
   cases this
   exact Gr.newTup e2 a2 i (rx.mono e1)
  ·rw[Rp]at rv
   obtain⟨p,xs,rfl,g,rl⟩:=rv
   refine⟨p,xs,rfl,.inl ⟨.inl (Yaz s1.seen g),fun hz=>h _ H1 G1 g1 ⟨by rw[Ybc,<-rl.length];exact hz,fun i H2 G2 e1 e2=>⟨fun d hd=>?_,fun hi=>⟨xs,.inl (Yaz e2 (Yaz e1 g)),by rw[rl.length,<-Ybc l];exact hi⟩⟩⟩⟩⟩
   obtain⟨d',hd',rfl⟩:=Yh0 hd
   obtain⟨x,hx,rx⟩:=rl.get hd'
   refine⟨⟨xs,x,.inl (Yaz e2 (Yaz e1 g)),hx⟩,fun y H3 q=>?_⟩
   obtain⟨y',q',a1,a2,rfl,rfl⟩:=q
   have:=a1 xs (.inl (Yaz e2 (Yaz e1 g)))
   rw[hx]at this
   cases this
   exact Gr.newTup e2 a2 i (rx.mono e1)
  ·rw[Rp]at rv
   obtain⟨p,rfl,g⟩:=rv
   have rl:RpL X.K G1 (ns.map D.int) (ns.map V.int):=.ints ns
   refine⟨p,_,rfl,.inl ⟨s1.seen.seq g,fun hz=>h _ H1 G1 g1 ⟨by rw[Ybc,<-rl.length];exact hz,fun i H2 G2 e1 e2=>⟨fun d hd=>?_,fun hi=>⟨_,e2.seq (e1.seq g),by rw[rl.length,<-Ybc];exact hi⟩⟩⟩⟩⟩
   obtain⟨d',hd',rfl⟩:=Yh0 hd
   obtain⟨x,hx,rx⟩:=rl.get hd'
   refine⟨⟨_,x,e2.seq (e1.seq g),hx⟩,fun y H3 q=>?_⟩
   obtain⟨y',q',a1,a2,rfl,rfl⟩:=q
   have:=a1 _ (e2.seq (e1.seq g))
   rw[hx]at this
   cases this
   exact Gr.newTup e2 a2 i (rx.mono e1)
end
end
section
variable {K:W.Frag}
def Yh1(k:Int):Value->Bool
 | .int i _=>i==k
 | .bool b=>(if b then 1 else 0)==k
 | _=>false
theorem Ybn{k:Int}{v:Value}(h:Yh1 k v=true):(∃t,v=.int k t)\/∃b:Bool,v=.bool b/\k=if b then 1 else 0:=by
 cases v with
 | int i t=>
   have e:i=k:=by simpa [Yh1]using h
   exact .inl ⟨t,by rw[e]⟩
 | bool b=>
   have e:(if b then (1:Int)else 0)=k:=by simpa [Yh1]using h
   exact .inr ⟨b,rfl,e.symm⟩
 | _=>simp[Yh1]at h
theorem Yn7{prog:Program}{w:World}{A:Around}{E:Value->Shared->Prop}{s:Shared}{b:Bool}{Q:Int->Shared->Prop}(h:Q (hashInt (if b then 1 else 0)) { s with toks:=s.toks+1 }) :
 wpAny (model prog w) A (pyHash (.bool b)) Q E s:=by
 have hr:=rawHash_range (if b then 1 else 0)
 have hT:s.TypeIs (.bool b) "bool":=rfl
 unfold pyHash
 first | unfold pyHashByItsType | skip
 have hv:[Value.bool b].any Value.onHeap=false:=rfl
 refine wpAny_bind ?_
 rw[cRoomFor,if_neg (by rw[hv];exact qh)];refine wpAny_pure ?_
 refine wpAny_bind (wpAny_specialOf hT F.slot_bool_hash.lookup ?_)
 show wpAny _ _ (if (some (Value.builtin "int.__hash__")==some Value.none)=true then _ else _) Q E s
 rw[if_neg (by rw[beq_builtin_none];exact qh)]
 refine wpAny_bind (wpAny_specialOf hT F.slot_bool_hash.lookup ?_)
 show wpAny _ _ (callSpecialIfBoundUnlessNone? (.bool b) "__hash__" _ >>= _) Q E s
 refine wpAny_bind (wpAny_callSpecialIfBoundUnlessNone?_slot hT F.slot_bool_hash
  (wpAny_call_entry F.slot_bool_hash hT entry_int_hash
   (show wpAny _ _ (do ret (<-mkInt (rawHash (if b then 1 else 0)))) _ _ s from wpAny_ret_mkInt ?_) (args_int_hash _)))
 show wpAny _ _ (if (decide (-(2:Int) ^ 63<=rawHash (if b then 1 else 0))&&decide (rawHash (if b then 1 else 0) < 2 ^ 63))=true then _ else _) Q E _
 rw[if_pos (by rw[decide_eq_true hr.1,decide_eq_true hr.2];rfl)]
 exact wpAny_pure h
def Ya9(prog:Program)(w:World):KeyKind prog w Int where
 is:=Yh1
 hash:=hashInt
 inj:=fun v a b ha hb=>by
  rcases Ybn ha with⟨t,rfl⟩ | ⟨c,rfl,rfl⟩
  ·have e:a=b:=by simpa [Yh1]using hb
   exact e
  ·have e:(if c then (1:Int)else 0)=b:=by simpa [Yh1]using hb
   exact e
 byValue:=fun k v h=>by
  rcases Ybn h with⟨t,rfl⟩ | ⟨c,rfl,rfl⟩<;>rfl
 pyHash:=fun hv h=>by
  rcases Ybn hv with⟨t,rfl⟩ | ⟨c,rfl,rfl⟩
  ·exact wpAny_pyHash_int h
  ·exact Yn7 h
 eqBool:=fun {A E s a b u v Q} hu hv h=>by
  rcases Ybn hu with⟨t,rfl⟩ | ⟨c,rfl,rfl⟩
  ·rcases Ybn hv with⟨t',rfl⟩ | ⟨c',rfl,rfl⟩
   ·exact wpAny_eqBool_int (by rw[show(a==b)=decide (a=b) from rfl];exact h)
   ·exact SeqAt.EqAt.int_bool a t c' _ _ _ _ (by rw[show(a==if c'=true then 1 else 0)=decide (a=if c'=true then 1 else 0) from rfl];exact h)
  ·rcases Ybn hv with⟨t',rfl⟩ | ⟨c',rfl,rfl⟩
   ·exact SeqAt.EqAt.bool_int c b t' _ _ _ _ (by rw[show((if c=true then 1 else 0)==b)=decide ((if c=true then 1 else 0)=b) from rfl];exact h)
   ·refine SeqAt.EqAt.bool_bool c c' _ _ _ _ ?_
    have e:(c==c')=decide ((if c=true then (1:Int)else 0)=if c'=true then 1 else 0):=by cases c<;>cases c'<;>rfl
    rw[e];exact h
 «strs»:=fun k x t v h=>by simp[Yh1]at h
end
section
open Sem (wp)
variable {K:W.Frag}
end
section
variable {K:W.Frag}
section
variable {X:Cx} {e ie:Expr} {f fb:Ro->Option D} {pos:Pos}
def rIns:V->List V->Hp->VK->Prop:=fun x vs H Q=>∃l xs i y,x=.ref l/\vs=[.int i,y]/\H l=some (.lst xs)/\0<=i/\i<=xs.length/\xs.length < sizeLine/\Q .non (upd H l (.lst (xs.take i.toNat++y::xs.drop i.toNat)))
theorem Ysf:MtM X "list.insert" rIns:=by
 intro pins s σ H x vs v us Q I rx rv h
 obtain⟨l,xs,i,y,rfl,rfl,hH,h0,hi,hz,q⟩:=h
 cases rx
 obtain⟨u1,u2,rfl,⟨t,rfl⟩,r2⟩:=Ynx rv
 obtain⟨z,its,n,r,hl,e⟩:=I.lstM hH
 have hn:=sizeLine_eq
 have hfit:¬(!Builtin.List.listFitsIndex i)=true:=by
  unfold Builtin.List.listFitsIndex
  have a1:-(2 ^ 63:Int)<=i:=by lia
  have a2:i < 2 ^ 63:=by lia
  simp
  exact⟨by lia,by lia⟩
 refine call_meets F.slot_list_insert ⟨_,e,rfl⟩ F.entry_list_insert (F.args_list_insert_3 _ _ _) (AutoSeq1.list_insert_list_int_val_1 l its.toArray n i t u2 hfit (by rw[qj];lia)) ⟨e,?_⟩
 have hk:¬i < 0:=by lia
 have hm:min i.toNat its.length=i.toNat:=by lia
 refine⟨.non,_,I.lset (its':=its.take i.toNat++u2::its.drop i.toNat) hH e ?_ ((r.take _).append (.cons r2 (r.drop _))) ?_,rfl,q⟩
 ·simp only[if_neg hk,qj,hm]
  apply Array.toList_inj.mp
  simp
  exact List.take_of_length_le (by simp)
 ·simp
  lia
def insD(l:List D)(k d:D):Option (List D):=(intD k).bind fun i=>if decide (0<=i)&&decide (i<=l.length)&&decide (l.length < cap6)then some (l.take i.toNat++d::l.drop i.toNat)else none
theorem Ysg(i:Nat){x:Str}{p2 apos cpos:Pos}(hb:ME X ie fb)(he:ME X e f)(hN:X.N[i]?=some x:=by rfl)(hv:Vis X.env.scope x:=by first | exact Or.inl rfl | exact Or.inr (Or.inl rfl) | exact Or.inr (Or.inr rfl))
 (hd:(x==("__debug__":Str))=false:=by decide) (hcd:(x==("__classdict__":Str))=false:=by decide) (hse:swapsWith (.Call (.Attribute (.Name x p2) "insert" apos) [ie,e] [] cpos) none pos.line X.env=pure false:=by rfl)
 (hs:starEach [ie,e] X.env=(false,eval ie X.env)::starEach [e] X.env:=by rfl) (hs2:starEach [e] X.env=[(false,eval e X.env)]:=by rfl)
 (hfew:((backTo cpos (starEach [ie,e] X.env)).all (fun x=>!x.1)&&(backToKw cpos (keywordEach [] X.env)).all (fun x=>x.1.isSome)&&decide ([ie,e].length+([]:List Keyword).length+(if ([]:List Keyword).isEmpty then 0 else 1) < 30))=true:=by rfl)
 (hline:(apos.endLine==cpos.line)=true:=by rfl) (hbase:attributeBase (.Name x p2) "insert" X.env (eval (.Name x p2) X.env)=eval (.Name x p2) X.env:=by rfl) (hpl:(backTo cpos (starEach [e] X.env)).any (·.1)=false:=by rfl) :
 MS X (.Expr (.Call (.Attribute (.Name x p2) "insert" apos) [ie,e] [] cpos) pos) (Ysd i fb f insD):=
 PS.imp (Yhd (Yx2 PySem.F.plainAttrs_list PySem.F.slot_list_insert PySem.F.type_list_insert Ysf (Yhb hN hv hd hcd) (Ybd hb (Ybd he Yeb hs2) hs) hbase hfew hline hs hpl) hse) fun F σ H hx_=>by
  obtain⟨ρ,out,H0,G0,G,e,s,h⟩:=hx_
  unfold Ysd at e
  obtain⟨d,h1,e⟩:=qa e
  obtain⟨l,h2,e⟩:=qa e
  obtain⟨k,h3,e⟩:=qa e
  obtain⟨l',h4,rfl⟩:=qb e
  unfold insD at h4
  obtain⟨n,h5,h4⟩:=qa h4
  split at h4
  ·rename_i hc
   cases h4
   simp only[Qf,decide_eq_true_eq]at hc
   obtain⟨⟨hc1,hc2⟩,hc3⟩:=hc
   obtain⟨a,xs,ha,hH,hr,hG⟩:=Yr4 s h2
   refine⟨_,ha,.inl ⟨rfl,xs,SqL.of hH⟩,tOf.at h3 s fun u H1 G1 g1 r1 s1=>tOf.at h1 s1 fun v H2 G2 g2 r2 s2=>?_⟩
   cases k<;>simp[intD]at h5
   subst h5
   rw[Rp]at r1
   subst r1
   have hr2:=(hr.mono g1.g).mono g2.g
   refine⟨a,xs,_,v,rfl,rfl,g2.h _ _ (g1.h _ _ hH),hc1,by rw[hr.length];exact hc2,?_,h σ _ G2 (s2.mut (Ye4 h2) ha ((hr2.take _).append (.cons r2 (hr2.drop _))))⟩
   rw[hr.length]
   exact Qc hc3 (Ydo (qt _))
  ·cases h4
def rExt:V->List V->Hp->VK->Prop:=fun x vs H Q=>∃l b xs zs,x=.ref l/\vs=[.ref b]/\H l=some (.lst xs)/\Rd H b (.lst zs)/\xs.length+zs.length<=sizeLine/\Q .non (upd H l (.lst (xs++zs)))
theorem y2r:MtM X "list.extend" rExt:=by
 intro pins s σ H x vs v us Q I rx rv h
 obtain⟨l,b,xs,zs,rfl,rfl,hH,hB,hz,q⟩:=h
 cases rx
 obtain⟨u,rfl,ru⟩:=rv.one
 cases ru
 obtain⟨z,its,n,r,hl,e⟩:=I.lstM hH
 obtain⟨z2,its2,n2,r2,e2⟩:=hB.ok I.hok
 have hl2:=r2.length
 have hsz:its.toArray.size+its2.toArray.size<=sizeLine:=by rw[qj,qj];lia
 have hlong:¬(!its.toArray.isEmpty&&Builtin.List.listTooLong (its.toArray.size+its2.toArray.size))=true:=by
  rw[Yu5 hsz,Bool.and_false]
  exact qh
 refine call_meets F.slot_list_extend ⟨_,e,rfl⟩ F.entry_list_extend (F.args_list_extend_2 _ _)
  (AutoSeq1.list_extend_list_list_0 l its.toArray n b its2.toArray n2 hlong (by rw[qj];lia) (by lia)) ⟨e,e2,?_⟩
 refine⟨.non,_,I.lset (its':=its++its2) hH e (by simp) (r.append r2) ?_,rfl,q⟩
 rw[qx]
 lia
def extD(l:List D)(d:D):Option (List D):=match d with
 | .lst m=>if l.length+m.length<=cap6 then some (l++m)else none
 | _=>none
theorem Ysh(i:Nat){x:Str}{p2 apos cpos:Pos}(he:ME X e f)(hN:X.N[i]?=some x:=by rfl)(hv:Vis X.env.scope x:=by first | exact Or.inl rfl | exact Or.inr (Or.inl rfl) | exact Or.inr (Or.inr rfl))
 (hd:(x==("__debug__":Str))=false:=by decide) (hcd:(x==("__classdict__":Str))=false:=by decide) (hse:swapsWith (.Call (.Attribute (.Name x p2) "extend" apos) [e] [] cpos) none pos.line X.env=pure false:=by rfl)
 (hs:starEach [e] X.env=[(false,eval e X.env)]:=by rfl)
 (hfew:((backTo cpos (starEach [e] X.env)).all (fun x=>!x.1)&&(backToKw cpos (keywordEach [] X.env)).all (fun x=>x.1.isSome)&&decide ([e].length+([]:List Keyword).length+(if ([]:List Keyword).isEmpty then 0 else 1) < 30))=true:=by rfl)
 (hline:(apos.endLine==cpos.line)=true:=by rfl) (hbase:attributeBase (.Name x p2) "extend" X.env (eval (.Name x p2) X.env)=eval (.Name x p2) X.env:=by rfl) :
 MS X (.Expr (.Call (.Attribute (.Name x p2) "extend" apos) [e] [] cpos) pos) (sMut i f extD):=
 PS.imp (Yhd (Yx2 PySem.F.plainAttrs_list PySem.F.slot_list_extend PySem.F.type_list_extend y2r (Yhb hN hv hd hcd) (Ybd he Yeb hs) hbase hfew hline hs rfl) hse) fun F σ H hx_=>by
  obtain⟨ρ,out,H0,G0,G,e,s,h⟩:=hx_
  unfold sMut at e
  obtain⟨l,h1,e⟩:=qa e
  obtain⟨d,h2,e⟩:=qa e
  obtain⟨l',h3,rfl⟩:=qb e
  unfold extD at h3
  split at h3
  ·rename_i m
   split at h3
   ·rename_i hl
    cases h3
    obtain⟨a,xs,ha,hH,hr,hG⟩:=Yr4 s h1
    refine⟨_,ha,.inl ⟨rfl,xs,SqL.of hH⟩,tOf.at h2 s fun v H1 G1 g1 r1 s1=>?_⟩
    rw[Rp]at r1
    obtain⟨b,zs,rfl,gb,rz⟩:=r1
    refine⟨a,b,xs,zs,rfl,rfl,g1.h _ _ hH,Yaz s1.seen gb,?_,h σ _ G1 (s1.mut (Ye4 h1) ha ((hr.mono g1.g).append rz))⟩
    rw[hr.length,rz.length]
    exact Ydo hl
   ·cases h3
  ·cases h3
end
end
section
variable {K:W.Frag}
def GI(mg:Str->Option Value)(x:Str)(i:Int):Prop:=∃t,mg x=some (.int i t)
section
variable {X:Cx} {ke:Expr} {fk:Ro->Option D} {pos px:Pos} {x:Str}
theorem Yy0{i:Int}(g:GI X.mg x i)(hg:Gl X x)(hd:(x==("__debug__":Str))=false:=by decide):ME X (.Name x px) (kD (.int i)):=by
 obtain⟨t,hm⟩:=g
 exact Ye5 (v:=.int i) (Ynv (v:=.int i) hg hm ⟨t,rfl⟩ hd) (fun _ _ _ q=>q) fun _=>by rw[Rp]
end
def tK(x:Str):TE:=fun _ H Q=>Q (.str x) H
structure MP(X:Cx)(pos:Pos)(keys:List (Option Expr))(values:List Expr)(ks:List Str)(fs:List (Ro->Option D)):Prop where
 len:ks.length=fs.length
 pps:PPs X pos keys values ((ks.zip fs).map fun p=>(tK p.1,tOf X.K p.2))
 all:keys.all (·.isSome)=true
 kv:keys.length=values.length
 kk:keys.length=ks.length
def evs:List (Ro->Option D)->Ro->Option (List D)
 | [],_=>some []
 | f::fs,ρ=>(f ρ).bind fun d=>(evs fs ρ).map (d::·)
end
section
variable {K:W.Frag}
structure DtH(H:Hp)(a:Addr)(nks:List (List Int × Addr))(vxs:List V):Prop where
 at':∃ep,H a=some (dTo a nks vxs ep)
 len:nks.length=vxs.length
 nd:(nks.map (·.1)).Nodup
 keys:∀p∈nks,∃ys,H p.2=some (.tup ys)/\Yyb ys=some p.1
end
section
end
section
section
variable {X:Cx} {a b c e:Expr} {fa fb fc:Ro->Option D} {pos:Pos} {st:Stmt}
def ch3(fa fb fc:Ro->Option D)(g g':D->D->Option Bool):Ro->Option Bool:=fun ρ=>
 (fa ρ).bind fun x=>(fb ρ).bind fun y=>(g x y).bind fun k=>if k=true then (fc ρ).bind fun z=>g' y z else some false
theorem Yvp{g g':D->D->Option Bool}{ρ:Ro}{k:Bool}(h:ch3 fa fb fc g g' ρ=some k) :
 ∃x y,fa ρ=some x/\fb ρ=some y/\((g x y=some false/\k=false)\/(g x y=some true/\∃z,fc ρ=some z/\g' y z=some k)):=by
 unfold ch3 at h
 obtain⟨x,h1,h⟩:=qa h
 obtain⟨y,h2,h⟩:=qa h
 obtain⟨q,h3,h⟩:=qa h
 refine⟨x,y,h1,h2,?_⟩
 cases q with
 | false=>
   rw[if_neg (by simp)]at h
   cases h
   exact .inl ⟨h3,rfl⟩
 | true=>
   rw[if_pos rfl]at h
   obtain⟨z,h4,h⟩:=qa h
   exact .inr ⟨h3,z,h4,h⟩
theorem Yvq{op op':CmpOp}{r r':R2}{g g':D->D->Option Bool}(ho:OpR X (compareOp op) r)(hr:Ye3 X.K r g)(ho':OpR X (compareOp op') r')(hr':Ye3 X.K r' g')(ha:MC X a fa)(hb:MC X b fb)(hc:MC X c fc)
 (hm:lastMarks [op,op'] [b,c]=false:=by with_unfolding_all rfl):ME X (.Compare a [op,op'] [b,c] pos) (mB (ch3 fa fb fc g g')):=
 PE.imp (Yu2 ho ho' ha hb hc hm) fun σ H Q h=>by
  obtain⟨ρ,d,H0,G0,G,e,s,h⟩:=h
  obtain⟨k,ek,rfl⟩:=Yn2 e
  obtain⟨x,y,h1,h2,h3⟩:=Yvp ek
  refine tCof.at h1 s fun v H1 G1 g1 r1 s1=>tCof.at h2 s1 fun u H2 G2 g2 r2 s2=>?_
  rcases h3 with⟨h3,rfl⟩ | ⟨h3,z,h4,h5⟩
  ·exact hr v u x y false H2 G2 _ h3 s2.seen (r1.grow g2) r2 ⟨false,rfl,by rw[if_neg (by simp)];exact h _ H2 G2 (g1.trans g2) (by rw[Rp])⟩
  ·refine hr v u x y true H2 G2 _ h3 s2.seen (r1.grow g2) r2 ⟨true,rfl,?_⟩
   rw[if_pos rfl]
   exact tCof.at h4 s2 fun w H3 G3 g3 r3 s3=>hr' u w y z k H3 G3 _ h5 s3.seen (r2.grow g3) r3 (h _ H3 G3 ((g1.trans g2).trans g3) (by rw[Rp]))
def nS:Ro->Option Out:=fun _=>none
theorem Yvr:MS X st nS:=fun _ _ _ _ _ _ ⟨_,_,_,_,_,h,_⟩=>nomatch h
end
end
section
end
section
variable {K:W.Frag}
set_option maxRecDepth 100000
section
variable {X:Cx} {e:Expr} {f:Ro->Option D} {p pos:Pos}
theorem nr1{α:Sort _}{a b:α}(h:a=b):a=b:=h
end
end
section
section
variable {X:Cx} {a b e:Expr} {fa fb f:Ro->Option D} {pos:Pos} {K:W.Frag}
theorem Yn8{M:Model}{A:Around}{E:Value->Shared->Prop}{s:Shared}{Q:Value->Shared->Prop}{v:Value}{k:Bool}(hb:∀id,v≠.builtin id)(h:Q (.bool (v==.bool k)) s):wpAny M A (compareOp .Is v (.bool k)) Q E s:=by
 cases v<;>first | exact wpAny_pure h | exact absurd rfl (hb _)
theorem Yjd{M:Model}{A:Around}{E:Value->Shared->Prop}{s:Shared}{Q:Value->Shared->Prop}{v:Value}{k:Bool}(hb:∀id,v≠.builtin id)(h:Q (.bool (!(v==.bool k))) s):wpAny M A (compareOp .IsNot v (.bool k)) Q E s:=by
 cases v<;>first | exact wpAny_pure h | exact absurd rfl (hb _)
def isBl(k:Bool):D->Bool
 | .bl j=>j==k
 | _=>false
def isB(neg:Bool):D->D->Option Bool
 | d,.bl k=>some (isBl k d != neg)
 | _,_=>none
theorem vbl{x:V}{v:Value}(r:RelV x v)(k:Bool):(v==.bool k)=decide (x=.bl k):=by
 cases x with
 | bl j=>
   cases (show v=Value.bool j from r)
   by_cases h:j=k
   ·subst h;simp
   ·simp[h]
 | non=>cases (show v=Value.none from r);rfl
 | int i=>obtain⟨t,rfl⟩:=r;rfl
 | str i=>obtain⟨t,rfl⟩:=r;rfl
 | ref i=>cases (show v=Value.ref i from r);rfl
 | _=>first | (obtain⟨t,rfl⟩:=r;rfl) | (cases r;rfl)
theorem nobl{x:V}{v:Value}(r:RelV x v):∀id,v≠.builtin id:=fun id z=>by
 subst z
 cases x<;>first | (obtain⟨t,h⟩:=r;cases h;done) | (cases r;done)
theorem y2s:OpR X (compareOp .Is) (fun x y H Q=>∃k,y=.bl k/\Q (.bl (decide (x=.bl k) != false)) H):=by
 intro pins s σ H x y v u Q I rx ry h
 obtain⟨k,rfl,q⟩:=h
 cases ry
 refine Yn8 (nobl rx) ⟨_,H,I,?_,q⟩
 rw[vbl rx]
 simp
 rfl
theorem Yy1:OpR X (compareOp .IsNot) (fun x y H Q=>∃k,y=.bl k/\Q (.bl (decide (x=.bl k) != true)) H):=by
 intro pins s σ H x y v u Q I rx ry h
 obtain⟨k,rfl,q⟩:=h
 cases ry
 refine Yjd (nobl rx) ⟨_,H,I,?_,q⟩
 rw[vbl rx]
 simp
 rfl
theorem Yy2{G H:Hp}{d:D}{v:V}(r:Ct K G H d v)(k:Bool):decide (v=.bl k)=isBl k d:=by
 cases d with
 | bl j=>
   rw[Ct]at r
   subst r
   by_cases h:j=k
   ·subst h;simp[isBl]
   ·simp[isBl,h]
 | non=>rw[Ct]at r;subst r;simp[isBl]
 | int i=>rw[Ct]at r;subst r;simp[isBl]
 | str i=>rw[Ct]at r;obtain⟨rfl,_⟩:=r;simp[isBl]
 | tup l=>rw[Ct]at r;obtain⟨a,xs,rfl,_⟩:=r;simp[isBl]
 | lst l=>rw[Ct]at r;obtain⟨a,xs,rfl,_⟩:=r;simp[isBl]
 | scr l=>rw[Ct]at r;obtain⟨a,rfl,_⟩:=r;simp[isBl]
 | dct t l m=>rw[Ct]at r;obtain⟨a,xs,ys,rfl,_⟩:=r;simp[isBl]
 | obj t l m=>rw[Ct]at r;obtain⟨a,C,dx,xs,rfl,_⟩:=r;simp[isBl]
 | adr a=>rw[Ct]at r;subst r;simp[isBl]
theorem Ysi{neg:Bool}:Ye3 K (fun x y H Q=>∃k,y=.bl k/\Q (.bl (decide (x=.bl k) != neg)) H) (isB neg):=by
 intro x y dx dy c H G Q h s rx ry q
 unfold isB at h
 split at h
 ·rename_i k
  cases h
  have e:=Yy2 rx k
  rw[Ct]at ry
  subst ry
  exact⟨k,rfl,by rw[e];exact q⟩
 ·cases h
theorem y2t(ha:MC X a fa)(hb:MC X b fb):MT X (.Compare a [.Is] [b] pos) (b2 fa fb (isB false)):=Ye6 y2s Ysi ha hb (Ydl _)
theorem Yy3(ha:MC X a fa)(hb:MC X b fb):MT X (.Compare a [.IsNot] [b] pos) (b2 fa fb (isB true)):=Ye6 Yy1 Ysi ha hb (Ydl _)
theorem nr2{α:Sort _}{a b:α}(h:a=b):a=b:=h
@[simp] theorem isB_bl(neg:Bool)(d:D)(k:Bool):isB neg d (.bl k)=some (isBl k d != neg):=nr2 rfl
@[simp] theorem isBl_bl(k j:Bool):isBl k (.bl j)=(j==k):=nr2 rfl
end
end
section
set_option maxRecDepth 100000
def Yw5:List D->Option (List (Int × D))
 | []=>some []
 | .tup [.int i,v]::l=>(Yw5 l).map ((i,v)::·)
 | _=>none
def pairsOf:D->Option (List (Int × D))
 | .lst l=>Yw5 l
 | _=>none
variable {K:W.Frag}
end
section
def Yy4:List Value->List Str->Prop:=Paired fun v k=>(∃t,v=.str k t)/\PyData.strOk k=true
def GT(K:W.Frag)(mg:Str->Option Value)(x:Str)(ks:List Str):Prop:=∃p o its n,mg x=some (.ref p)/\K.lookup p=some o/\o.cls=.type "tuple"/\o.data=.seq its n/\Yy4 its.toList ks
theorem Yj3{h:Heap}:∀{vs:List Value} {ks:List Str},Yy4 vs ks->∃as,ReadsAll h vs (ks.map PyData.str) as/\PyData.canLayAll0 (ks.map PyData.str)=true
 | _,_,.nil=>⟨_,.nil,by simp[PyData.canLayAll0]⟩
 | _,_,.cons r t=>by
   obtain⟨⟨tk,rfl⟩,hk⟩:=r
   obtain⟨as,h1,h2⟩:=Yj3 (h:=h) t
   exact⟨_,.cons (.str _ tk) h1,by simp[PyData.canLayAll0,PyData.canLay0,h2,hk]⟩
def inG(neg:Bool)(ks:List Str):D->Option Bool
 | .str k=>some (decide (k∈ks) != neg)
 | _=>none
def rInG(p:Addr)(ks:List Str)(neg:Bool):R2:=fun x y H Q=>∃k,x=.str k/\PyData.strOk k=true/\y=.ref p/\Q (.bl (decide (k∈ks) != neg)) H
theorem Ysj(k:Str):∀ks:List Str,((ks.map PyData.str).any fun y=>PyData.eqv y (.str k))=decide (k∈ks)
 | []=>rfl
 | a::ks=>by
   rw[Qb,List.any_cons,Ysj k ks]
   have e:PyData.eqv (.str a) (.str k)=decide (k=a):=by
    simp only[PyData.eqv]
    rw[show(a==k)=decide (a=k) from rfl]
    exact decide_eq_decide.mpr ⟨fun h=>h.symm,fun h=>h.symm⟩
   rw[e]
   by_cases h:k=a<;>simp[h]
section
variable {X:Cx} {a:Expr} {fa:Ro->Option D} {pos px:Pos} {x:Str} {ks:List Str}
theorem Yy5(hu:X.A.units+64 < cLine){p:Addr}{o:Obj}{its:Array Value}{n:Nat}(hl:X.K.lookup p=some o)(hc:o.cls=.type "tuple")(hd:o.data=.seq its n)(hs:Yy4 its.toList ks):OpR X (compareOp .NotIn) (rInG p ks true):=by
 intro pins s σ H x y v u Q I rx ry h
 obtain⟨k,rfl,hk,rfl,q⟩:=h
 cases ry
 obtain⟨t,rfl⟩:=rx
 obtain⟨as,h1,h2⟩:=Yj3 (h:=s.heap) hs
 have ht:Reads s.heap (.ref p) (.tuple (ks.map PyData.str)) _:=.tuple (I.kIn p o hl) hc hd h1
 refine SeqAt.notIn_tuple_reads ht (.str k t) (by simpa [PyData.canLay0]using h2) (by simp[PyData.canLay0,hk]) ?_ ⟨.bl _,H,I,rfl,?_⟩
 ·have e:(PyData.str k).depth=0:=by simp[PyData.depth]
  rw[e]
  lia
 ·rw[Ysj]
  have e:(!decide (k∈ks))=(decide (k∈ks) != true):=by cases decide (k∈ks)<;>rfl
  rw[e]
  exact q
theorem Yy6(hu:X.A.units+64 < cLine)(g:GT X.K X.mg x ks)(hg:Gl X x)(ha:MC X a fa)(hm:behindInMarks .NotIn (.Name x px)=false:=by with_unfolding_all rfl)(hd:(x==("__debug__":Str))=false:=by decide):MT X (.Compare a [.NotIn] [.Name x px] pos) (b1 fa (inG true ks)):=by
 obtain⟨p,o,its,n,hmg,hl,hc,hdt,hs⟩:=g
 refine PT.imp (Yrk (Yy5 hu hl hc hdt hs) ha (Ynv (v:=.ref p) hg hmg rfl hd) hm) fun σ H Q hx_=>?_
 obtain⟨ρ,b,H0,G0,G,e,s,h⟩:=hx_
 obtain⟨d,h1,h2⟩:=Ybm e
 refine tCof.at h1 s fun v H1 G1 g1 r1 s1=>?_
 unfold inG at h2
 split at h2
 ·rename_i k
  cases h2
  rw[Ct]at r1
  exact⟨k,r1.1,r1.2,rfl,_,rfl,h H1 G1 g1⟩
 ·cases h2
@[simp] theorem inG_str(neg:Bool)(ks:List Str)(k:Str):inG neg ks (.str k)=some (decide (k∈ks) != neg):=nr1 rfl
end
end
section
end
section
set_option maxRecDepth 100000
section
variable {prog:Program} {w:World} {A:Around} {E:Value->Shared->Prop} {s:Shared} {X:Cx} {pins:List (Addr × Obj)} {σ:L2.St} {H:Hp} {e:Expr} {f:Ro->Option D} {p p2 pos pos2:Pos}
theorem Yn9:isSubtype (.type "set") (.type "set")=pure true:=by rw[isSubtype_type];kernel_rfl
theorem _root_.L2.Inv.dr(I:Inv X pins σ H s)(d':Drawn):Inv X pins σ H { s with drawn:=d' }:=⟨I.ok,I.os,I.bare,I.base,I.loc,I.cell,I.free,I.freeC,I.pin,I.hok,I.len⟩
theorem Ysk{ns:List Int}{us:List Value}(r:Vals (ns.map V.int) us):IntsAre us ns:=Yfm r
theorem nr0{α:Sort _}{a b:α}(h:a=b):a=b:=h
end
end
section
def lcgN(m:Nat):Nat->Nat->Nat
 | 0,i=>i
 | k+1,i=>lcgN m k ((i * 5+1) % m)
theorem Yg2(m:Nat):∀(a b i:Nat),lcgN m (a+b) i=lcgN m b (lcgN m a i)
 | 0,b,i=>by rw[Nat.zero_add];rfl
 | a+1,b,i=>by rw[Nat.succ_add];exact Yg2 m a b _
def Yy7(m:Nat):Nat->Nat->List Nat
 | 0,_=>[]
 | k+1,i=>i::Yy7 m k ((i * 5+1) % m)
theorem Ymg{m j:Nat}:∀{k i:Nat},j∈Yy7 m k i->∃a,a < k/\lcgN m a i=j
 | 0,_,h=>(nomatch h)
 | k+1,i,h=>by
   rcases qr h with rfl | h
   ·exact⟨0,by lia,rfl⟩
   ·obtain⟨a,ha,e⟩:=Ymg h
    exact⟨a+1,by lia,e⟩
def cycB(m:Nat):Bool:=(List.range m).all (fun j=>(Yy7 m m 0).contains j)&&lcgN m m 0==0
def sizes:List Nat:=[8,16,32,64,128]
theorem Yy8:sizes.all cycB=true:=by decide +kernel
theorem Yw6{m:Nat}(hm:m∈sizes){i j:Nat}(hi:i < m)(hj:j < m):∃k,k < m/\lcgN m k i=j:=by
 have h:=List.all_eq_true.mp Yy8 m hm
 unfold cycB at h
 rw[Qf]at h
 obtain⟨h1,h2⟩:=h
 have h2':lcgN m m 0=0:=by simpa using h2
 have at0:∀x,x < m->∃a,a < m/\lcgN m a 0=x:=fun x hx=>by
  have:=List.all_eq_true.mp h1 x (List.mem_range.mpr hx)
  exact Ymg (by simpa using this)
 obtain⟨a,ha,rfl⟩:=at0 i hi
 obtain⟨b,hb,rfl⟩:=at0 j hj
 by_cases hab:a<=b
 ·refine⟨b - a,by lia,?_⟩
  rw[<-Yg2,Nat.add_sub_cancel' hab]
 ·refine⟨m - a+b,by lia,?_⟩
  rw[<-Yg2,show a+(m - a+b)=m+b by lia,Yg2,h2']
section
variable {mask:Nat} {owner:Array (Option Nat)}
theorem Ymh(fuel i p:Nat):(∃j,SetTable.layClean.free mask owner (fuel+1) i p=some j/\owner.getD j (some 0)=none)\/
 (owner.getD i (some 0)≠none/\SetTable.layClean.free mask owner (fuel+1) i p=SetTable.layClean.free mask owner fuel ((i * 5+1+p / 32) % (mask+1)) (p / 32)):=by
 rw[SetTable.layClean.free]
 cases e:(List.range (SetTable.runEnd mask i+1 - i)).find? (fun k=>(owner.getD (i+k) (some 0)).isNone)with
 | some k=>
   left
   have:=List.find?_some e
   exact⟨i+k,rfl,by simpa using this⟩
 | none=>
   right
   refine⟨fun z=>?_,rfl⟩
   have:=List.find?_eq_none.mp e 0 (List.mem_range.mpr (by unfold SetTable.runEnd;split<;>lia))
   simp[z]at this
theorem Ymi:∀(k fuel i:Nat),k < fuel->owner.getD (lcgN (mask+1) k i) (some 0)=none->∃j,SetTable.layClean.free mask owner fuel i 0=some j/\owner.getD j (some 0)=none
 | k,0,_,h,_=>absurd h (Nat.not_lt_zero _)
 | k,fuel+1,i,h,hf=>by
   rcases Ymh (mask:=mask) (owner:=owner) fuel i 0 with h1 | ⟨h1,h2⟩
   ·exact h1
   ·cases k with
    | zero=>exact absurd hf h1
    | succ k=>
      rw[h2]
      exact Ymi k fuel _ (by lia) hf
end
theorem Yfb{α β:Type}{f g:α->Option β}:∀{l:List α},(∀x∈l,f x=g x)->l.filterMap f=l.filterMap g
 | [],_=>rfl
 | x::l,h=>by
   have ih:=Yfb (l:=l) fun y hy=>h y (qf _ hy)
   have hx:=h x qg
   cases e:g x with
   | none=>rw[List.filterMap_cons_none (hx.trans e),List.filterMap_cons_none e,ih]
   | some v=>rw[List.filterMap_cons_some (hx.trans e),List.filterMap_cons_some e,ih]
theorem Yw7{k j:Nat}{f g:Nat->Option Nat}(hf:f j=none)(hg:g j=some k):∀{l:List Nat},l.Nodup->j∈l->(∀x∈l,x≠j->g x=f x)->(l.filterMap g).Perm (k::l.filterMap f)
 | [],_,hj,_=>(nomatch hj)
 | x::l,hn,hj,he=>by
   obtain⟨hx,hn⟩:=List.nodup_cons.mp hn
   by_cases e:x=j
   ·subst e
    have:l.filterMap g=l.filterMap f:=Yfb fun y hy=>he y (qf _ hy) fun z=>hx (z ▸ hy)
    rw[List.filterMap_cons_some hg,List.filterMap_cons_none hf,this]
   ·have hj':j∈l:=by
     rcases qr hj with z | z
     ·exact absurd z.symm e
     ·exact z
    have ih:=Yw7 hf hg hn hj' fun y hy=>he y (qf _ hy)
    have hxe:=he x qg e
    cases h:f x with
    | none=>rw[List.filterMap_cons_none (hxe.trans h),List.filterMap_cons_none h];exact ih
    | some v=>
      rw[List.filterMap_cons_some (hxe.trans h),List.filterMap_cons_some h]
      exact(ih.cons v).trans (.swap _ _ _)
theorem Yfc{α:Type}(xs:Array α)(p:Nat)(x:α):(SetTable.insertAt xs p x).size=xs.size+1:=by
 rw[<-qi,Yx,qx,qq,List.length_take,List.length_drop]
 simp
 lia
section
variable {prog:Program} {w:World} {A:Around} {E:Value->Shared->Prop} {s:Shared}
theorem Yvs{es:Array (Int × Value)}{o:Array Nat}(hp:o.toList.Perm (List.range es.size)):(o.filterMap (es[·]?)).toList.Perm es.toList:=by
 have h1:(o.filterMap (es[·]?)).toList=o.toList.filterMap (es.toList[·]?):=by simp
 rw[h1]
 have h2:(List.range es.size).filterMap (es.toList[·]?)=es.toList:=by
  have:∀l:List (Int × Value),(List.range l.length).filterMap (l[·]?)=l:=fun l=>by
   rw[Yfb (g:=fun i=>some (l.getD i (0,.none))) fun i hi=>?_]
   ·show List.filterMap (some ∘ fun i=>l.getD i (0,.none)) _=_
    rw[List.filterMap_eq_map]
    refine List.ext_getElem (by simp) fun i h1 h2=>?_
    simp[h2]
   ·have:=qz hi
    simp[this]
  have:=this es.toList
  rwa [qi]at this
 have:=hp.filterMap (es.toList[·]?)
 rwa [h2]at this
end
end
section
end
section
set_option maxRecDepth 100000
theorem Ypr{t:SetTable}(hp:t.place=#[])(hd:t.dummies=#[])(j:Nat):t.slot j=.empty:=by
 unfold SetTable.slot SetTable.has
 rw[hp,hd]
 rfl
theorem Ysl(j0 j:Nat):SetTable.below #[j0] j=if j0 < j then 1 else 0:=by
 show SetTable.below.go #[j0] j 1 0 1=_
 rw[SetTable.below.go,if_pos (by decide)]
 show(if #[j0].getD 0 j < j then SetTable.below.go #[j0] j 0 1 1 else SetTable.below.go #[j0] j 0 0 0)=_
 rw[SetTable.below.go,SetTable.below.go]
 rfl
theorem Yfd{t:SetTable}{j0:Nat}(hp:t.place=#[j0])(hd:t.dummies=#[])(j:Nat):t.slot j=if j=j0 then .live 0 else .empty:=by
 unfold SetTable.slot SetTable.has
 dsimp only
 rw[hp,hd,Ysl]
 by_cases h:j0 < j
 ·have h1:¬j=j0:=by lia
  simp[h,h1]
 ·by_cases h1:j=j0
  ·subst h1
   simp
  ·have h2:¬j0=j:=fun z=>h1 z.symm
   simp[h,h1,h2]
theorem Ymj{t:SetTable}(hm:t.mask=7){p:SetTable.Probe}(h0:p.more=0):t.advance p={ p with j:=(p.i * 5+1+p.perturb / 32) % 8,more:=0,i:=(p.i * 5+1+p.perturb / 32) % 8,perturb:=p.perturb / 32 }:=by
 unfold SetTable.advance
 rw[if_neg (by lia),hm]
 show({ p with j:=(p.i * 5+1+p.perturb / 32) % 8,more:=SetTable.runEnd 7 ((p.i * 5+1+p.perturb / 32) % 8) - (p.i * 5+1+p.perturb / 32) % 8,i:=(p.i * 5+1+p.perturb / 32) % 8,perturb:=p.perturb / 32 }:SetTable.Probe)=_
 have:SetTable.runEnd 7 ((p.i * 5+1+p.perturb / 32) % 8) - (p.i * 5+1+p.perturb / 32) % 8=0:=by
  unfold SetTable.runEnd
  split<;>lia
 rw[this]
theorem Yw8{t:SetTable}{j0:Nat}{hA:Nat->Int}{h:Int}(hm:t.mask=7)(hp:t.place=#[j0])(hd:t.dummies=#[])(hj:j0 < 8)(hne:(hA 0==h)=false):∀(k fuel:Nat) (p:SetTable.Probe),p.perturb < 32 ^ k->k+2<=fuel->p.more=0->p.i=p.j->p.dummy=none->p.j < 8->
 ∃j,SetTable.probe.go t hA h fuel p=some (.empty j none)/\j≠j0/\j < 8
 | 0,fuel+2,p,h1,_,h3,h4,h5,h6=>by
   have hz:p.perturb=0:=by simp at h1;lia
   rw[SetTable.probe.go,Yfd hp hd]
   by_cases e:p.j=j0
   ·rw[if_pos e]
    dsimp only
    rw[hne,if_neg qh,SetTable.probe.go,Yfd hp hd,Ymj hm h3]
    dsimp only
    have hn:(p.i * 5+1+p.perturb / 32) % 8≠j0:=by rw[h4,e,hz];lia
    rw[if_neg hn]
    exact⟨_,by rw[h5],hn,by lia⟩
   ·rw[if_neg e]
    exact⟨_,by rw[h5],e,h6⟩
 | k+1,fuel+1,p,h1,h2,h3,h4,h5,h6=>by
   rw[SetTable.probe.go,Yfd hp hd]
   by_cases e:p.j=j0
   ·rw[if_pos e]
    dsimp only
    rw[hne,if_neg qh,Ymj hm h3]
    refine Yw8 hm hp hd hj hne k fuel _ ?_ (by lia) rfl rfl h5 (by show _ % 8 < 8;lia)
    show p.perturb / 32 < 32 ^ k
    rw[Nat.div_lt_iff_lt_mul (by decide),<-Nat.pow_succ]
    exact h1
   ·rw[if_neg e]
    exact⟨_,by rw[h5],e,h6⟩
 | 0,0,_,_,h,_,_,_,_=>by lia
 | 0,1,_,_,h,_,_,_,_=>by lia
 | _+1,0,_,_,h,_,_,_,_=>by lia
theorem Yet{t:SetTable}(hm:t.mask=7)(h:Int):t.probeStart h={ j:=SetTable.bits h % 8,more:=0,i:=SetTable.bits h % 8,perturb:=SetTable.bits h,dummy:=none }:=by
 unfold SetTable.probeStart
 rw[hm]
 have:SetTable.runEnd 7 (SetTable.bits h % (7+1)) - SetTable.bits h % (7+1)=0:=by
  unfold SetTable.runEnd
  split<;>lia
 dsimp only
 rw[this]
theorem Ysm{t:SetTable}(hm:t.mask=7)(hp:t.place=#[])(hd:t.dummies=#[])(hA:Nat->Int)(h:Int):t.probe hA h (t.probeStart h)=some (.empty (SetTable.bits h % 8) none):=by
 unfold SetTable.probe
 rw[hm,Yet hm]
 show SetTable.probe.go t hA h (219+1) _=_
 rw[SetTable.probe.go,Ypr hp hd]
theorem Ysn{t:SetTable}{j0:Nat}(hm:t.mask=7)(hp:t.place=#[j0])(hd:t.dummies=#[])(hj:j0 < 8){hA:Nat->Int}{h:Int}(hne:(hA 0==h)=false):∃j,t.probe hA h (t.probeStart h)=some (.empty j none)/\j≠j0/\j < 8:=by
 unfold SetTable.probe
 rw[hm,Yet hm]
 refine Yw8 hm hp hd hj hne 13 _ _ ?_ (by decide) rfl rfl rfl (by show _ % 8 < 8;lia)
 show SetTable.bits h < 32 ^ 13
 unfold SetTable.bits
 have:h % (2 ^ 64:Int) < 2 ^ 64:=Int.emod_lt_of_pos _ (by decide)
 have h2:0<=h % (2 ^ 64:Int):=Int.emod_nonneg _ (by decide)
 have:(h % (2 ^ 64:Int)).toNat < 2 ^ 64:=by lia
 exact Qc this (by decide)
section
variable {prog:Program} {w:World} {A:Around} {E:Value->Shared->Prop} {s:Shared}
theorem Yvt{u:Addr}{o:Obj}{i:Int}{tk:Tok}{b:Bool}{n:Nat}{Q:Bool->Shared->Prop}(ho:s.heap.get? u=some o)(hc:o.cls=.type "tuple")(hd:o.data=.seq #[.int i tk,.bool b] n)(h:Q true s):wpAny (model prog w) A (hashByValue 8 (.ref u)) Q E s:=by
 have hT:s.TypeIs (.ref u) "tuple":=⟨o,ho,hc⟩
 unfold hashByValue
 refine wpAny_bind (wpAny_specialOf hT F.slot_tuple_hash.lookup ?_)
 dsimp only
 refine wpAny_bind (wpAny_seqItems ho hd ?_)
 show wpAny _ _ (forIn #[Value.int i tk,Value.bool b] _ _ >>= _) _ _ _
 simp[hashByValue]
 exact wpAny_pure h
def hAt(es:Array (Int × Value))(i:Nat):Int:=(es[i]?.map (·.1)).getD 0
theorem Yso{S:Addr}{x:Value}{h:Int}{o:Obj}{es:Array (Int × Value)}{ep:Nat}{t:SetTable}{j:Nat}{Q:SetFound->Shared->Prop}(hS:s.heap.get? S=some o)(hd:o.data=.set es ep t)(hf:t.fits es.size=true)(hm:t.mask=7)
 (hpr:t.probe (hAt es) h (t.probeStart h)=some (.empty j none)) (hQ:Q (.free j false) s):wpAny (model prog w) A (setSearch S x h true) Q E s:=by
 show wpAny _ _ (setState S >>= _) _ _ _
 refine wpAny_bind (wpAny_setState_of hS hd hf ?_)
 dsimp only
 have hg:t.gaveWay=false:=by unfold SetTable.gaveWay;rw[hm];rfl
 rw[hg,if_neg qh]
 refine wpAny_bind (wpAny_pure ?_)
 have hpr':t.probe (fun i=>(es[i]?.map (·.1)).getD 0) h (t.probeStart h)=some (.empty j none):=hpr
 show wpAny _ _ (match t.probe (fun i=>(es[i]?.map (·.1)).getD 0) h (t.probeStart h)with | some met=>_ | _=>_) _ _ _
 rw[hpr']
 exact wpAny_pure hQ
theorem y2u{S u:Addr}{h:Int}{o:Obj}{es:Array (Int × Value)}{ep:Nat}{t:SetTable}{j:Nat}{ou:Obj}{i:Int}{tk:Tok}{b:Bool}{n:Nat}{Q:Bool->Shared->Prop}(hS:s.heap.get? S=some o)(hd:o.data=.set es ep t)(hf:t.fits es.size=true)(hm:t.mask=7)(hdm:t.dummies=#[])(hsz:es.size<=1)
 (hpr:t.probe (hAt es) h (t.probeStart h)=some (.empty j none)) (ho:s.heap.get? u=some ou) (hc:ou.cls=.type "tuple") (hud:ou.data=.seq #[.int i tk,.bool b] n)
 (hQ:Q true { s with heap:=s.heap.update S (Obj.putSet (SetTable.insertAt es (SetTable.below t.place j) (h,.ref u)) { t with place:=SetTable.insertAt t.place (SetTable.below t.place j) j }) }) :
 wpAny (model prog w) A (setAddHashed S (.ref u) h) Q E s:=by
 unfold setAddHashed setAddHashedIn
 refine wpAny_holding (wpAny_bind (wpAny_setState_of hS hd hf ?_))
 dsimp only
 have hby:byScan (.ref u) es=false:=rfl
 rw[hby,if_neg qh]
 refine wpAny_bind (Yso hS hd hf hm hpr ?_)
 dsimp only
 refine wpAny_bind (wpAny_setState_of hS hd hf ?_)
 dsimp only
 have hput:t.put j=({ t with place:=SetTable.insertAt t.place (SetTable.below t.place j) j },SetTable.below t.place j):=by
  unfold SetTable.put
  dsimp only
  rw[hdm]
  have:SetTable.has #[] j=false:=rfl
  rw[this,if_neg qh]
 rw[hput]
 dsimp only
 have hfull:({ t with place:=SetTable.insertAt t.place (SetTable.below t.place j) j }:SetTable).tooFull=false:=by
  have h1:t.place.size=es.size:=by
   simp only[SetTable.fits,Qf,beq_iff_eq]at hf
   exact hf.1
  have h2:(SetTable.insertAt t.place (SetTable.below t.place j) j).size<=2:=by
   rw[<-qi,Yx]
   simp
   lia
  unfold SetTable.tooFull SetTable.fill
  rw[hm,hdm]
  simp
  lia
 have hsz':(SetTable.insertAt es (SetTable.below t.place j) (h,Value.ref u)).size<=sizeLine:=by
  rw[<-qi,Yx,sizeLine_eq]
  simp
  lia
 cases hpl:t.plain with
 | true=>
   rw[if_pos rfl]
   refine wpAny_bind (Yvt ho hc hud ?_)
   rw[if_pos rfl]
   refine wpAny_bind (wpAny_storeSet_of hS hd ?_ hsz')
   rw[hpl]at hfull hQ
   rw[hfull]
   exact wpAny_pure hQ
 | false=>
   rw[if_neg qh]
   refine wpAny_bind (wpAny_pure ?_)
   rw[if_pos rfl]
   refine wpAny_bind (wpAny_storeSet_of hS hd ?_ hsz')
   rw[hpl]at hfull hQ
   rw[hfull]
   exact wpAny_pure hQ
def PairV(h:Heap)(u:Addr)(p:Int × Bool):Prop:=∃o tk n,h.get? u=some o/\o.cls=.type "tuple"/\o.data=.seq #[.int p.1 tk,.bool p.2] n
def pH(p:Int × Bool):Int:=Yyc [p.1,if p.2 then 1 else 0]
theorem PairV.keep{h h':Heap}{u:Addr}{p:Int × Bool}(x:PairV h u p)(k:∀o,h.get? u=some o->h'.get? u=some o):PairV h' u p:=by
 obtain⟨o,tk,n,h1,r⟩:=x
 exact⟨o,tk,n,k o h1,r⟩
theorem PairV.key{h:Heap}{u:Addr}{p:Int × Bool}(x:PairV h u p):IsTupleKey (Ya9 prog w) h [p.1,if p.2 then 1 else 0] u:=by
 obtain⟨o,tk,n,h1,h2,h3⟩:=x
 refine⟨o,_,n,h1,h2,h3,?_⟩
 exact .cons (by simp[Ya9,Yh1]) (.cons (by simp[Ya9,Yh1]) .nil)
theorem Yoa{l I S u:Addr}{items:Array Value}{i:Nat}{p:Int × Bool}{R:Result->Shared->Prop}(hu:A.units+2 < cLine)(hit:s.heap.IsListIter I l i)(hl:s.heap.IsList l items)(hx:items[i]?=some (.ref u))(hp:PairV s.heap u p)(hIu:u≠I)
 (k:∀h1 tk,h1.IsListIter I l (i+1)->Heap.SameBut I s.heap h1->wpAny (model prog w) A.in1 (setAddHashed S (.ref u) (pH p)) (fun _ s'=>codeAny (model prog w) A (.builtin "set.update.loop" ⟨[.ref S,.ref I],[]⟩) R s') (fun e s'=>R (.error e) s') { s with heap:=h1,toks:=tk }) :
 codeAny (model prog w) A (.builtin "set.update.loop" ⟨[.ref S,.ref I],[]⟩) R s:=by
 refine codeAny_builtin F.entry_set_update_loop ?_
 rw[Around.under_plainId F.plain_set_update_loop _]
 show wpAny _ A.in1 (pyNext (.ref I) >>= _) _ _ s
 refine wpAny_bind (wpAny_pyNext_list_item hit hl hx fun h1 hi1 hs1=>?_)
 show wpAny _ A.in1 (holding [Value.ref u] (setAdd S (.ref u)) >>= _) _ _ _
 refine wpAny_bind (wpAny_holding ?_)
 unfold setAdd
 have hp1:PairV h1 u p:=hp.keep fun o e=>by rw[hs1.2 u hIu];exact e
 refine wpAny_holding (wpAny_bind (wpAny_pyHash_tuple (knd:=Ya9 prog w) (s:={ s with heap:=h1 }) (by show A.units+1 < cLine;lia) hp1.key ?_))
 refine wpAny_mono (k h1 _ hi1 hs1) (fun b s' hb=>?_) fun _ _ x=>x
 exact wpAny_pure ⟨plainId_quiet F.plain_set_update_loop _,hb⟩
theorem Ymk{l I S:Addr}{items:Array Value}{i:Nat}{R:Result->Shared->Prop}(hh:A.handled=none)(hit:s.heap.IsListIter I l i)(hl:s.heap.IsList l items)(hx:items[i]?=none)
 (k:∀h1,Heap.ExtBut I s.heap h1->R (.ok (.ret .none)) { s with heap:=h1 }) :
 codeAny (model prog w) A (.builtin "set.update.loop" ⟨[.ref S,.ref I],[]⟩) R s:=by
 refine codeAny_builtin F.entry_set_update_loop ?_
 rw[Around.under_plainId F.plain_set_update_loop _]
 show wpAny _ A.in1 (pyNext (.ref I) >>= _) _ _ s
 refine wpAny_bind (wpAny_pyNext_list_end (A:=A.in1) hh hit hl hx fun h1 hs1=>?_)
 show wpAny _ A.in1 (ret Value.none) _ _ _
 exact wpAny_pure (k h1 hs1)
def SetN(w:World)(h:Heap)(a:Addr)(n:Nat):Prop:=∃o es ep t,h.get? a=some o/\o.ExactSet/\o.data=.set es ep t/\es.size=n/\t.fits es.size=true
end
end
section
set_option maxRecDepth 100000
def vOf(e:Int × Value):Value:=e.2
def SetV(w:World)(h:Heap)(a:Addr)(vs:List Value):Prop:=
 ∃o es ep t,h.get? a=some o/\o.ExactSet/\o.data=.set es ep t/\es.toList.map vOf=vs/\es.size < scanBound/\t.fits es.size=true/\Tab (byT w) t
theorem SetV.at{w:World}{h h':Heap}{a:Addr}{ns:List Value}(x:SetV w h a ns)(e:∀o,h.get? a=some o->h'.get? a=some o):SetV w h' a ns:=
 let ⟨o,es,ep,t,ho,r⟩:=x
 ⟨o,es,ep,t,e o ho,r⟩
theorem SetV.len{w:World}{h:Heap}{a:Addr}{ns:List Value}(x:SetV w h a ns):ns.length < scanBound:=by
 obtain⟨o,es,ep,t,ho,hex,hd,hns,hb,_⟩:=x
 rw[<-hns,qe,qi]
 exact hb
def PVal(vals:List Value)(i:Nat)(v:Value):Prop:=vals[i]?=some v
section
variable {prog:Program} {w:World} {A:Around} {E:Value->Shared->Prop} {s:Shared}
theorem Ysp{a:Addr}{ns:List Value}(hS:SetV w s.heap a ns){Q:Value->Shared->Prop}
 (hQ:∀(h':Heap) (d':Drawn) (I:Addr) (fp:List Addr) (vals:List Value) (St:Nat->Heap->Prop),(∀b o,s.heap.get? b=some o->h'.get? b=some o)->s.heap.objs.size<=I->I∈fp->
  (∀b∈fp,b < h'.objs.size/\(b=a\/s.heap.objs.size<=b))->vals.Perm ns->(∀A':Around,A'.handled=none->Walks prog w A' I fp [I] ns.length (PVal vals) St)->St 0 h'->
  (∀(i:Nat) (s':Shared),St i s'.heap->s'.TypeIs (.ref I) "set_iterator")->Q (.ref I) { s with heap:=h',drawn:=d' }) :
 wpAny (model prog w) A (pyIter (.ref a)) Q E s:=by
 obtain⟨o,es,ep,t,ho,hex,hd,hns,hb,hf,ht⟩:=hS
 have hT:s.TypeIs (.ref a) "set":=⟨o,ho,hex.1⟩
 have hlen:ns.length=es.size:=by rw[<-hns,qe,qi]
 have hlt:a < s.heap.objs.size:=qk ho
 have hsa:SAt s.heap a es ep t:=⟨o,ho,hex,hd,hf⟩
 have hps:t.place.size=es.size:=by
  simp only[SetTable.fits,Qf,beq_iff_eq]at hf
  exact hf.1
 refine wpAny_pyIter_slot hT F.slot_set_iter (wpAny_call_entry F.slot_set_iter hT Yjb ?_ (F.args_set_iter_1 _))
 unfold Builtin.«frozenset.__iter__»
 show wpAny _ _ (Builtin.Frozenset.sizeOf a >>= _) _ _ s
 unfold Builtin.Frozenset.sizeOf
 refine wpAny_bind (wpAny_bind (wpAny_setEntries_of ho hd hf (wpAny_pure ?_)))
 refine wpAny_bind ?_
 unfold setDrawn
 refine wpAny_bind (wpAny_setState_of ho hd hf ?_)
 dsimp only
 refine wpAny_bind (Ye2 (wpAny_pure ?_))
 have plain:∀(vals:List Value) (st:Nat->Nat) (xv:Nat->Value),vals.Perm ns->st 0=0->(∀i,i < es.size->PVal vals i (xv i))->
  (∀(s':Shared) (A':Around) (i:Nat) (E':Value->Shared->Prop),SAt s'.heap a es ep t->i < es.size->∀Q':Option (Value × Nat)->Shared->Prop,Q' (some (xv i,st (i+1))) s'->wpAny (model prog w) A' (setNext a (st i) i ep) Q' E' s')->
  (∀(s':Shared) (A':Around) (E':Value->Shared->Prop),SAt s'.heap a es ep t->∀Q':Option (Value × Nat)->Shared->Prop,Q' none s'->wpAny (model prog w) A' (setNext a (st es.size) es.size ep) Q' E' s')->
  wpAny (model prog w) A.in1 (do
   let x <-newFields "set_iterator" [rawInt 0,rawInt 0,.ref a,rawInt es.size,rawInt (<-setEpoch a)]
   ret x) (fun fin s'=>∃v,fin=.done (.ret v)/\∃T' r,s'.TypeIs v T'/\typeLookup (.type T') "__next__"=pure (some r)/\Q v s') E s:=by
  intro vals st xv hp h0 hx hi hn
  refine wpAny_bind (wpAny_setEpoch_of ho hd hf ?_)
  refine wpAny_bind (wpAny_newObj_type ?_)
  refine wpAny_pure ⟨_,rfl,"set_iterator",_,⟨_,qo _ rfl,rfl⟩,slot_si_next.lookup,?_⟩
  have key:=hQ (s.heap.push { cls:=.type "set_iterator",data:=.fields #[rawInt 0,rawInt 0,.ref a,rawInt es.size,rawInt ep] }) s.drawn s.heap.objs.size [s.heap.objs.size,a] vals
   (fun i h=>SIt h s.heap.objs.size (.int (st i) 0) i a es.size ep/\SAt h a es ep t) (fun b o e=>qd _ e) (qt _) (by simp) (fun b hb=>by
    rw[Heap.size_push]
    rcases qr hb with rfl | hb
    ·exact⟨qy _,.inr (qt _)⟩
    ·rw[List.mem_singleton]at hb
     subst hb
     exact⟨qv hlt,.inl rfl⟩) hp (fun A' hA'=>{
    sub:=fun b hb=>by simp at hb;simp[hb]
    frame:=fun i h h' st' hk=>⟨st'.1.at fun o e=>hk _ (by simp) o e,st'.2.at fun o e=>hk a (by simp) o e⟩
    item:=fun i s' Q' E' hlt' st' hQ'=>by
     refine Yx9 st'.1 st'.2 (x:=xv i) (nx:=st (i+1)) (fun A2 Q2 E2 hq=>hi s' A2 i E2 st'.2 (by lia) Q2 hq) fun h' hit' hs'=>?_
     exact hQ' _ h' s'.toks (hx i (by lia)) ⟨hit',st'.2.at fun o e=>hs'.extBut a o (fun z=>by subst z;exact absurd hlt (Qe _)) e⟩ fun b o hb e=>hs'.extBut b o (fun z=>hb (by simp[z])) e
    done:=fun s' Q' E' st' hQ'=>by
     rw[hlen]at st'
     exact Yya hA' st'.1 st'.2 (fun A2 Q2 E2 hq=>hn s' A2 E2 st'.2 Q2 hq) fun h' he'=>hQ' h' s'.toks fun b o hb e=>he' b o (fun z=>hb (by simp[z])) e
    self:=fun i s' Q' E' st' hQ'=>Yru st'.1 hQ' }) ⟨⟨_,qo _ rfl,rfl,by rw[h0];rfl⟩,hsa.at fun o e=>qd _ e⟩ (fun i s' st'=>st'.1.typeIs)
  exact key
 have hdr:∀b:Bool,(!t.plain&&decide (es.size > 1))=b->wpAny (model prog w) A.in1 (if (!byT w&&b)=true then do
  let first <-newTuple ((<-drawOrder es.size (List.range es.size)).map fun(i:Nat)=>rawInt i)
  let x <-newFields "set_iterator" [first,rawInt 0,.ref a,rawInt es.size,rawInt (<-setEpoch a)]
  ret x
  else do
   let x <-newFields "set_iterator" [rawInt 0,rawInt 0,.ref a,rawInt es.size,rawInt (<-setEpoch a)]
   ret x) (fun fin s'=>∃v,fin=.done (.ret v)/\∃T' r,s'.TypeIs v T'/\typeLookup (.type T') "__next__"=pure (some r)/\Q v s') E s:=by
  intro b hbd
  cases hbt:byT w with
  | true=>
    rw[if_neg (by simp)]
    generalize hor:pickOrder (w.params.setOrder a ep) es=ord
    have hpm:ord.toList.Perm es.toList:=by rw[<-hor];exact Yrt _ _
    have hos:ord.size=es.size:=by
     have:=hpm.length_eq
     simpa using this
    refine plain (ord.toList.map vOf) (fun _=>0) (fun i=>(ord.getD i (0,.none)).2) (by rw[<-hns];exact hpm.map vOf) rfl (fun i hi=>?_) (fun s' A' i E' ha hi Q' hq=>?_) (fun s' A' E' ha Q' hq=>?_)
    ·have hi':i < ord.size:=by lia
     show(ord.toList.map vOf)[i]?=some _
     simp[hi',vOf,Array.getD]
    ·have hi':i < ord.size:=by lia
     refine Yl6 hbt ha ?_
     rw[hor,Array.getElem?_eq_getElem hi']
     simp only[Array.getD,hi',dite_true]at hq
     exact hq
    ·refine Yl6 hbt ha ?_
     rw[hor,Array.getElem?_eq_none (by lia)]
     exact hq
  | false=>
    have hled:=ht.1 hbt
    cases b with
    | false=>
      rw[if_neg (by simp)]
      have hrise:Rise t.place:=by
       cases hpl:t.plain with
       | true=>exact ht.2 hpl
       | false=>
         rw[hpl]at hbd
         have h1:t.place.toList.length<=1:=by
          simp at hbd
          rw[qi]
          lia
         unfold Rise
         match t.place.toList,h1 with
         | [],_=>exact .nil
         | [x],_=>simp
      refine plain ns (Yec t.place) (fun i=>(es.getD i (0,.none)).2) .rfl rfl (fun i hi=>?_) (fun s' A' i E' ha hi Q' hq=>?_) (fun s' A' E' ha Q' hq=>?_)
      ·show ns[i]?=some _
       rw[<-hns]
       simp[hi,vOf,Array.getD]
      ·refine Yl7 hbt hbd hled ha (Ypk hrise (by lia)) ?_
       have hi2:i < t.place.size:=by lia
       rw[Array.getElem?_eq_getElem hi,Array.getElem?_eq_getElem hi2]
       simp only[Array.getD,hi,hi2,dite_true,Yec]at hq
       exact hq
      ·refine Yl7 hbt hbd hled ha (Ypk hrise (by lia)) ?_
       rw[Array.getElem?_eq_none (qt _)]
       exact hq
    | true=>
      rw[if_pos (by simp)]
      refine wpAny_bind (Yj0 es.size (List.range es.size) s _ (by simp) fun ys d' hp=>?_)
      simp only[newTuple]
      have hyl:ys.length=es.size:=by rw[hp.length_eq];simp
      refine wpAny_bind (wpAny_newObj_type ?_ (by show(ys.map fun(i:Nat)=>rawInt i).toArray.size<=sizeLine;rw[qj,qe,hyl];exact fits_of_scanBound hb))
      have ho1:((s.heap.push { cls:=.type "tuple",data:=.seq (ys.map fun(i:Nat)=>rawInt i).toArray })).get? a=some o:=qd _ ho
      refine wpAny_bind (wpAny_setEpoch_of (s:={ s with heap:=s.heap.push { cls:=.type "tuple",data:=.seq (ys.map fun(i:Nat)=>rawInt i).toArray },drawn:=d' }) ho1 hd hf ?_)
      refine wpAny_bind (wpAny_newObj_type ?_)
      refine wpAny_pure ⟨_,rfl,"set_iterator",_,⟨_,qo _ rfl,rfl⟩,slot_si_next.lookup,?_⟩
      have hmem:∀j∈ys,j < es.size:=fun j hj=>by simpa using hp.mem_iff.mp hj
      have hvp:(ys.map fun j=>vOf (es.getD j (0,.none))).Perm ns:=by
       rw[<-hns]
       refine(hp.map _).trans ?_
       have:(List.range es.size).map (fun j=>vOf (es.getD j (0,.none)))=es.toList.map vOf:=by
        refine List.ext_getElem (by simp) fun i h1 h2=>?_
        have hi:i < es.size:=by simpa using h1
        simp[Array.getD,hi]
       rw[this]
      generalize hH:s.heap.push { cls:=.type "tuple",data:=.seq (ys.map fun(i:Nat)=>rawInt i).toArray }=H at ho1 ⊢
      have hHs:H.objs.size=s.heap.objs.size+1:=by rw[<-hH,Heap.size_push]
      have hT0:H.IsTuple s.heap.objs.size (ys.map fun(i:Nat)=>rawInt i).toArray:=⟨_,by rw[<-hH];exact qo _ rfl,rfl,_,rfl⟩
      have keepH:∀b o,s.heap.get? b=some o->H.get? b=some o:=fun b o e=>by rw[<-hH];exact qd _ e
      have haI:a≠H.objs.size:=fun z=>by rw[z,hHs]at hlt;exact absurd hlt (Nat.not_lt.mpr (Nat.le_succ _))
      have hTI:s.heap.objs.size≠H.objs.size:=by rw[hHs];exact ql (qy _)
      exact hQ (H.push { cls:=.type "set_iterator",data:=.fields #[.ref s.heap.objs.size,rawInt 0,.ref a,rawInt es.size,rawInt ep] }) d' H.objs.size [H.objs.size,a,s.heap.objs.size] (ys.map fun j=>vOf (es.getD j (0,.none)))
       (fun i h=>SIt h H.objs.size (.ref s.heap.objs.size) i a es.size ep/\SAt h a es ep t/\h.IsTuple s.heap.objs.size (ys.map fun(i:Nat)=>rawInt i).toArray) (fun b o e=>qd _ (keepH b o e)) (by lia) (by simp) (fun b hb=>by
        rw[Heap.size_push]
        simp only[List.mem_cons,List.not_mem_nil,or_false]at hb
        rcases hb with rfl | rfl | rfl
        ·exact⟨qy _,.inr (by rw[hHs];exact Nat.le_succ _)⟩
        ·exact⟨qv (by rw[hHs];exact qv hlt),.inl rfl⟩
        ·exact⟨qv (by rw[hHs];exact qy _),.inr (qt _)⟩) hvp (fun A' hA'=>{
        sub:=fun b hb=>by simp at hb;simp[hb]
        frame:=fun i h h' st' hk=>⟨st'.1.at fun o e=>hk _ (by simp) o e,st'.2.1.at fun o e=>hk a (by simp) o e,st'.2.2.at fun o e=>hk _ (by simp) o e⟩
        item:=fun i s' Q' E' hlt' st' hQ'=>by
         have hi:i < ys.length:=by lia
         have hj:=hmem ys[i] (List.getElem_mem hi)
         refine Yva st'.1 st'.2.1 st'.2.2 (j:=ys[i]) (tk:=0) (e:=es[ys[i]]) (by simp[hi,rawInt]) (Array.getElem?_eq_getElem hj) fun h' hit' hs'=>?_
         refine hQ' _ h' s'.toks ?_ ⟨hit',st'.2.1.at fun o e=>hs'.extBut a o haI e,st'.2.2.at fun o e=>hs'.extBut _ o hTI e⟩ fun b o hb e=>hs'.extBut b o (fun z=>hb (by simp[z])) e
         show(ys.map fun j=>vOf (es.getD j (0,.none)))[i]?=some es[ys[i]].2
         simp[hi,Array.getD,hj,vOf]
        done:=fun s' Q' E' st' hQ'=>by
         rw[hlen]at st'
         exact Yvb hA' st'.1 st'.2.1 st'.2.2 (by simp[hyl]) fun h' he'=>hQ' h' s'.toks fun b o hb e=>he' b o (fun z=>hb (by simp[z])) e
        self:=fun i s' Q' E' st' hQ'=>Yru st'.1 hQ' }) ⟨⟨_,qo _ rfl,rfl,rfl⟩,⟨o,qd _ ho1,hex,hd,hf⟩,hT0.push _⟩ (fun i s' st'=>st'.1.typeIs)
 exact hdr _ rfl
theorem Yml{a:Addr}{ns:List Value}(hh:A.handled=none)(hS:SetV w s.heap a ns){Q:List Value->Shared->Prop}
 (hQ:∀(h':Heap) (d':Drawn) (tk:Nat) (acc:List Value),s.heap.objs.size<=h'.objs.size->(∀b o,s.heap.get? b=some o->h'.get? b=some o)->acc.Perm ns->Q acc { s with heap:=h',drawn:=d',toks:=tk }) :
 wpAny (model prog w) A (collect (.ref a)) Q E s:=by
 obtain⟨o,es,ep,t,ho,hex,hd,_⟩:=id hS
 have hlt:a < s.heap.objs.size:=qk ho
 have hlen:=hS.len
 unfold collect
 refine wpAny_bind (wpAny_runValue (codeAny_builtin F.entry_proto_collect ?_))
 rw[Around.under_plainId F.plain_proto_collect _]
 show wpAny _ A.in1 (newList [] >>= fun l=>again (.builtin "list.__iadd__" ⟨[l,.ref a],[]⟩)) _ _ s
 refine wpAny_bind (wpAny_newObj_type ?_)
 refine wpAny_pure ⟨plainId_quiet F.plain_list_iadd _,codeAny_builtin F.entry_list_iadd ?_⟩
 rw[Around.under_plainId F.plain_list_iadd _]
 generalize hH:s.heap.push { cls:=.type "list",data:=.seq ([]:List Value).toArray }=H
 have hHs:H.objs.size=s.heap.objs.size+1:=by rw[<-hH,Heap.size_push]
 have keepH:∀b o,s.heap.get? b=some o->H.get? b=some o:=fun b o e=>by rw[<-hH];exact qd _ e
 have hL:H.get? s.heap.objs.size=some { cls:=.type "list",data:=.seq ([]:List Value).toArray }:=by rw[<-hH];exact qo _ rfl
 have hoH:=keepH a o ho
 have hT:Shared.TypeIs { s with heap:=H } (.ref a) "set":=⟨o,hoH,hex.1⟩
 have hSI:s.heap.objs.size≠a:=fun z=>by rw[<-z]at hlt;exact absurd hlt (Qe _)
 have h1:Builtin.List.listSameRef (.ref s.heap.objs.size) (.ref a)=false:=by simp[Builtin.List.listSameRef,hSI]
 show wpAny _ A.in1 (Builtin.List.listExtendWith (.ref s.heap.objs.size) (.ref a) (.ref s.heap.objs.size)) _ _ _
 unfold Builtin.List.listExtendWith
 refine wpAny_bind (wpAny_typeOf hT ?_)
 have h2:(Value.type "set"==Value.type "list")=false:=by decide
 have h3:(Value.type "set"==Value.type "tuple")=false:=by decide
 simp only[h1,h2,h3,Bool.or_false,Bool.false_eq_true,if_false]
 refine wpAny_bind (Ysp (s:={ s with heap:=H }) (hS.at fun o e=>keepH a o e) fun h' d' I fp vals St keep hI hIf hfp hp hW hst hty=>?_)
 have ho':=keep a o hoH
 have hT':Shared.TypeIs { s with heap:=h',drawn:=d' } (.ref a) "set":=⟨o,ho',hex.1⟩
 refine wpAny_bind (wpAny_holding ?_)
 unfold Builtin.List.listLengthHint
 refine wpAny_bind (wpAny_specialOf hT' F.slot_set_len.lookup ?_)
 (generalize hid:("set.__len__":String)=id0;(fail_if_success (clear hid id0));wp_delta;rw[show splitId id0=some ("set","__len__") from by subst hid;decide +kernel];subst hid)
 refine wpAny_bind (wpAny_isInstance (b:=true) hT' Yn9 ?_)
 show wpAny _ A.in1 (typeOf (Value.ref a) >>= _) _ _ _
 refine wpAny_bind (wpAny_typeOf hT' ?_)
 refine wpAny_pure ?_
 rw[if_pos (by decide)]
 refine wpAny_bind (wpAny_rule ?_)
 have hSf:s.heap.objs.size∉fp:=fun hm=>by
  rcases(hfp _ hm).2 with z | z
  ·exact hSI z
  ·rw[show({ s with heap:=H }:Shared).heap.objs.size=H.objs.size from rfl,hHs]at z
   exact absurd z (Nat.not_le.mpr (qy _))
 have hS₁:h'.get? s.heap.objs.size=some { cls:=.type "list",data:=.seq ([]:List Value).toArray }:=keep _ _ hL
 refine wpAny_bind ?_
 show wpAny _ A.in1 (updateSeq s.heap.objs.size (·.push .none) >>= fun _=>updateSeq s.heap.objs.size (·.pop)) _ _ _
 refine wpAny_bind (wpAny_updateSeq hS₁ rfl ?_)
 have hS₂:=Heap.get?_update_self (Obj.mapSeq (·.push Value.none)) hS₁ rfl
 refine wpAny_updateSeq hS₂ rfl ?_
 have hS₃:=Heap.get?_update_self (Obj.mapSeq (·.pop)) hS₂ rfl
 have oth:∀b o,b≠s.heap.objs.size->h'.get? b=some o->
  ((h'.update s.heap.objs.size (Obj.mapSeq (·.push Value.none))).update s.heap.objs.size (Obj.mapSeq (·.pop))).get? b=some o:=
  fun b o hb e=>(Heap.get?_update_other _ _ (Ne.symm hb)).trans ((Heap.get?_update_other _ _ (Ne.symm hb)).trans e)
 have W:=(hW A.in1 hh).toS
 refine wpAny_pure ⟨plainId_quiet F.plain_extend_loop _,codeAny_extend_loopS W (fits_of_scanBound hlen) _ hSf _ ns.length 0 _ _ _ rfl (Nat.zero_le _)
  (W.frame 0 ({ s with heap:=h',drawn:=d' }:Shared) _ s.toks hst (qt _) fun b hb o e=>oth b o (fun h=>hSf (h ▸ hb)) e) hS₃ (ItemsOf.nil _) fun s' acc' c' hm hS' hacc=>?_⟩
 show wpAny _ A (load s.heap.objs.size >>= _) _ _ s'
 refine wpAny_bind (wpAny_load hS' ?_)
 have eg:s'.gens=s.gens:=hm.gens
 have ed:s'.drawn=d':=hm.drawn
 have eo:s'.os=s.os:=hm.os
 have es':s'={ s with heap:=s'.heap,drawn:=d',toks:=s'.toks }:=by
  obtain⟨a1,a2,a3,a4,a5⟩:=s'
  simp only at eg ed eo
  subst eg;subst ed;subst eo
  rfl
 rw[es']
 have hav:acc'.toList=vals:=by
  refine List.ext_getElem (by rw[qi,hacc.1,hp.length_eq]) fun j h1 h2=>?_
  have:=hacc.2 j acc'.toList[j] (by rw[<-Array.getElem?_toList,qp h1])
  have h3:vals[j]?=some acc'.toList[j]:=this
  rw[qp h2]at h3
  exact(Option.some.inj h3).symm
 refine wpAny_pure (hQ s'.heap d' s'.toks acc'.toList (Nat.le_of_lt (qk hS')) (fun b ob e=>?_) (by rw[hav];exact hp))
 have hb:b < s.heap.objs.size:=qk e
 refine hm.heap b ob (fun hm'=>?_) (oth b ob (ql hb) (keep b ob (keepH b ob e)))
 rcases qr hm' with z | z
 ·rw[z]at hb;exact absurd hb (Qe _)
 ·rw[List.mem_singleton.mp z]at hb
  have:H.objs.size<=I:=hI
  rw[hHs]at this
  exact absurd (Qc hb (Nat.le_trans (Nat.le_succ _) this)) (Qe _)
structure SetQ(w:World)(h:Heap)(a:Addr)(us:List (Int × Addr)):Prop where
 ex:∃o es ep t,h.get? a=some o/\o.ExactSet/\o.data=.set es ep t/\es.toList=us.map (fun u=>(u.1,Value.ref u.2))/\t.fits es.size=true/\t.mask=7/\t.dummies=#[]/\t.place.toList=us.map (fun u=>SetTable.bits u.1 % 8)/\Tab (byT w) t
theorem SetQ.keep{h h':Heap}{a:Addr}{us:List (Int × Addr)}(x:SetQ w h a us)(k:∀o,h.get? a=some o->h'.get? a=some o):SetQ w h' a us:=by
 obtain⟨o,es,ep,t,h1,r⟩:=x.ex
 exact⟨o,es,ep,t,k o h1,r⟩
theorem SetQ.vals{h:Heap}{a:Addr}{us:List (Int × Addr)}(x:SetQ w h a us)(hl:us.length<=1):SetV w h a (us.map fun u=>Value.ref u.2):=by
 obtain⟨o,es,ep,t,h1,h2,h3,h4,h5,h6,h7,h8,h9⟩:=x.ex
 refine⟨o,es,ep,t,h1,h2,h3,?_,?_,h5,h9⟩
 ·rw[h4,List.map_map]
  rfl
 ·rw[<-qi,h4,qe]
  have:scanBound=4096:=rfl
  lia
theorem Yh2{S u:Addr}{us:List (Int × Addr)}{p:Int × Bool}{Q:Bool->Shared->Prop}(hS:SetQ w s.heap S us)(hl:us.length<=1)(hp:PairV s.heap u p)(hne:∀q∈us,q.1≠pH p)
 (hQ:∀h' vs,Heap.SameBut S s.heap h'->SetV w h' S vs->vs.Perm ((us.map fun u=>Value.ref u.2)++[.ref u])->(us=[]->SetQ w h' S [(pH p,u)])->Q true { s with heap:=h' }):wpAny (model prog w) A (setAddHashed S (.ref u) (pH p)) Q E s:=by
 obtain⟨o,es,ep,t,h1,h2,h3,h4,h5,h6,h7,h8,h9⟩:=hS.ex
 obtain⟨ou,tk,n,u1,u2,u3⟩:=hp
 have hsz:es.size=us.length:=by rw[<-qi,h4,qe]
 have hpl:t.place.size=es.size:=by
  simp only[SetTable.fits,Qf,beq_iff_eq]at h5
  exact h5.1
 obtain⟨j,hpr,hj8,hfree,hjz⟩:∃j,t.probe (hAt es) (pH p) (t.probeStart (pH p))=some (.empty j none)/\j < 8/\(∀i,t.slot j≠.live i)/\(us=[]->j=SetTable.bits (pH p) % 8):=by
  generalize pH p=hp at hne ⊢
  rcases us with _ | ⟨q,_ | ⟨q2,r⟩⟩
  ·have hz:t.place=#[]:=Array.size_eq_zero_iff.mp (by rw[hpl,hsz];rfl)
   refine⟨_,Ysm h6 hz h7 _ _,by lia,fun i z=>?_,fun _=>rfl⟩
   rw[Ypr hz h7]at z
   cases z
  ·have hz:t.place=#[SetTable.bits q.1 % 8]:=by
    apply Array.toList_inj.mp
    rw[h8]
    rfl
   have hes:es=#[(q.1,.ref q.2)]:=by
    apply Array.toList_inj.mp
    rw[h4]
    rfl
   have hq:=hne q qg
   obtain⟨j,k1,k2,k3⟩:=Ysn h6 hz h7 (by lia) (hA:=hAt es) (h:=hp) (by
    rw[hes]
    simpa [hAt]using hq)
   refine⟨j,k1,k3,fun i z=>?_,fun z=>by cases z⟩
   rw[Yfd hz h7,if_neg k2]at z
   cases z
  ·simp at hl
 refine y2u h1 h3 h5 h6 h7 (by lia) hpr u1 u2 u3 ?_
 have hg:=Yhj h1 h3 (SetTable.insertAt es (SetTable.below t.place j) (pH p,.ref u)) { t with place:=SetTable.insertAt t.place (SetTable.below t.place j) j }
 have e1:(SetTable.insertAt es (SetTable.below t.place j) (pH p,Value.ref u)).size=us.length+1:=by
  rw[<-qi,Yx]
  simp
  lia
 have e2:(SetTable.insertAt t.place (SetTable.below t.place j) j).size=us.length+1:=by
  rw[<-qi,Yx]
  simp
  lia
 have hfit:({ t with place:=SetTable.insertAt t.place (SetTable.below t.place j) j }:SetTable).fits (us.length+1)=true:=by
  unfold SetTable.fits SetTable.fill
  simp only[e2,h6,h7,Qf,beq_iff_eq,decide_eq_true_eq]
  exact⟨trivial,by simp;lia⟩
 have htab:Tab (byT w) { t with place:=SetTable.insertAt t.place (SetTable.below t.place j) j }:=⟨h9.1,fun z=>Yeo (h9.2 z) j (Yhi hfree)⟩
 have hsb:scanBound=4096:=rfl
 refine hQ _ _ (Heap.SameBut.update ..) ⟨_,_,_,_,hg,⟨h2.1,h2.2.1,h2.2.2⟩,rfl,rfl,by rw[e1];lia,by rw[e1];exact hfit,htab⟩ ?_ fun hz=>?_
 ·have hpm:(es.toList.map vOf).Perm (us.map fun u=>Value.ref u.2):=by
   rw[h4,List.map_map]
   exact .refl _
  have hins:((SetTable.insertAt es (SetTable.below t.place j) (pH p,Value.ref u)).toList).Perm (es.toList++[(pH p,Value.ref u)]):=by
   rw[Yx]
   refine List.perm_middle.trans ?_
   rw[List.take_append_drop]
   exact List.perm_append_comm (l₁:=[_])
  have:=hins.map vOf
  rw[List.map_append]at this
  exact this.trans (hpm.append_right _)
 ·subst hz
  have hz:t.place=#[]:=Array.size_eq_zero_iff.mp (by rw[hpl,hsz];rfl)
  have hes:es=#[]:=Array.size_eq_zero_iff.mp (by rw[hsz];rfl)
  refine⟨_,_,_,_,hg,⟨h2.1,h2.2.1,h2.2.2⟩,rfl,?_,by rw[e1];exact hfit,h6,h7,?_,htab⟩
  ·rw[Yx,hes]
   simp
  ·show(SetTable.insertAt t.place (SetTable.below t.place j) j).toList=_
   rw[Yx,hz,hjz rfl]
   simp
theorem Yps{u:Addr}{p:Int × Bool}{Q:Bool->Shared->Prop}(hp:PairV s.heap u p)(h:Q false s):wpAny (model prog w) A (ofAClassStatement 8 (.ref u)) Q E s:=by
 obtain⟨o,tk,n,h1,h2,h3⟩:=hp
 have hT:s.TypeIs (.ref u) "tuple":=⟨o,h1,h2⟩
 unfold ofAClassStatement
 refine wpAny_bind (wpAny_typeOf hT ?_)
 dsimp only
 rw[if_pos (by decide)]
 refine wpAny_bind (wpAny_pure ?_)
 simp only[Bool.not_true,Bool.false_eq_true,if_false]
 refine wpAny_bind (wpAny_seqItems h1 h3 ?_)
 simp[ofAClassStatement]
 exact wpAny_pure h
theorem Ysq{u v:Addr}{p q:Int × Bool}{Q:Bool->Shared->Prop}(hu:PairV s.heap u p)(hv:PairV s.heap v q)(h:Q false s):wpAny (model prog w) A (searchCouldBeSeen (.ref u) [.ref v]) Q E s:=by
 unfold searchCouldBeSeen
 simp[carriedByValue]
 by_cases e:u=v
 ·rw[if_pos e]
  exact wpAny_bind (wpAny_pure (wpAny_bind (wpAny_pure (wpAny_pure h))))
 ·rw[if_neg e]
  refine wpAny_bind (wpAny_bind (wpAny_eqIsQuiet_tuple (knd:=Ya9 prog w) hu.key ?_))
  rw[if_neg (by decide)]
  refine wpAny_bind (wpAny_eqIsQuiet_tuple (knd:=Ya9 prog w) hv.key ?_)
  rw[if_neg (by decide)]
  refine wpAny_bind (Yps hu ?_)
  rw[if_neg (by decide)]
  refine wpAny_bind (Yps hv ?_)
  rw[if_neg (by decide)]
  exact wpAny_pure (wpAny_bind (wpAny_pure (wpAny_pure h)))
theorem Yqv{t:SetTable}{h:Int}(hm:t.mask=7)(hp:t.place=#[SetTable.bits h % 8])(hd:t.dummies=#[]){hA:Nat->Int}(he:hA 0=h):∃nx,t.probe hA h (t.probeStart h)=some (.candidate (SetTable.bits h % 8) 0 nx):=by
 unfold SetTable.probe
 rw[hm,Yet hm]
 show ∃nx,SetTable.probe.go t hA h (219+1) _=_
 rw[SetTable.probe.go,Yfd hp hd,if_pos rfl]
 dsimp only
 rw[he,if_pos (by simp)]
 exact⟨_,rfl⟩
theorem Yob{S u v:Addr}{p:Int × Bool}{h:Int}{o:Obj}{es:Array (Int × Value)}{ep:Nat}{t:SetTable}{nx:SetTable.Probe}{j:Nat}{Q:SetFound->Shared->Prop}(fuel:Nat)(hu:A.units < cLine)(hS:s.heap.get? S=some o)(hd:o.data=.set es ep t)(hf:t.fits es.size=true)(hm:t.mask=7)(hes:es=#[(h,.ref v)])
 (hpr:t.probe (fun i=>(es[i]?.map (·.1)).getD 0) h (t.probeStart h)=some (.candidate j 0 nx)) (hv:PairV s.heap v p) (hp:PairV s.heap u p) (hQ:Q (.there none) s):wpAny (model prog w) A (setSearchFrom S (.ref u) h true (fuel+1) none) Q E s:=by
 show wpAny _ _ (setState S >>= _) _ _ _
 refine wpAny_bind (wpAny_setState_of hS hd hf ?_)
 dsimp only
 have hg:t.gaveWay=false:=by unfold SetTable.gaveWay;rw[hm];rfl
 rw[hg,if_neg qh]
 refine wpAny_bind (wpAny_pure ?_)
 show wpAny _ _ (match t.probe (fun i=>(es[i]?.map (·.1)).getD 0) h (t.probeStart h)with | some met=>_ | _=>_) _ _ _
 rw[hpr]
 dsimp only
 have hfl:((es.filter (·.1==h)).toList.map (·.2))=[Value.ref v]:=by
  rw[hes]
  simp
 have hes0:es[0]?=some (h,.ref v):=by rw[hes];rfl
 rw[hfl,hes0]
 cases t.led with
 | true=>
   rw[if_neg (by decide)]
   dsimp only
   refine wpAny_bind (wpAny_holding (wpAny_eqBool_tuple (knd:=Ya9 prog w) hu hv.key hp.key ?_))
   rw[decide_eq_true rfl]
   refine wpAny_bind (wpAny_setState_of hS hd hf ?_)
   dsimp only
   rw[if_pos (by rfl)]
   exact wpAny_pure hQ
 | false=>
   rw[if_pos (by decide)]
   refine wpAny_bind (Ysq hp hv ?_)
   rw[if_neg (by decide)]
   dsimp only
   refine wpAny_bind (wpAny_holding (wpAny_eqBool_tuple (knd:=Ya9 prog w) hu hv.key hp.key ?_))
   rw[decide_eq_true rfl]
   refine wpAny_bind (wpAny_setState_of hS hd hf ?_)
   dsimp only
   rw[if_pos (by rfl)]
   exact wpAny_pure hQ
theorem Ymm{S u:Addr}{h:Int}{o:Obj}{es:Array (Int × Value)}{ep:Nat}{t:SetTable}{Q:Bool->Shared->Prop}(hS:s.heap.get? S=some o)(hd:o.data=.set es ep t)(hf:t.fits es.size=true)
 (hsr:∀Q':SetFound->Shared->Prop,Q' (.there none) s->wpAny (model prog w) A (setSearch S (.ref u) h true) Q' E s) (hQ:Q false s):wpAny (model prog w) A (setAddHashed S (.ref u) h) Q E s:=by
 unfold setAddHashed setAddHashedIn
 refine wpAny_holding (wpAny_bind (wpAny_setState_of hS hd hf ?_))
 dsimp only
 have hby:byScan (.ref u) es=false:=rfl
 rw[hby,if_neg qh]
 refine wpAny_bind (hsr _ ?_)
 exact wpAny_pure hQ
theorem Yvu{S u v:Addr}{p:Int × Bool}{hh:Int}{Q:Bool->Shared->Prop}(hu:A.units < cLine)(hS:SetQ w s.heap S [(hh,v)])(hv:PairV s.heap v p)(hp:PairV s.heap u p)(hQ:Q false s):wpAny (model prog w) A (setAddHashed S (.ref u) hh) Q E s:=by
 obtain⟨o,es,ep,t,h1,h2,h3,h4,h5,h6,h7,h8,h9⟩:=hS.ex
 have hes:es=#[(hh,.ref v)]:=by
  apply Array.toList_inj.mp
  rw[h4]
  rfl
 have hz:t.place=#[SetTable.bits hh % 8]:=by
  apply Array.toList_inj.mp
  rw[h8]
  rfl
 obtain⟨nx,hpr⟩:=Yqv (h:=hh) h6 hz h7 (hA:=fun i=>(es[i]?.map (·.1)).getD 0) (by rw[hes];rfl)
 refine Ymm h1 h3 h5 (fun Q' q=>?_) hQ
 have h100:(100000:Nat)=99999+1:=rfl
 unfold setSearch
 rw[h100]
 generalize (99999:Nat)=fuel
 exact Yob fuel hu h1 h3 h5 h6 hes hpr hv hp q
def oncE:List Addr->List (Int × Bool)->List Addr
 | [u1,u2],[p1,p2]=>if p1=p2 then [u1]else [u1,u2]
 | us,_=>us
theorem Ysr{l I S:Addr}{us:List Addr}{ps:List (Int × Bool)}{R:Result->Shared->Prop}(hh:A.handled=none)(hu:A.units+2 < cLine)(hit:s.heap.IsListIter I l 0)(hl:s.heap.IsList l (us.map Value.ref).toArray)(h2:us.length<=2)(hps:ps.length=us.length)
 (hp:∀(i:Nat) u p,us[i]?=some u->ps[i]?=some p->PairV s.heap u p) (hd:∀p q,ps=[p,q]->p=q\/pH p≠pH q) (hS:SetQ w s.heap S []) (hIl:l≠I) (hIS:S≠I) (hlS:l≠S) (hIu:∀u∈us,u≠I) (hSu:∀u∈us,u≠S)
 (hR:∀h' tk vs,SetV w h' S vs->vs.Perm ((oncE us ps).map Value.ref)->(∀b o,b≠S->b≠I->s.heap.get? b=some o->h'.get? b=some o)->R (.ok (.ret .none)) { s with heap:=h',toks:=tk }) :
 codeAny (model prog w) A (.builtin "set.update.loop" ⟨[.ref S,.ref I],[]⟩) R s:=by
 have lk:∀{h h':Heap} {its:Array Value},h.IsList l its->(∀o,h.get? l=some o->h'.get? l=some o)->h'.IsList l its:=fun x k=>let ⟨o,e,r⟩:=x;⟨o,k o e,r⟩
 have ik:∀{h h':Heap} {i:Nat},h.IsListIter I l i->(∀o,h.get? I=some o->h'.get? I=some o)->h'.IsListIter I l i:=fun x k=>let ⟨o,e,r⟩:=x;⟨o,k o e,r⟩
 rcases us with _ | ⟨u1,_ | ⟨u2,_ | ⟨u3,ur⟩⟩⟩
 ·refine Ymk hh hit hl rfl fun h1 hs1=>?_
  exact hR h1 s.toks _ ((hS.keep fun o e=>hs1 S o hIS e).vals (by simp)) (.refl _) fun b o _ hb e=>hs1 b o hb e
 ·rcases ps with _ | ⟨p1,_ | ⟨p2,pr⟩⟩
  ·simp at hps
  ·have hu1:=hp 0 u1 p1 rfl rfl
   refine Yoa hu hit hl rfl hu1 (hIu u1 (by simp)) fun h1 tk1 hi1 hs1=>?_
   refine Yh2 (s:={ s with heap:=h1,toks:=tk1 }) (hS.keep fun o e=>by rw[hs1.2 S hIS];exact e) (by simp) (hu1.keep fun o e=>by rw[hs1.2 u1 (hIu u1 (by simp))];exact e) (by simp) fun h2' vs2 hs2 hn2 hp2 ho2=>?_
   refine Ymk hh (ik hi1 fun o e=>by rw[hs2.2 I (Ne.symm hIS)];exact e) (lk hl fun o e=>by rw[hs2.2 l hlS,hs1.2 l hIl];exact e) rfl fun h3 hs3=>?_
   refine hR h3 tk1 _ (((ho2 rfl).keep fun o e=>hs3 S o hIS e).vals (by simp)) (.refl _) fun b o hb1 hb2 e=>hs3 b o hb2 (by rw[hs2.2 b hb1,hs1.2 b hb2];exact e)
  ·simp at hps
 ·rcases ps with _ | ⟨p1,_ | ⟨p2,_ | ⟨p3,pr⟩⟩⟩
  ·simp at hps
  ·simp at hps
  ·have hu1:=hp 0 u1 p1 rfl rfl
   have hu2:=hp 1 u2 p2 rfl rfl
   have n1:=hIu u1 (by simp)
   have n2:=hIu u2 (by simp)
   have m2:=hSu u2 (by simp)
   refine Yoa hu hit hl rfl hu1 n1 fun h1 tk1 hi1 hs1=>?_
   refine Yh2 (s:={ s with heap:=h1,toks:=tk1 }) (hS.keep fun o e=>by rw[hs1.2 S hIS];exact e) (by simp) (hu1.keep fun o e=>by rw[hs1.2 u1 n1];exact e) (by simp) fun h2' vs2 hs2 hn2 hp2 ho2=>?_
   have k2:∀b o,b≠S->b≠I->s.heap.get? b=some o->h2'.get? b=some o:=fun b o hb1 hb2 e=>by rw[hs2.2 b hb1,hs1.2 b hb2];exact e
   refine Yoa (s:={ s with heap:=h2',toks:=tk1 }) hu (ik hi1 fun o e=>by rw[hs2.2 I (Ne.symm hIS)];exact e) (lk hl fun o e=>k2 l o hlS hIl e) rfl (hu2.keep fun o e=>k2 u2 o m2 n2 e) n2 fun h3 tk3 hi3 hs3=>?_
   have k3:∀b o,b≠S->b≠I->s.heap.get? b=some o->h3.get? b=some o:=fun b o hb1 hb2 e=>by rw[hs3.2 b hb2];exact k2 b o hb1 hb2 e
   by_cases hpq:p1=p2
   ·subst hpq
    refine Yvu (s:={ s with heap:=h3,toks:=tk3 }) (v:=u1) (p:=p1) (by show _+1 < cLine;lia) ((ho2 rfl).keep fun o e=>by rw[hs3.2 S hIS];exact e) (hu1.keep fun o e=>k3 u1 o (hSu u1 (by simp)) n1 e) (hu2.keep fun o e=>k3 u2 o m2 n2 e) ?_
    refine Ymk (s:={ s with heap:=h3,toks:=tk3 }) hh hi3 (lk hl fun o e=>k3 l o hlS hIl e) rfl fun h5 hs5=>?_
    refine hR h5 tk3 _ (((ho2 rfl).keep fun o e=>hs5 S o hIS (by rw[hs3.2 S hIS];exact e)).vals (by simp)) ?_ fun b o hb1 hb2 e=>hs5 b o hb2 (k3 b o hb1 hb2 e)
    rw[oncE,if_pos rfl]
    exact .refl _
   ·have hdp:pH p1≠pH p2:=by
     rcases hd p1 p2 rfl with z | z
     ·exact absurd z hpq
     ·exact z
    refine Yh2 (s:={ s with heap:=h3,toks:=tk3 }) ((ho2 rfl).keep fun o e=>by rw[hs3.2 S hIS];exact e) (by simp) (hu2.keep fun o e=>k3 u2 o m2 n2 e) (fun q hq=>?_) fun h4 vs4 hs4 hn4 hp4 _=>?_
    ·simp only[List.mem_singleton]at hq
     rw[hq]
     exact hdp
    ·refine Ymk (s:={ s with heap:=h4,toks:=tk3 }) hh (ik hi3 fun o e=>by rw[hs4.2 I (Ne.symm hIS)];exact e) (lk hl fun o e=>by rw[hs4.2 l hlS];exact k3 l o hlS hIl e) rfl fun h5 hs5=>?_
     refine hR h5 tk3 vs4 (hn4.at fun o e=>hs5 S o hIS e) ?_ fun b o hb1 hb2 e=>hs5 b o hb2 (by rw[hs4.2 b hb1];exact k3 b o hb1 hb2 e)
     rw[oncE,if_neg hpq]
     exact hp4
  ·simp at hps
 ·simp at h2
theorem Yh3{l:Addr}{us:List Addr}{ps:List (Int × Bool)}{Q:Value->Shared->Prop}(hh:A.handled=none)(hu:A.units+8 < cLine)(hl:s.heap.IsList l (us.map Value.ref).toArray)(h2:us.length<=2)(hps:ps.length=us.length)
 (hp:∀(i:Nat) u p,us[i]?=some u->ps[i]?=some p->PairV s.heap u p) (hd:∀p q,ps=[p,q]->p=q\/pH p≠pH q)
 (h:∀(h':Heap) (tk:Nat) vs,SetV w h' s.heap.objs.size vs->vs.Perm ((oncE us ps).map Value.ref)->(∀b o,s.heap.get? b=some o->h'.get? b=some o)->Q (.ref s.heap.objs.size) { s with heap:=h',toks:=tk }) :
 wpAny (model prog w) A (call (.type "set") [.ref l]) Q E s:=by
 refine Yb6 (Q₁:=fun obj s₁=>obj=.ref s.heap.objs.size/\s₁={ s with heap:=s.heap.push (emS w) }) F.called_set (F.typeCall_set_1 _) F.entry_set_init (Yhk _ ⟨rfl,rfl⟩) ?_
 rintro obj s₁ ⟨rfl,rfl⟩
 have hS:(s.heap.push (emS w)).get? s.heap.objs.size=some (emS w):=qo _ rfl
 have hT:Shared.TypeIs { s with heap:=s.heap.push (emS w) } (.ref s.heap.objs.size) "set":=⟨_,hS,rfl⟩
 refine⟨hT,fun A' E' Q' hq=>check_set_init_1 hT hq,?_⟩
 have hul:∀u∈us,u < s.heap.objs.size:=fun u hm=>by
  obtain⟨i,hi,e⟩:=List.getElem_of_mem hm
  have hi':i < ps.length:=by lia
  obtain⟨o,_,_,ho,_⟩:=hp i u ps[i] (by rw[qp hi,e]) (qp hi')
  exact qk ho
 generalize hits:(us.map Value.ref).toArray=items at hl
 obtain⟨ol,hol,hcl,nl,hdl⟩:=hl
 obtain⟨ocls,odict,odata,oslots⟩:=ol
 simp only at hcl hdl
 subst hcl;subst hdl
 have hol':(s.heap.push (emS w)).get? l=some { cls:=.type "list",dict:=odict,data:=.seq items nl,slots:=oslots }:=qd _ hol
 have hsls:=F.sub_list_set
 have hslf:=F.sub_list_frozenset
 have hne:(Value.type "list"==Value.type "dict")=false:=by decide
 have hl1:(s.heap.push (emS w)).IsList l items:=⟨_,hol',rfl,nl,rfl⟩
 unfold Builtin.«set.__init__» noKeywords Builtin.Frozenset.updateFrom
 generalize hPI:pyIter=PI
 wp_walk
 subst hPI
 refine wpAny_pyIter_list hl1 ?_
 refine wpAny_bind (wpAny_runValue ?_)
 have hlS:l < s.heap.objs.size:=qk hol
 have hsz:(s.heap.push (emS w)).objs.size=s.heap.objs.size+1:=Heap.size_push ..
 have hol2:((s.heap.push (emS w)).push { cls:=.type "list_iterator",data:=.fields #[.ref l,.int 0 0] }).IsList l items:=hl1.push _
 rw[<-hits]at hol2
 refine Ysr (us:=us) (ps:=ps) (by simp[hh]) (by show _+2 < cLine;simp;lia) ⟨_,qo _ rfl,rfl,rfl⟩ hol2 h2 hps (fun i u p hi hp'=>(hp i u p hi hp').keep fun o e=>qd _ (qd _ e)) hd ?_ ?_ ?_ ?_ ?_ ?_ ?_
 ·exact⟨emS w,#[],0,_,qd _ hS,⟨rfl,rfl,rfl⟩,rfl,rfl,rfl,rfl,rfl,rfl,.fresh⟩
 ·rw[hsz];exact ql (qv hlS)
 ·rw[hsz];exact ql (qy _)
 ·exact ql hlS
 ·intro u hm;rw[hsz];exact ql (qv (hul u hm))
 ·intro u hm;exact ql (hul u hm)
 ·intro h' tk vs hN hpm old
  show wpAny _ _ _ _ _ _
  refine wpAny_pure ?_
  show wpAny _ _ (ret Value.none) _ _ _
  refine wpAny_pure ⟨rfl,h h' tk vs hN hpm fun b o e=>?_⟩
  have hb:=qk e
  exact old b o (ql hb) (by rw[hsz];exact ql (qv hb)) (qd _ (qd _ e))
theorem y2v{L:Addr}{vs:List Value}{Q:Fin->Shared->Prop}(hoS:s.heap.get? L=some (seqObj "list" vs.toArray 0))(h2:vs.length < 2)
 (hQ:∀h' e,(∀b o,b≠L->s.heap.get? b=some o->h'.get? b=some o)->h'.get? L=some (seqObj "list" vs.toArray e)->Q (.done (.ret .none)) { s with heap:=h' }) :
 wpAny (model prog w) A (Builtin.«list.sort» ⟨[.ref L],[]⟩) Q E s:=by
 rw[list_sort_plain]
 have ha:L < s.heap.objs.size:=qk hoS
 refine wpAny_bind (listItems_at hoS rfl ?_)
 refine wpAny_bind (listUpdate_at hoS rfl ?_ (by rw[qj,sizeLine_eq];lia) (Nat.zero_le _))
 obtain⟨e1,ho1⟩:∃e1,(s.heap.update L (Obj.mapSeq fun _=>#[])).get? L=some (seqObj "list" #[] e1):=⟨_,get?_update_seq hoS (fun _=>#[])⟩
 refine wpAny_bind (seqEpoch_at ho1 rfl ?_)
 refine wpAny_bind (wpAny_newTuple ?_ (by show vs.length<=_;rw[sizeLine_eq];lia))
 refine wpAny_bind (wpAny_newList ?_ (Nat.zero_le _))
 refine wpAny_holding ?_
 have ho6:(((s.heap.update L (Obj.mapSeq fun _=>#[])).push (seqObj "tuple" vs.toArray 0)).push (seqObj "list" #[] 0)).get? L=some (seqObj "list" #[] e1):=by
  rw[Heap.get?_push_ne _ _ _ (by rw[size_push',Heap.size_update];exact ql (qv ha)),Heap.get?_push_ne _ _ _ (by rw[Heap.size_update];exact ql ha)]
  exact ho1
 have keep6:∀b o,b≠L->s.heap.get? b=some o->(((s.heap.update L (Obj.mapSeq fun _=>#[])).push (seqObj "tuple" vs.toArray 0)).push (seqObj "list" #[] 0)).get? b=some o:=fun b o hb q=>by
  refine qd _ (qd _ ?_)
  rw[Heap.get?_update_ne _ _ _ _ hb]
  exact q
 show wpAny (model prog w) _ _ _ _ { s with heap:=((s.heap.update L (Obj.mapSeq fun _=>#[])).push (seqObj "tuple" vs.toArray 0)).push (seqObj "list" #[] 0) }
 generalize ((s.heap.update L (Obj.mapSeq fun _=>#[])).push (seqObj "tuple" vs.toArray 0)).push (seqObj "list" #[] 0)=h6 at ho6 keep6 ⊢
 dsimp only
 have hlt:vs.toArray.size < 2:=by rw[qj];exact h2
 rw[if_pos hlt,if_pos hlt]
 refine wpAny_bind (wpAny_pure ?_)
 rw[StateT.run_pure]
 refine wpAny_bind (wpAny_pure ?_)
 dsimp only
 refine wpAny_bind (seqEpoch_at ho6 rfl ?_)
 refine wpAny_bind (listUpdate_at ho6 rfl ?_ (hsz2:=by rw[Array.size_map];show(PyProof.Rows.pairsOf vs).size<=_;rw[pairsOf_size,sizeLine_eq];lia))
 simp only[bne_self_eq_false,Bool.false_eq_true,if_false]
 have hout:(arrOf (SortSt.mk' general' (vs.toArray.zip vs.toArray) #[] 7 none)).map (·.2)=vs.toArray:=by
  show(vs.toArray.zip vs.toArray).map (·.2)=vs.toArray
  apply Array.toList_inj.mp
  simp[List.map_snd_zip]
 refine wpAny_pure ?_
 rw[hout]
 exact hQ _ _ (fun b o hb q=>by rw[Heap.get?_update_ne _ _ _ _ hb];exact keep6 b o hb q) (get?_update_seq ho6 (fun _=>vs.toArray))
end
end
section
set_option maxRecDepth 100000
section
variable {prog:Program} {w:World} {A:Around} {E:Value->Shared->Prop} {s:Shared}
theorem Yvv:∀{us:List Addr} {ps:List (Int × Bool)},(∀p q,ps=[p,q]->pH p≠pH q)->(oncE us ps).length=us.length:=by
 intro us ps hd
 unfold oncE
 split
 ·rw[if_neg fun e=>hd _ _ rfl (by rw[e])]
 ·rfl
theorem Yje{l:Addr}{us:List Addr}{ps:List (Int × Bool)}{Q:Value->Shared->Prop}(hh:A.handled=none)(hu:A.units+8 < cLine)(hl:s.heap.IsList l (us.map Value.ref).toArray)(h2:us.length<=2)(hps:ps.length=us.length)
 (hp:∀(i:Nat) u p,us[i]?=some u->ps[i]?=some p->PairV s.heap u p) (hd:∀p q,ps=[p,q]->pH p≠pH q)
 (h:∀(h':Heap) (tk:Nat),SetN w h' s.heap.objs.size us.length->(∀b o,s.heap.get? b=some o->h'.get? b=some o)->Q (.ref s.heap.objs.size) { s with heap:=h',toks:=tk }) :
 wpAny (model prog w) A (call (.type "set") [.ref l]) Q E s:=by
 refine Yh3 hh hu hl h2 hps hp (fun p q e=>.inr (hd p q e)) fun h' tk vs hS hpm hk=>h h' tk ?_ hk
 obtain⟨o,es,ep,t,h1,hx,h3,hvs,hb,hf,_⟩:=hS
 refine⟨o,es,ep,t,h1,hx,h3,?_,hf⟩
 have e1:es.size=vs.length:=by rw[<-hvs,qe,qi]
 rw[e1,hpm.length_eq,qe,Yvv hd]
end
def setC(w:World)(p:Addr)(n:Nat):HO:=.ext fun h=>SetN w h p n
theorem Yss{P:Program}{w:World}{H:Hp}{h:Heap}{p:Addr}{n:Nat}(x:SetN w h p n):ObjOk P w H h p (setC w p n):=by
 refine⟨x,?_,fun h1 h2 e k=>?_⟩
 ·obtain⟨o,_,_,_,ho,_⟩:=x
  exact⟨o,ho⟩
 ·obtain⟨o,es,ep,t,ho,r⟩:=e
  exact⟨o,es,ep,t,k o ho,r⟩
theorem SetI.count{P:Program}{w:World}{h:Heap}{a:Addr}{ns:List Int}(x:SetI P w h a ns):SetN w h a ns.length:=by
 obtain⟨o,es,ep,t,h1,h2,h3,h4,h5,h6,h7,h8,h9⟩:=x
 exact⟨o,es,ep,t,h1,h2,h3,by rw[<-h5,qe,qi],h8⟩
def VPrs(H:Hp):List V->List (Int × Bool)->Prop
 | [],[]=>True
 | x::xs,q::qs=>(∃b,x=.ref b/\H b=some (.tup [.int q.1,.bl q.2]))/\VPrs H xs qs
 | _,_=>False
def Yst:List (Int × Bool)->Bool
 | [p,q]=>decide (pH p≠pH q)
 | l=>decide (l.length<=2)
def y4i(K:W.Frag)(w:World):List V->Hp->VK->Prop:=fun xs H Q=>∃a ys n,xs=[.ref a]/\SqL K H a ys/\((∃ns:List Int,ys=ns.map V.int/\ns.length < 4000/\n=(ddup [] ns).length)\/(∃qs,VPrs H ys qs/\Yst qs=true/\n=qs.length))/\∀p,H p=none->Q (.ref p) (upd H p (setC w p n))
section
variable {X:Cx}
theorem Ysu{pins:List (Addr × Obj)}{s:Shared}{σ:L2.St}{H:Hp}(I:Inv X pins σ H s):∀{ys:List V} {its:List Value} {qs:List (Int × Bool)},VPrs H ys qs->Vals ys its->∃us:List Addr,its=us.map Value.ref/\us.length=qs.length/\∀(i:Nat) u p,us[i]?=some u->qs[i]?=some p->PairV s.heap u p
 | [],its,[],_,r=>by
   cases r
   exact⟨[],rfl,rfl,fun i u p h=>by simp at h⟩
 | y::ys,its,q::qs,h,r=>by
   obtain⟨⟨b,rfl,hb⟩,h⟩:=h
   cases r with
   | cons r1 r2=>
     cases r1
     obtain⟨us,h1,h2,h3⟩:=Ysu I h r2
     obtain⟨its2,rv,⟨o,e,hc,n,hd⟩,_⟩:=I.tuple (xs:=[.int q.1,.bl q.2]) (.of hb)
     cases rv with
     | cons ra rb=>
       cases rb with
       | cons rc rd=>
         cases rd
         obtain⟨t,rfl⟩:=ra
         cases rc
         refine⟨b::us,by rw[h1];rfl,by simp[h2],fun i u p hi hp=>?_⟩
         cases i with
         | zero=>
           simp at hi hp
           subst hi hp
           exact⟨o,t,n,e,hc,hd⟩
         | succ i=>exact h3 i u p (by simpa using hi) (by simpa using hp)
 | [],_,_::_,h,_=>h.elim
 | _::_,_,[],h,_=>h.elim
theorem Ysv(hc:X.calm=true)(hu:X.A.units+64 < cLine):Yb5 X (.type "set") (y4i X.K X.w):=by
 intro pins s σ H xs us Q I r h
 obtain⟨a,ys,n,rfl,hq,hn,q⟩:=h
 obtain⟨u,rfl,rx⟩:=Ygl r
 cases rx
 have hh:X.A.handled=none:=I.ok.hd hc
 have hsb:scanBound=4096:=rfl
 obtain⟨its,rv,pl,hz⟩:=I.list hq
 rcases hn with⟨ns,rfl,hl,rfl⟩ | ⟨qs,hv,hd,rfl⟩
 ·have hlen:=rv.length
  rw[qe]at hlen
  refine Ykn hh pl.isList (by simpa using Ysk rv) (by rw[qj,hsb];lia) fun h' tk ms hS hp hk=>?_
  exact⟨.ref s.heap.objs.size,_,I.laid (t':=tk) (fun b o e=>hk b o (qk e) e) (qt _) (Yss (by rw[<-hp.length_eq];exact hS.count)),rfl,q _ (I.hok.fresh (qt _))⟩
 ·obtain⟨bs,e1,e2,e3⟩:=Ysu I hv rv
  have hls:s.heap.IsList a (bs.map Value.ref).toArray:=by rw[<-e1];exact pl.isList
  have hl2:qs.length<=2:=by
   rcases qs with _ | ⟨p1,_ | ⟨p2,_ | ⟨p3,r⟩⟩⟩
   ·simp
   ·simp
   ·simp
   ·simp[Yst]at hd
  have hdf:∀p q,qs=[p,q]->pH p≠pH q:=fun p q e=>by
   subst e
   simpa [Yst]using hd
  refine Yje hh (by lia) hls (by lia) e2.symm e3 hdf fun h' tk hS hk=>?_
  exact⟨.ref s.heap.objs.size,_,I.laid (t':=tk) hk (qt _) (Yss (by rw[<-e2];exact hS)),rfl,q _ (I.hok.fresh (qt _))⟩
def y4j(w:World):List V->Hp->VK->Prop:=fun xs H Q=>∃a n,xs=[.ref a]/\H a=some (setC w a n)/\n < 4000/\Q (.int n) H
theorem Ysw:Yb5 X (.builtin "len") (y4j X.w):=by
 intro pins s σ H xs us Q I r h
 obtain⟨a,n,rfl,ha,hn,q⟩:=h
 obtain⟨u,rfl,rx⟩:=Ygl r
 cases rx
 obtain⟨o,es,ep,t,h1,h2,h3,h4,h5⟩:SetN X.w s.heap a n:=(show ObjOk X.prog X.w H s.heap a (setC X.w a n) from I.hok a _ ha).1
 refine call_len_set h1 h2 h3 h5 (by rw[h4];lia) ?_
 exact⟨.int n,H,I.tok _,⟨_,by rw[h4]⟩,q⟩
end
def prsD:List D->Option (List (Int × Bool))
 | []=>some []
 | d::l=>(prI d).bind fun x=>(prsD l).map (x::·)
theorem y2w{K:W.Frag}{G:Hp}{d:D}{p:Int × Bool}{x:V}(h:prI d=some p)(rx:Rp K G d x):∃b,x=.ref b/\G b=some (.tup [.int p.1,.bl p.2]):=by
 rw[Yks h,Rp]at rx
 obtain⟨b,ys,rfl,hb,ry⟩:=rx
 rw[RpL]at ry
 obtain⟨y1,yr,rfl,r1,ry⟩:=ry
 rw[RpL]at ry
 obtain⟨y2,yr,rfl,r2,ry⟩:=ry
 rw[RpL]at ry
 subst ry
 rw[Rp]at r1
 rw[Rp]at r2
 subst r1
 subst r2
 exact⟨b,rfl,hb⟩
theorem Ysx{d:D}{l:List D}{ps:List (Int × Bool)}(e:prsD (d::l)=some ps):∃p ps',ps=p::ps'/\prI d=some p/\prsD l=some ps':=by
 obtain⟨x,h1,h2⟩:=qa e
 obtain⟨y,h3,h4⟩:=qb h2
 exact⟨x,y,h4.symm,h1,h3⟩
def Ysy(l:List D):Option D:=match Ye8 l with
 | some ns=>if ns.length < 4000 then some (.int (ddup [] ns).length)else none
 | none=>(prsD l).bind fun ps=>if Yst ps=true then some (.int ps.length)else none
def Yh4:List D->Option D
 | [.lst l]=>Ysy l
 | _=>none
theorem Ysz{K:W.Frag}{G H:Hp}(s:Same G H):∀{l:List D} {ps:List (Int × Bool)} {xs:List V},prsD l=some ps->RpL K G l xs->VPrs H xs ps
 | [],ps,xs,e,r=>by
   rw[prsD]at e
   cases e
   rw[RpL]at r
   subst r
   exact trivial
 | d::l,ps,xs,e,r=>by
   obtain⟨p,ps',rfl,h0,h1⟩:=Ysx e
   rw[RpL]at r
   obtain⟨x,xr,rfl,rx,rr⟩:=r
   obtain⟨b,rfl,hb⟩:=y2w h0 rx
   exact⟨⟨b,rfl,s _ _ hb⟩,Ysz s h1 rr⟩
theorem Ypt:∀(l acc:List Int),(ddup acc l).length<=acc.length+l.length
 | [],acc=>by simp[ddup]
 | k::l,acc=>by
   rw[ddup]
   have:=Ypt l (if k∈acc then acc else acc++[k])
   split at this
   ·rename_i h;rw[if_pos h];simp;lia
   ·rename_i h;rw[if_neg h];simp at this ⊢;lia
section
variable {X:Cx} {e:Expr} {ga:Ro->Option (List D)} {p p2 pos pos2:Pos}
theorem Ys0(hc:X.calm=true)(hu:X.A.units+64 < cLine)(hm:X.mg "len"=none)(hm2:X.mg "set"=none)(hg:Gl X "len")(hg2:Gl X "set")(ha:MCA X [e] ga)(hs:starEach [e] X.env=[(false,eval e X.env)]:=by rfl)
 (he:starEach [.Call (.Name "set" p2) [e] [] pos2] X.env=[(false,eval (.Call (.Name "set" p2) [e] [] pos2) X.env)]:=by rfl)
 (hpl:(backTo pos2 (starEach [] X.env)).any (·.1)=false:=by rfl) (hpl2:(backTo pos (starEach [] X.env)).any (·.1)=false:=by rfl) :
 ME X (.Call (.Name "len" p) [.Call (.Name "set" p2) [e] [] pos2] [] pos) (cC ga Yh4):=
 PE.imp (Yc3 Ysw hg hm (by decide +kernel) (Ybd (Yez (Ysv hc hu) hg2 hm2 boot_set ha (by decide) (by decide) hs hpl) Yeb he) (by decide) (by decide) he hpl2) fun σ H Q hx_=>by
  obtain⟨ρ,d,H0,G0,G,e,s,h⟩:=hx_
  unfold cC at e
  obtain⟨ds,h1,e⟩:=qa e
  refine tCAof.at h1 s fun vs H1 G1 g1 r1 s1=>?_
  unfold Yh4 at e
  split at e
  case h_2=>cases e
  rename_i l
  obtain⟨v,rfl,rv⟩:=Yeq r1
  rw[Ct]at rv
  obtain⟨a,xs,rfl,hq,rl⟩:=rv
  unfold Ysy at e
  split at e
  ·rename_i ns hns
   split at e
   case isFalse=>cases e
   rename_i hl
   cases e
   cases Yfr hns
   cases Ykt rl
   refine⟨a,_,(ddup [] ns).length,rfl,.inl hq,.inl ⟨ns,rfl,hl,rfl⟩,fun m hm'=>?_⟩
   have g2:=Gr.hid s1.seen hm' (setC X.w m (ddup [] ns).length)
   refine⟨m,_,rfl,Yt,by have:=Ypt ns [];simp at this;lia,?_⟩
   exact h _ _ G1 (g1.trans g2) (by rw[Rp])
  ·obtain⟨ps,h2,e⟩:=qa e
   split at e
   case isFalse=>cases e
   rename_i hd
   cases e
   have hv:=Ysz s1.seen h2 rl
   refine⟨a,xs,ps.length,rfl,.inl hq,.inr ⟨ps,hv,hd,rfl⟩,fun m hm'=>?_⟩
   have g2:=Gr.hid s1.seen hm' (setC X.w m ps.length)
   refine⟨m,_,rfl,Yt,?_,?_⟩
   ·rcases ps with _ | ⟨p1,_ | ⟨p2,_ | ⟨p3,r⟩⟩⟩
    ·simp
    ·simp
    ·simp
    ·simp[Yst]at hd
   ·exact h _ _ G1 (g1.trans g2) (by rw[Rp])
end
end
section
def setW(w:World)(p:Addr)(vs:List Value):HO:=.ext fun h=>SetV w h p vs
theorem Yy9{P:Program}{w:World}{H:Hp}{h:Heap}{p:Addr}{vs:List Value}(x:SetV w h p vs):ObjOk P w H h p (setW w p vs):=by
 refine⟨x,?_,fun h1 h2 e k=>e.at k⟩
 obtain⟨o,_,_,_,ho,_⟩:=x
 exact⟨o,ho⟩
section
variable {X:Cx} {e:Expr} {f:Ro->Option D} {p p2 pos pos2:Pos}
theorem Ymn:∀{bs:List Addr} {its:List Value},Vals (bs.map V.ref) its->its=bs.map Value.ref
 | [],_,r=>by cases r;rfl
 | b::bs,_,r=>by
   cases r with
   | cons r1 r2=>
     cases r1
     rw[Ymn r2]
     rfl
theorem Ymo:∀bs:List Addr,Vals (bs.map V.ref) (bs.map Value.ref)
 | []=>.nil
 | b::bs=>.cons rfl (Ymo bs)
def lstL:D->Option (List D)
 | .lst l=>some l
 | _=>none
@[simp] theorem lstL_lst(l:List D):lstL (.lst l)=some l:=nr0 rfl
end
end
section
set_option maxRecDepth 100000
theorem Ys1(h:Int):SetTable.bits h < 32 ^ 13:=by
 unfold SetTable.bits
 have:h % (2 ^ 64:Int) < 2 ^ 64:=Int.emod_lt_of_pos _ (by decide)
 have h2:0<=h % (2 ^ 64:Int):=Int.emod_nonneg _ (by decide)
 have:(h % (2 ^ 64:Int)).toNat < 2 ^ 64:=by lia
 exact Qc this (by decide)
theorem Ys2{mask:Nat}{owner:Array (Option Nat)}(hm:mask+1∈sizes){j:Nat}(hj:j < mask+1)(ho:owner.getD j (some 0)=none):∀(m fuel i p:Nat),p < 32 ^ m->i < mask+1->m+mask+1<=fuel->∃j,SetTable.layClean.free mask owner fuel i p=some j/\owner.getD j (some 0)=none
 | 0,fuel,i,p,hp,hi,hf=>by
   have hz:p=0:=by simp at hp;lia
   subst hz
   obtain⟨k,hk,e2⟩:=Yw6 hm hi hj
   exact Ymi k _ _ (by lia) (by rw[e2];exact ho)
 | m+1,0,i,p,hp,hi,hf=>absurd hf (by lia)
 | m+1,fuel+1,i,p,hp,hi,hf=>by
   rcases Ymh (mask:=mask) (owner:=owner) fuel i p with h1 | ⟨_,h2⟩
   ·exact h1
   ·rw[h2]
    refine Ys2 hm hj ho m fuel _ _ ?_ (Nat.mod_lt _ (by lia)) (by lia)
    rw[Nat.div_lt_iff_lt_mul (by decide),<-Nat.pow_succ]
    exact hp
theorem Yvw{mask:Nat}{owner:Array (Option Nat)}(hm:mask+1∈sizes){i p:Nat}(hi:i < mask+1)(hp:p < 32 ^ 13)(hf:∃j,j < mask+1/\owner.getD j (some 0)=none):∃j,SetTable.layClean.free mask owner (SetTable.turns mask) i p=some j/\owner.getD j (some 0)=none:=by
 obtain⟨j,hj,ho⟩:=hf
 exact Ys2 hm hj ho 13 _ i p hp hi (by show _<=mask+15;lia)
def advM(mask:Nat)(p:SetTable.Probe):SetTable.Probe:=SetTable.advance { mask:=mask,place:=#[],dummies:=#[],finger:=0,led:=false,moves:=0,plain:=false } p
def itP(mask:Nat):Nat->SetTable.Probe->SetTable.Probe
 | 0,p=>p
 | k+1,p=>itP mask k (advM mask p)
theorem Ykv(mask:Nat):∀(a b:Nat) (p:SetTable.Probe),itP mask (a+b) p=itP mask b (itP mask a p)
 | 0,b,p=>by rw[Nat.zero_add];rfl
 | a+1,b,p=>by rw[Nat.succ_add];exact Ykv mask a b _
def stP(mask i perturb:Nat):SetTable.Probe:={ j:=i,more:=SetTable.runEnd mask i - i,i,perturb,dummy:=none }
def Way(mask:Nat)(occ:Nat->Prop)(p:SetTable.Probe)(j:Nat):Prop:=∃k,(itP mask k p).j=j/\∀m,m < k->occ (itP mask m p).j
theorem Way.mono{mask:Nat}{occ occ':Nat->Prop}{p:SetTable.Probe}{j:Nat}(h:Way mask occ p j)(ho:∀x,occ x->occ' x):Way mask occ' p j:=by
 obtain⟨k,h1,h2⟩:=h
 exact⟨k,h1,fun m hm=>ho _ (h2 m hm)⟩
theorem Yh5(mask:Nat):∀(k:Nat) (p:SetTable.Probe),k<=p.more->itP mask k p={ p with j:=p.j+k,more:=p.more - k }
 | 0,p,_=>rfl
 | k+1,p,h=>by
   have e:advM mask p={ p with j:=p.j+1,more:=p.more - 1 }:=by
    unfold advM SetTable.advance
    rw[if_pos (by lia)]
   show itP mask k (advM mask p)=_
   rw[e,Yh5 mask k _ (by show k<=p.more - 1;lia)]
   simp only[SetTable.Probe.mk.injEq,true_and,and_true]
   exact⟨by lia,by lia⟩
theorem Ypu(mask i perturb:Nat):itP mask (SetTable.runEnd mask i - i+1) (stP mask i perturb)=stP mask ((i * 5+1+perturb / 32) % (mask+1)) (perturb / 32):=by
 rw[Ykv,Yh5 mask (SetTable.runEnd mask i - i) (stP mask i perturb) (qt _)]
 show advM mask _=_
 unfold advM SetTable.advance
 rw[if_neg (by show ¬(SetTable.runEnd mask i - i - (SetTable.runEnd mask i - i) > 0);lia)]
 rfl
theorem Ys3{mask i:Nat}(h:i < mask+1):i+(SetTable.runEnd mask i - i)<=mask:=by
 unfold SetTable.runEnd
 split<;>lia
theorem Ypv{mask:Nat}{owner:Array (Option Nat)}:∀(fuel i perturb:Nat) {j:Nat},i < mask+1->SetTable.layClean.free mask owner fuel i perturb=some j->Way mask (fun x=>x < mask+1/\owner.getD x (some 0)≠none) (stP mask i perturb) j
 | 0,_,_,_,_,h=>by rw[SetTable.layClean.free]at h;cases h
 | fuel+1,i,perturb,j,hi,h=>by
   have hri:=Ys3 hi
   have hir:i<=SetTable.runEnd mask i:=by unfold SetTable.runEnd;split<;>lia
   rw[SetTable.layClean.free]at h
   cases e:(List.range (SetTable.runEnd mask i+1 - i)).find? (fun k=>(owner.getD (i+k) (some 0)).isNone)with
   | some k=>
     rw[e]at h
     cases h
     obtain⟨hk1,as,bs,hk2,hk3⟩:=List.find?_eq_some_iff_append.mp e
     have hkl:k < SetTable.runEnd mask i+1 - i:=by
      have:k∈List.range (SetTable.runEnd mask i+1 - i):=by rw[hk2];simp
      exact qz this
     refine⟨k,by rw[Yh5 mask k _ (by show k<=SetTable.runEnd mask i - i;lia)];rfl,fun m hm=>?_⟩
     rw[Yh5 mask m _ (by show m<=SetTable.runEnd mask i - i;lia)]
     refine⟨show i+m < mask+1 by lia,?_⟩
     show owner.getD (i+m) (some 0)≠none
     have hma:m∈as:=by
      have hl:as.length=k:=by
       have h1:(as++k::bs)[as.length]?=some k:=by simp
       rw[<-hk2]at h1
       obtain⟨h2,h3⟩:=qm h1
       rw[List.getElem_range]at h3
       exact h3
      have h1:(as++k::bs)[m]?=some m:=by
       rw[<-hk2,List.getElem?_range (by lia)]
      rw[List.getElem?_append_left (by lia)]at h1
      exact List.mem_of_getElem? h1
     have:=hk3 m hma
     intro z
     simp[z]at this
   | none=>
     rw[e]at h
     have ih:=Ypv fuel _ _ (j:=j) (Nat.mod_lt _ (by lia)) h
     obtain⟨k,h1,h2⟩:=ih
     have hall:∀m,m < SetTable.runEnd mask i - i+1->owner.getD (i+m) (some 0)≠none:=fun m hm z=>by
      have:=List.find?_eq_none.mp e m (List.mem_range.mpr (by lia))
      simp[z]at this
     refine⟨SetTable.runEnd mask i - i+1+k,by rw[Ykv,Ypu];exact h1,fun m hm=>?_⟩
     by_cases hm2:m < SetTable.runEnd mask i - i+1
     ·rw[Yh5 mask m _ (by show m<=SetTable.runEnd mask i - i;lia)]
      exact⟨show i+m < mask+1 by lia,hall m hm2⟩
     ·obtain⟨m',rfl⟩:∃m',m=SetTable.runEnd mask i - i+1+m':=⟨m - (SetTable.runEnd mask i - i+1),by lia⟩
      rw[Ykv,Ypu]
      exact h2 m' (by lia)
abbrev hSt(mask:Nat)(h:Int):SetTable.Probe:=stP mask (SetTable.bits h % (mask+1)) (SetTable.bits h)
theorem Ys4{mask:Nat}(hm:mask+1∈sizes):∀(hs:List Int) (owner:Array (Option Nat)) (k:Nat),owner.size=mask+1->((List.range (mask+1)).filterMap fun j=>owner.getD j none).Perm (List.range k)->k+hs.length<=mask->
 ∀H:Nat->Int,(∀i v,hs[i]?=some v->H (k+i)=v)->(∀j x,owner.getD j none=some x->Way mask (fun y=>owner.getD y none≠none) (hSt mask (H x)) j)->∃owner',(∀j x,owner'.getD j none=some x->Way mask (fun y=>owner'.getD y none≠none) (hSt mask (H x)) j)/\(hs.foldl (init:=some (owner,k)) fun acc h=>do
  let (owner,k) <-acc
  let j <-SetTable.layClean.free mask owner (SetTable.turns mask) (SetTable.bits h % (mask+1)) (SetTable.bits h)
  pure (owner.setIfInBounds j (some k),k+1))=some (owner',k+hs.length)/\owner'.size=mask+1/\((List.range (mask+1)).filterMap fun j=>owner'.getD j none).Perm (List.range (k+hs.length))
 | [],owner,k,h1,h2,_=>fun _ _ hw=>⟨owner,hw,rfl,h1,h2⟩
 | h::hs,owner,k,h1,h2,h3=>by
   intro H hH hw
   have hfree:∃j,j < mask+1/\owner.getD j (some 0)=none:=Classical.byContradiction fun hno=>by
    have hl:=h2.length_eq
    rw[List.length_range]at hl
    have all:∀j∈List.range (mask+1),(owner.getD j none).isSome=true:=fun j hj=>by
     have hj':=qz hj
     have:owner.getD j (some 0)≠none:=fun z=>hno ⟨j,hj',z⟩
     have hj2:j < owner.size:=by lia
     simp only[Array.getD,hj2,dif_pos]at this ⊢
     exact Option.isSome_iff_ne_none.mpr this
    have:((List.range (mask+1)).filterMap fun j=>owner.getD j none).length=(List.range (mask+1)).length:=by
     generalize List.range (mask+1)=l at all
     induction l with
     | nil=>rfl
     | cons x l ih=>
       obtain⟨v,hv⟩:=Option.isSome_iff_exists.mp (all x qg)
       rw[List.filterMap_cons_some (f:=fun j=>owner.getD j none) hv,qq,qq,ih fun j hj=>all j (qf _ hj)]
    rw[List.length_range]at this
    simp at h3
    lia
   obtain⟨j,hj,ho⟩:=Yvw hm (owner:=owner) (i:=SetTable.bits h % (mask+1)) (p:=SetTable.bits h) (Nat.mod_lt _ (by lia)) (Ys1 h) hfree
   have hjs:j < owner.size:=Classical.byContradiction fun z=>by
    simp only[Array.getD,z,dif_neg,not_false_eq_true]at ho
    cases ho
   have honone:owner.getD j none=none:=by
    simp only[Array.getD,hjs,dif_pos]at ho ⊢
    exact ho
   have hp:=Yw7 (f:=fun x=>owner.getD x none) (g:=fun x=>(owner.setIfInBounds j (some k)).getD x none) (j:=j) (k:=k) honone (by simp[Array.getD,hjs]) (l:=List.range (mask+1)) List.nodup_range (List.mem_range.mpr (by lia)) fun x hx hne=>by
    have hx':=qz hx
    have hx2:x < owner.size:=by lia
    simp[Array.getD,hx2,Array.getElem_setIfInBounds,Ne.symm hne]
   have hp2:((List.range (mask+1)).filterMap fun x=>(owner.setIfInBounds j (some k)).getD x none).Perm (List.range (k+1)):=by
    rw[show List.range (k+1)=List.range k++[k] from List.range_succ]
    exact(hp.trans (h2.cons k)).trans (List.perm_append_comm (l₁:=[k]))
   have hocc:∀y,owner.getD y none≠none->(owner.setIfInBounds j (some k)).getD y none≠none:=fun y hy=>by
    by_cases hys:y < owner.size
    ·by_cases e:j=y
     ·subst e;simp[Array.getD,hjs]
     ·simp[Array.getD,hys,Array.getElem_setIfInBounds,e]at hy ⊢
      exact hy
    ·simp[Array.getD,hys]at hy
   have hwj:Way mask (fun y=>(owner.setIfInBounds j (some k)).getD y none≠none) (hSt mask h) j:=(Ypv _ _ _ (Nat.mod_lt _ (by lia)) hj).mono fun y hy=>by
    have hys:y < owner.size:=by lia
    have hy2:=hy.2
    refine hocc y ?_
    simp only[Array.getD,hys,dif_pos]at hy2 ⊢
    exact hy2
   obtain⟨owner',e0,e1,e2,e3⟩:=Ys4 hm hs (owner.setIfInBounds j (some k)) (k+1) (by simpa using h1) hp2 (by simp at h3;lia) H (fun i v hv=>by rw[show k+1+i=k+(i+1) by lia];exact hH (i+1) v (by simpa using hv)) (fun y x hx=>by
    by_cases e:j=y
    ·subst e
     have hxk:x=k:=by simpa [Array.getD,hjs]using hx.symm
     rw[hxk,show H k=h from hH 0 h rfl]
     exact hwj
    ·have:owner.getD y none=some x:=by
      by_cases hys:y < owner.size
      ·simpa [Array.getD,hys,Array.getElem_setIfInBounds,e]using hx
      ·simp[Array.getD,hys]at hx
     exact(hw y x this).mono hocc)
   refine⟨owner',e0,?_,e2,?_⟩
   ·rw[List.foldl_cons]
    have:(do
     let (owner,k) <-some (owner,k)
     let j <-SetTable.layClean.free mask owner (SetTable.turns mask) (SetTable.bits h % (mask+1)) (SetTable.bits h)
     pure (owner.setIfInBounds j (some k),k+1))=some (owner.setIfInBounds j (some k),k+1):=by
     simp[hj]
    rw[this,e1,qq]
    congr 2
    lia
   ·rw[qq,show k+(hs.length+1)=k+1+hs.length by lia]
    exact e3
theorem Yvx{mask finger moves:Nat}{led plain:Bool}(hm:mask+1∈sizes)(hs:Array Int)(hn:hs.size<=mask):∃t o,SetTable.laid mask finger moves led plain hs=some (t,o)/\o.toList.Perm (List.range hs.size)/\t.place.size=hs.size/\t.dummies=#[]/\t.mask=mask/\t.plain=plain/\(∀j∈t.place.toList,j<=mask)/\∀q∈o.toList.zip t.place.toList,Way mask (·∈t.place.toList) (hSt mask (hs.toList.getD q.1 0)) q.2:=by
 have hinit:((List.range (mask+1)).filterMap fun j=>(Array.replicate (mask+1) (none:Option Nat)).getD j none)=[]:=by
  rw[List.filterMap_eq_nil_iff]
  intro j hj
  have:=qz hj
  simp[Array.getD,this]
 obtain⟨owner,e0,e1,e2,e3⟩:=Ys4 hm hs.toList (Array.replicate (mask+1) none) 0 (by simp) (by rw[hinit];exact .refl _) (by simpa using hn) (fun x=>hs.toList.getD x 0) (fun i v hv=>by rw[Nat.zero_add,List.getD_eq_getElem?_getD,hv];rfl) (fun j x hx=>by
  exfalso
  by_cases hj:j < mask+1
  ·simp[Array.getD,hj]at hx
  ·simp[Array.getD,hj]at hx)
 have hlc:SetTable.layClean mask hs=some owner:=by
  unfold SetTable.layClean
  rw[<-Array.foldl_toList]
  rw[e1]
  rfl
 have h2:((List.range (mask+1)).filterMap fun j=>(owner.getD j none).map (j,·)).map (·.2)=(List.range (mask+1)).filterMap fun j=>owner.getD j none:=by
  rw[List.map_filterMap]
  refine Yfb fun j _=>?_
  cases owner.getD j none<;>rfl
 refine⟨_,_,by unfold SetTable.laid;rw[hlc];rfl,?_,?_,rfl,rfl,rfl,fun j hj=>?_,fun q hq=>?_⟩
 ·simp only[List.toList_toArray]
  rw[h2]
  simpa using e3
 ·have:=e3.length_eq
  rw[<-h2,qe]at this
  simpa using this
 ·simp only[List.toList_toArray]at hj
  obtain⟨q,hq,rfl⟩:=qw hj
  obtain⟨i,hi,e⟩:=List.mem_filterMap.mp hq
  obtain⟨k,_,rfl⟩:=qb e
  exact Nat.le_of_lt_succ (qz hi)
 ·simp only[List.toList_toArray,List.zip_map',List.mem_map]at hq
  obtain⟨x,hx,rfl⟩:=hq
  obtain⟨i,hi,e⟩:=List.mem_filterMap.mp hx
  obtain⟨k,hk,rfl⟩:=qb e
  refine(e0 i k hk).mono fun y hy=>?_
  have hys:y < owner.size:=Classical.byContradiction fun z=>by simp[Array.getD,z]at hy
  obtain⟨v,hv⟩:=Option.ne_none_iff_exists'.mp hy
  simp only[List.toList_toArray]
  exact List.mem_map.mpr ⟨(y,v),List.mem_filterMap.mpr ⟨y,List.mem_range.mpr (by lia),by rw[hv];rfl⟩,rfl⟩
section
variable {t:SetTable} {hA:Nat->Int} {h:Int}
theorem Yc7(hr:Rise t.place)(hd:t.dummies=#[])(j:Nat):(j∉t.place.toList/\t.slot j=.empty)\/(∃i,t.slot j=.live i/\t.place.toList[i]?=some j):=by
 unfold SetTable.slot
 dsimp only
 cases e:t.place[SetTable.below t.place j]? with
 | none=>
   left
   refine⟨fun hm=>?_,?_⟩
   ·obtain⟨h1,h2,h3⟩:=Yd2 hr j
    rw[<-List.take_append_drop (SetTable.below t.place j) t.place.toList]at hm
    rcases qu hm with z | z
    ·exact absurd (h2 j z) (Qe _)
    ·rw[<-Array.getElem?_toList]at e
     have:t.place.toList.drop (SetTable.below t.place j)=[]:=List.drop_eq_nil_of_le (List.getElem?_eq_none_iff.mp e)
     rw[this]at z
     exact nomatch z
   ·rw[if_neg (by simp),hd]
    rfl
 | some x=>
   by_cases hx:x=j
   ·right
    refine⟨SetTable.below t.place j,by rw[if_pos (by simp[hx])],by rw[Array.getElem?_toList,e,hx]⟩
   ·left
    refine⟨fun hm=>?_,?_⟩
    ·obtain⟨h1,h2,h3⟩:=Yd2 hr j
     rw[<-Array.getElem?_toList]at e
     rw[<-List.take_append_drop (SetTable.below t.place j) t.place.toList]at hm
     rcases qu hm with z | z
     ·exact absurd (h2 j z) (Qe _)
     ·have hlt:=(qm e).1
      have hdr:=List.drop_eq_getElem_cons hlt
      have hxe:t.place.toList[SetTable.below t.place j]=x:=(qm e).2
      rw[hxe]at hdr
      have hxj:j<=x:=h3 x (by rw[hdr];exact qg)
      have hpw:(x::t.place.toList.drop (SetTable.below t.place j+1)).Pairwise (· < ·):=by
       rw[<-hdr]
       exact hr.sublist (List.drop_sublist _ _)
      rw[hdr]at z
      rcases qr z with z | z
      ·exact hx z.symm
      ·have:=(List.pairwise_cons.mp hpw).1 j z
       lia
    ·rw[if_neg (by simp[hx]),hd]
     rfl
def Yvy(t:SetTable)(hA:Nat->Int)(h:Int)(r:Option SetTable.Met):Prop:=
 (∃j,r=some (.empty j none)/\t.slot j=.empty/\j<=t.mask)\/(∃j i nx,r=some (.candidate j i nx)/\t.slot j=.live i/\(hA i==h)=true)
theorem Yvz{p:SetTable.Probe}(hp:p.more > 0):t.advance p={ p with j:=p.j+1,more:=p.more - 1 }:=by
 unfold SetTable.advance
 rw[if_pos hp]
theorem Yv0{p:SetTable.Probe}(hp:p.more=0):t.advance p={ p with j:=(p.i * 5+1+p.perturb / 32) % (t.mask+1),more:=SetTable.runEnd t.mask ((p.i * 5+1+p.perturb / 32) % (t.mask+1)) - (p.i * 5+1+p.perturb / 32) % (t.mask+1),i:=(p.i * 5+1+p.perturb / 32) % (t.mask+1),perturb:=p.perturb / 32 }:=by
 unfold SetTable.advance
 rw[if_neg (by lia)]
 rfl
theorem Yw9(mask i:Nat):SetTable.runEnd mask i - i<=9:=by
 unfold SetTable.runEnd
 split<;>lia
theorem Ypw(hr:Rise t.place)(hd:t.dummies=#[]):∀(more fuel:Nat) (p:SetTable.Probe),p.more=more->p.dummy=none->p.j+p.more<=t.mask->more+1<=fuel->
 Yvy t hA h (SetTable.probe.go t hA h fuel p)\/(t.slot p.j≠.empty/\∃p':SetTable.Probe,SetTable.probe.go t hA h fuel p=SetTable.probe.go t hA h (fuel - (more+1)) p'/\p'.i=(p.i * 5+1+p.perturb / 32) % (t.mask+1)/\p'.j=p'.i/\p'.perturb=p.perturb / 32/\p'.more<=9/\p'.dummy=none/\p'.j+p'.more<=t.mask)
 | _,0,_,_,_,_,hf=>absurd hf (by lia)
 | 0,fuel+1,p,hm,hdm,hb,_=>by
   rw[SetTable.probe.go]
   rcases Yc7 hr hd p.j with⟨_,e⟩ | ⟨i,e,_⟩
   ·left;left
    exact⟨p.j,by rw[e,hdm],e,by lia⟩
   ·rw[e]
    dsimp only
    cases hc:(hA i==h)with
    | true=>left;right;exact⟨p.j,i,_,by rw[if_pos rfl],e,hc⟩
    | false=>
      right
      refine⟨by simp,t.advance p,?_,?_⟩
      ·rw[if_neg qh,show fuel+1 - (0+1)=fuel by lia]
      ·rw[Yv0 hm]
       exact⟨rfl,rfl,rfl,Yw9 _ _,hdm,Ys3 (Nat.mod_lt _ (by lia))⟩
 | more+1,fuel+1,p,hm,hdm,hb,hf=>by
   rw[SetTable.probe.go]
   rcases Yc7 hr hd p.j with⟨_,e⟩ | ⟨i,e,_⟩
   ·left;left
    exact⟨p.j,by rw[e,hdm],e,by lia⟩
   ·rw[e]
    dsimp only
    cases hc:(hA i==h)with
    | true=>left;right;exact⟨p.j,i,_,by rw[if_pos rfl],e,hc⟩
    | false=>
      rw[if_neg qh,Yvz (by lia)]
      rcases Ypw hr hd more fuel { p with j:=p.j+1,more:=p.more - 1 } (by show p.more - 1=more;lia) hdm (by show p.j+1+(p.more - 1)<=t.mask;lia) (by lia)with z | ⟨_,p',z1,z2⟩
      ·exact .inl z
      ·right
       refine⟨by simp,p',?_,z2⟩
       rw[z1,show fuel+1 - (more+1+1)=fuel - (more+1) by lia]
theorem Ys5(hr:Rise t.place)(hd:t.dummies=#[]):∀(k fuel:Nat) (p:SetTable.Probe),p.j=p.i->p.perturb=0->p.more<=9->p.dummy=none->p.j+p.more<=t.mask->t.slot (lcgN (t.mask+1) k p.i)=.empty->10 * (k+1)<=fuel->Yvy t hA h (SetTable.probe.go t hA h fuel p)
 | 0,fuel,p,hj,h0,hm,hdm,hb,he,hf=>by
   rcases Ypw (hA:=hA) (h:=h) hr hd p.more fuel p rfl hdm hb (by lia)with z | ⟨z,_⟩
   ·exact z
   ·rw[hj]at z
    exact absurd he z
 | k+1,fuel,p,hj,h0,hm,hdm,hb,he,hf=>by
   rcases Ypw (hA:=hA) (h:=h) hr hd p.more fuel p rfl hdm hb (by lia)with z | ⟨_,p',z1,z2,z3,z4,z5,z6,z7⟩
   ·exact z
   ·rw[z1]
    refine Ys5 hr hd k _ p' z3 (by rw[z4,h0]) z5 z6 z7 ?_ (by lia)
    rw[z2,h0]
    exact he
theorem Yxa(hs:t.mask+1∈sizes)(hr:Rise t.place)(hd:t.dummies=#[]){j0:Nat}(hj0:j0 < t.mask+1)(he:t.slot j0=.empty):∀(m fuel:Nat) (p:SetTable.Probe),p.j=p.i->p.i < t.mask+1->p.perturb < 32 ^ m->p.more<=9->p.dummy=none->p.j+p.more<=t.mask->10 * (m+t.mask+1)<=fuel->Yvy t hA h (SetTable.probe.go t hA h fuel p)
 | 0,fuel,p,hj,hi,h0,hm,hdm,hb,hf=>by
   have hz:p.perturb=0:=by simp at h0;lia
   obtain⟨k,hk,e2⟩:=Yw6 hs hi hj0
   exact Ys5 hr hd k fuel p hj hz hm hdm hb (by rw[e2];exact he) (by lia)
 | m+1,fuel,p,hj,hi,h0,hm,hdm,hb,hf=>by
   rcases Ypw (hA:=hA) (h:=h) hr hd p.more fuel p rfl hdm hb (by lia)with z | ⟨_,p',z1,z2,z3,z4,z5,z6,z7⟩
   ·exact z
   ·rw[z1]
    refine Yxa hs hr hd hj0 he m _ p' z3 (by rw[z2];exact Nat.mod_lt _ (by lia)) ?_ z5 z6 z7 (by lia)
    rw[z4,Nat.div_lt_iff_lt_mul (by decide),<-Nat.pow_succ]
    exact h0
theorem Ypx(hr:Rise t.place)(hd:t.dummies=#[]):∀(fuel:Nat) (p:SetTable.Probe) {j:Nat} {d:Option Nat},SetTable.probe.go t hA h fuel p=some (.empty j d)->Way t.mask (·∈t.place.toList) p j
 | 0,_,_,_,e=>by rw[SetTable.probe.go]at e;cases e
 | fuel+1,p,j,d,e=>by
   rw[SetTable.probe.go]at e
   rcases Yc7 hr hd p.j with⟨_,z⟩ | ⟨i,z,z2⟩
   ·rw[z]at e
    cases e
    exact⟨0,rfl,fun m hm=>absurd hm (Nat.not_lt_zero _)⟩
   ·rw[z]at e
    dsimp only at e
    split at e
    ·cases e
    ·obtain⟨k,h1,h2⟩:=Ypx hr hd fuel _ e
     refine⟨k+1,h1,fun m hm=>?_⟩
     cases m with
     | zero=>exact List.mem_of_getElem? z2
     | succ m=>exact h2 m (by lia)
theorem Ypy(hr:Rise t.place)(hd:t.dummies=#[]){i j:Nat}(hs:t.slot j=.live i)(hi:(hA i==h)=true):∀(k fuel:Nat) (p:SetTable.Probe),(itP t.mask k p).j=j->(∀m,m < k->(itP t.mask m p).j∈t.place.toList)->∀j' d,SetTable.probe.go t hA h fuel p≠some (.empty j' d)
 | _,0,_,_,_,_,_=>by rw[SetTable.probe.go];exact fun z=>nomatch z
 | 0,fuel+1,p,h1,_,j',d=>by
   have h1':p.j=j:=h1
   rw[SetTable.probe.go,h1',hs]
   dsimp only
   rw[hi,if_pos rfl]
   exact fun z=>nomatch z
 | k+1,fuel+1,p,h1,h2,j',d=>by
   rw[SetTable.probe.go]
   rcases Yc7 hr hd p.j with⟨z,_⟩ | ⟨i',z,_⟩
   ·exact absurd (h2 0 (Nat.succ_pos _)) z
   ·rw[z]
    dsimp only
    split
    ·exact fun z=>nomatch z
    ·exact Ypy hr hd hs hi k fuel _ h1 (fun m hm=>h2 (m+1) (by lia)) j' d
structure Clean(t:SetTable)(n:Nat):Prop where
 hs:t.mask+1∈sizes
 dm:t.dummies=#[]
 rise:Rise t.place
 le:∀j∈t.place.toList,j<=t.mask
 sz:t.place.size=n
 room:n<=t.mask
theorem Clean.probe{n:Nat}(c:Clean t n):Yvy t hA h (t.probe hA h (t.probeStart h)):=by
 have hfree:∃j,j < t.mask+1/\j∉t.place.toList:=Classical.byContradiction fun hno=>by
  have hsub:List.range (t.mask+1)⊆t.place.toList:=fun j hj=>Classical.byContradiction fun z=>hno ⟨j,qz hj,z⟩
  have:=List.Nodup.length_le_of_subset List.nodup_range hsub
  rw[List.length_range,qi,c.sz]at this
  have:=c.room
  lia
 obtain⟨j0,h1,h2⟩:=hfree
 have he:t.slot j0=.empty:=by
  rcases Yc7 c.rise c.dm j0 with z | ⟨i,_,z⟩
  ·exact z.2
  ·exact absurd (List.mem_of_getElem? z) h2
 unfold SetTable.probe
 exact Yxa c.hs c.rise c.dm h1 he 13 _ _ rfl (Nat.mod_lt _ (by lia)) (Ys1 h) (Yw9 _ _) rfl (Ys3 (Nat.mod_lt _ (by lia))) (by show _<=10 * (t.mask+15);lia)
theorem Clean.put{n:Nat}(c:Clean t n){j:Nat}(hj:t.slot j=.empty)(hjm:j<=t.mask)(hroom:n+1<=t.mask):Clean { t with place:=SetTable.insertAt t.place (SetTable.below t.place j) j } (n+1):=by
 have hns:j∉t.place.toList:=by
  rcases Yc7 c.rise c.dm j with z | ⟨i,z,_⟩
  ·exact z.1
  ·rw[hj]at z;cases z
 refine⟨c.hs,c.dm,Yeo c.rise j (Yhi fun i z=>by rw[hj]at z;cases z),fun x hx=>?_,by rw[Yfc,c.sz],hroom⟩
 have hx':x∈(SetTable.insertAt t.place (SetTable.below t.place j) j).toList:=hx
 rw[Yx]at hx'
 rcases qu hx' with z | z
 ·exact c.le x (List.mem_of_mem_take z)
 ·rcases qr z with rfl | z
  ·exact hjm
  ·exact c.le x (List.mem_of_mem_drop z)
end
end
section
set_option maxRecDepth 100000
def bI(b:Bool):Int:=if b then 1 else 0
def bH(bs:List Bool):Int:=Yyc (bs.map bI)
def Ymp:Nat->List (List Bool)
 | 0=>[[]]
 | n+1=>[]::((Ymp n).map (false::·)++(Ymp n).map (true::·))
theorem Yfu:∀(n:Nat) (bs:List Bool),bs.length<=n->bs∈Ymp n
 | 0,[],_=>qg
 | 0,_::_,h=>by simp at h
 | n+1,[],_=>qg
 | n+1,b::bs,h=>by
   have ih:=Yfu n bs (by simp at h;lia)
   refine qf _ (List.mem_append.mpr ?_)
   cases b
   ·exact .inl (List.mem_map_of_mem ih)
   ·exact .inr (List.mem_map_of_mem ih)
theorem y2x:((Ymp 4).all fun a=>(Ymp 4).all fun b=>a==b||bH a != bH b)=true:=by decide +kernel
theorem Yxb{a b:List Bool}(ha:a.length<=4)(hb:b.length<=4)(h:bH a=bH b):a=b:=by
 have h1:=List.all_eq_true.mp y2x a (Yfu 4 a ha)
 have h2:=List.all_eq_true.mp h1 b (Yfu 4 b hb)
 rw[Bool.or_eq_true]at h2
 rcases h2 with z | z
 ·simpa using z
 ·rw[h]at z
  simp at z
def TupB(h:Heap)(u:Addr)(bs:List Bool):Prop:=bs.length<=4/\∃o n,h.get? u=some o/\o.cls=.type "tuple"/\o.data=.seq (bs.map Value.bool).toArray n
theorem TupB.keep{h h':Heap}{u:Addr}{bs:List Bool}(x:TupB h u bs)(k:∀o,h.get? u=some o->h'.get? u=some o):TupB h' u bs:=by
 obtain⟨hl,o,n,h1,r⟩:=x
 exact⟨hl,o,n,k o h1,r⟩
section
variable {prog:Program} {w:World} {A:Around} {E:Value->Shared->Prop} {s:Shared}
theorem TupB.key{h:Heap}{u:Addr}{bs:List Bool}(x:TupB h u bs):IsTupleKey (Ya9 prog w) h (bs.map bI) u:=by
 obtain⟨hlen,o,n,h1,h2,h3⟩:=x
 refine⟨o,_,n,h1,h2,h3,?_⟩
 rw[List.toList_toArray]
 clear h3 hlen
 induction bs with
 | nil=>exact .nil
 | cons b bs ih=>exact .cons (by cases b<;>simp[Ya9,Yh1,bI]) ih
theorem Yza{u:Addr}{bs:List Bool}{Q:Bool->Shared->Prop}(x:TupB s.heap u bs)(h:Q true s):wpAny (model prog w) A (hashByValue 8 (.ref u)) Q E s:=by
 obtain⟨hl,o,n,ho,hc,hd⟩:=x
 have hT:s.TypeIs (.ref u) "tuple":=⟨o,ho,hc⟩
 unfold hashByValue
 refine wpAny_bind (wpAny_specialOf hT F.slot_tuple_hash.lookup ?_)
 dsimp only
 refine wpAny_bind (wpAny_seqItems ho hd ?_)
 rcases bs with _ | ⟨a,_ | ⟨b,_ | ⟨c,_ | ⟨d,_ | ⟨e,r⟩⟩⟩⟩⟩
 ·simp[hashByValue];exact wpAny_pure h
 ·simp[hashByValue];exact wpAny_pure h
 ·simp[hashByValue];exact wpAny_pure h
 ·simp[hashByValue];exact wpAny_pure h
 ·simp[hashByValue];exact wpAny_pure h
 ·simp at hl
theorem Ys6{u:Addr}{bs:List Bool}{Q:Bool->Shared->Prop}(x:TupB s.heap u bs)(h:Q false s):wpAny (model prog w) A (ofAClassStatement 8 (.ref u)) Q E s:=by
 obtain⟨hl,o,n,h1,h2,h3⟩:=x
 have hT:s.TypeIs (.ref u) "tuple":=⟨o,h1,h2⟩
 unfold ofAClassStatement
 refine wpAny_bind (wpAny_typeOf hT ?_)
 dsimp only
 rw[if_pos (by decide)]
 refine wpAny_bind (wpAny_pure ?_)
 simp only[Bool.not_true,Bool.false_eq_true,if_false]
 refine wpAny_bind (wpAny_seqItems h1 h3 ?_)
 rcases bs with _ | ⟨a,_ | ⟨b,_ | ⟨c,_ | ⟨d,_ | ⟨e,r⟩⟩⟩⟩⟩
 ·simp[ofAClassStatement];exact wpAny_pure h
 ·simp[ofAClassStatement];exact wpAny_pure h
 ·simp[ofAClassStatement];exact wpAny_pure h
 ·simp[ofAClassStatement];exact wpAny_pure h
 ·simp[ofAClassStatement];exact wpAny_pure h
 ·simp at hl
theorem Yv1{u v:Addr}{p q:List Bool}{Q:Bool->Shared->Prop}(hu:TupB s.heap u p)(hv:TupB s.heap v q)(h:Q false s):wpAny (model prog w) A (searchCouldBeSeen (.ref u) [.ref v]) Q E s:=by
 unfold searchCouldBeSeen
 simp[carriedByValue]
 by_cases e:u=v
 ·rw[if_pos e]
  exact wpAny_bind (wpAny_pure (wpAny_bind (wpAny_pure (wpAny_pure h))))
 ·rw[if_neg e]
  refine wpAny_bind (wpAny_bind (wpAny_eqIsQuiet_tuple (knd:=Ya9 prog w) hu.key ?_))
  rw[if_neg (by decide)]
  refine wpAny_bind (wpAny_eqIsQuiet_tuple (knd:=Ya9 prog w) hv.key ?_)
  rw[if_neg (by decide)]
  refine wpAny_bind (Ys6 hu ?_)
  rw[if_neg (by decide)]
  refine wpAny_bind (Ys6 hv ?_)
  rw[if_neg (by decide)]
  exact wpAny_pure (wpAny_bind (wpAny_pure (wpAny_pure h)))
end
theorem Yj4{l:List (Int × Value)}{h:Int}{v:Value}(hn:(l.map (·.1)).Nodup)(hm:(h,v)∈l):l.filter (fun e=>e.1==h)=[(h,v)]:=by
 induction l with
 | nil=>exact nomatch hm
 | cons e l ih=>
   rw[Qb,List.nodup_cons]at hn
   rcases qr hm with rfl | hm
   ·have:l.filter (fun e=>e.1==h)=[]:=by
     rw[List.filter_eq_nil_iff]
     intro x hx hz
     have:x.1=h:=by simpa using hz
     exact hn.1 (List.mem_map.mpr ⟨x,hx,this⟩)
    rw[List.filter_cons_of_pos (by simp),this]
   ·have hne:¬(e.1==h)=true:=fun hz=>by
     have:e.1=h:=by simpa using hz
     exact hn.1 (List.mem_map.mpr ⟨(h,v),hm,this.symm⟩)
    rw[List.filter_cons_of_neg (p:=fun e:Int × Value=>e.1==h) hne]
    exact ih hn.2 hm
structure SetB(w:World)(h:Heap)(S:Addr)(us:List (Addr × List Bool)):Prop where
 ex:∃o es ep t,h.get? S=some o/\o.ExactSet/\o.data=.set es ep t/\es.toList.Perm (us.map fun u=>(bH u.2,Value.ref u.1))/\t.fits es.size=true/\Clean t es.size/\Tab (byT w) t/\es.size * 5 < t.mask * 3/\∀q∈es.toList.zip t.place.toList,Way t.mask (·∈t.place.toList) (hSt t.mask q.1.1) q.2
 keys:(us.map (·.2)).Nodup
 tups:∀u∈us,TupB h u.1 u.2
 few:us.length<=24
theorem SetB.keep{w:World}{h h':Heap}{S:Addr}{us:List (Addr × List Bool)}(x:SetB w h S us)(k:∀o,h.get? S=some o->h'.get? S=some o)(ku:∀u∈us,∀o,h.get? u.1=some o->h'.get? u.1=some o):SetB w h' S us:=by
 obtain⟨o,es,ep,t,h1,r⟩:=x.ex
 exact⟨⟨o,es,ep,t,k o h1,r⟩,x.keys,fun u hu=>(x.tups u hu).keep (ku u hu),x.few⟩
theorem SetB.vals{w:World}{h:Heap}{S:Addr}{us:List (Addr × List Bool)}(x:SetB w h S us):∃vs,SetV w h S vs/\vs.Perm (us.map fun u=>Value.ref u.1):=by
 obtain⟨o,es,ep,t,h1,h2,h3,h4,h5,h6,h7,h8,h9⟩:=x.ex
 have hl:=h4.length_eq
 rw[qi,qe]at hl
 have:=x.few
 have hsb:scanBound=4096:=rfl
 refine⟨es.toList.map vOf,⟨o,es,ep,t,h1,h2,h3,rfl,by lia,h5,h7⟩,?_⟩
 have:=h4.map vOf
 rw[List.map_map]at this
 exact this
theorem Ys7{us:List (Addr × List Bool)}(hn:(us.map (·.2)).Nodup)(hl:∀u∈us,u.2.length<=4):(us.map fun u=>bH u.2).Nodup:=by
 induction us with
 | nil=>exact .nil
 | cons u us ih=>
   rw[Qb,List.nodup_cons]at hn ⊢
   refine⟨fun z=>?_,ih hn.2 fun v hv=>hl v (qf _ hv)⟩
   obtain⟨v,hv,e⟩:=qw z
   exact hn.1 (List.mem_map.mpr ⟨v,hv,Yxb (hl v (qf _ hv)) (hl u qg) e⟩)
theorem Yv2:(List.range 26).all (fun n=>decide (SetTable.sizeAbove (n * 4)∈sizes)&&decide (n < SetTable.sizeAbove (n * 4))&&decide (SetTable.sizeAbove (n * 4)<=128)&&decide (n * 5 < (SetTable.sizeAbove (n * 4) - 1) * 3))=true:=by decide +kernel
section
variable {prog:Program} {w:World} {A:Around} {E:Value->Shared->Prop} {s:Shared}
theorem Yqw{a:Addr}{o:Obj}{es:Array (Int × Value)}{ep:Nat}{t:SetTable}(ho:s.heap.get? a=some o)(hex:o.ExactSet)(hd:o.data=.set es ep t)(hf:t.fits es.size=true)(hn:es.size<=25)(hT:Tab (byT w) t){Q:Unit->Shared->Prop}
 (h:∀h' o' es' ep' t',Heap.SameBut a s.heap h'->h'.get? a=some o'->o'.ExactSet->o'.data=.set es' ep' t'->es'.toList.Perm es.toList->t'.fits es'.size=true->Clean t' es'.size->Tab (byT w) t'->es'.size * 5 < t'.mask * 3->(∀q∈es'.toList.zip t'.place.toList,Way t'.mask (·∈t'.place.toList) (hSt t'.mask q.1.1) q.2)->Q () { s with heap:=h' }) :
 wpAny (model prog w) A (setRelay a (SetTable.grown es.size)) Q E s:=by
 have hok:=List.all_eq_true.mp Yv2 es.size (List.mem_range.mpr (by lia))
 simp only[Qf,decide_eq_true_eq]at hok
 obtain⟨⟨⟨k1,k2⟩,k3⟩,k4⟩:=hok
 have hg:SetTable.grown es.size=es.size * 4:=by unfold SetTable.grown;rw[if_neg (by lia)]
 rw[hg]
 unfold setRelay
 refine wpAny_bind (wpAny_setState_of ho hd hf ?_)
 dsimp only
 rw[if_neg (by rw[sizeLine_eq];lia)]
 have hm:SetTable.sizeAbove (es.size * 4) - 1+1=SetTable.sizeAbove (es.size * 4):=by lia
 obtain⟨t',o',e1,e2,e3,e4,e5,e6,e7,e8⟩:=Yvx (mask:=SetTable.sizeAbove (es.size * 4) - 1) (finger:=t.finger) (moves:=t.movedTo (SetTable.sizeAbove (es.size * 4) - 1)) (led:=t.led) (plain:=t.plain) (by rw[hm];exact k1) (es.map (·.1)) (by rw[Array.size_map];lia)
 have hre:t.relaid (es.map (·.1)) (es.size * 4)=some (t',o'):=e1
 rw[hre]
 rw[Array.size_map]at e2 e3
 have hp:=Yvs e2
 have hsz:(o'.filterMap (es[·]?)).size=es.size:=by
  have:=hp.length_eq
  rwa [qi,qi]at this
 have hl:=Yl3 e1
 refine wpAny_bind ?_
 have hck:((o'.filterMap (es[·]?)).size != es.size)=false:=by rw[hsz];simp
 show wpAny _ _ (if ((o'.filterMap (es[·]?)).size != es.size)=true then _ else _) _ _ _
 rw[hck,if_neg qh]
 refine wpAny_pure ?_
 dsimp only
 refine wpAny_storeSet_of ho hd ?_ (by rw[hsz,sizeLine_eq];lia)
 have hgp:=Yhj ho hd (o'.filterMap (es[·]?)) t'
 have hfit:t'.fits (o'.filterMap (es[·]?)).size=true:=by
  unfold SetTable.fits SetTable.fill
  rw[hsz,e3,e4,e5]
  simp
  lia
 refine h _ _ _ _ t' (Heap.SameBut.update ..) hgp ⟨hex.1,hex.2.1,hex.2.2⟩ rfl hp hfit ⟨by rw[e5,hm];exact k1,e4,hl.1,fun j hj=>by rw[e5];exact e7 j hj,by rw[e3,hsz],by rw[hsz,e5];lia⟩ ⟨fun z=>by rw[hl.2.1];exact hT.1 z,fun _=>hl.1⟩ (by rw[hsz,e5];exact k4) (fun q hq=>?_)
 have hes:(o'.filterMap (es[·]?)).toList=o'.toList.map fun i=>es.toList.getD i (0,.none):=by
  have h1:(o'.filterMap (es[·]?)).toList=o'.toList.filterMap (es.toList[·]?):=by simp
  rw[h1,Yfb (g:=fun i=>some (es.toList.getD i (0,.none))) fun i hi=>?_]
  ·show List.filterMap (some ∘ fun i=>es.toList.getD i (0,.none)) _=_
   rw[List.filterMap_eq_map]
  ·have hi':i < es.size:=qz (e2.mem_iff.mp hi)
   simp[hi']
 rw[hes,List.zip_map_left]at hq
 obtain⟨q0,hq0,rfl⟩:=qw hq
 have:=e8 q0 hq0
 rw[<-e5]at this
 have hget:(es.map (·.1)).toList.getD q0.1 0=(es.toList.getD q0.1 (0,.none)).1:=by
  rw[Array.toList_map,List.getD_eq_getElem?_getD,List.getD_eq_getElem?_getD,Qg]
  cases es.toList[q0.1]?<;>rfl
 rw[hget]at this
 exact this
theorem Yoc{S:Addr}{x:Value}{h:Int}{o:Obj}{es:Array (Int × Value)}{ep:Nat}{t:SetTable}{j:Nat}{Q:SetFound->Shared->Prop}(hS:s.heap.get? S=some o)(hd:o.data=.set es ep t)(hf:t.fits es.size=true)(hg:t.gaveWay=false)
 (hpr:t.probe (fun i=>(es[i]?.map (·.1)).getD 0) h (t.probeStart h)=some (.empty j none)) (hQ:Q (.free j false) s):wpAny (model prog w) A (setSearch S x h true) Q E s:=by
 show wpAny _ _ (setState S >>= _) _ _ _
 refine wpAny_bind (wpAny_setState_of hS hd hf ?_)
 dsimp only
 rw[hg,if_neg qh]
 refine wpAny_bind (wpAny_pure ?_)
 show wpAny _ _ (match t.probe (fun i=>(es[i]?.map (·.1)).getD 0) h (t.probeStart h)with | some met=>_ | _=>_) _ _ _
 rw[hpr]
 exact wpAny_pure hQ
theorem Clean.odd{t:SetTable}{n:Nat}(c:Clean t n):t.gaveWay=false:=by
 unfold SetTable.gaveWay
 have:=c.hs
 simp only[sizes,List.mem_cons,List.not_mem_nil,or_false]at this
 have:t.mask % 2=1:=by lia
 rw[this]
 rfl
theorem Yzb{S u:Addr}{us:List (Addr × List Bool)}{bs:List Bool}{Q:Bool->Shared->Prop}(hS:SetB w s.heap S us)(h24:us.length < 24)(hp:TupB s.heap u bs)(hne:bs∉us.map (·.2))(hSu:∀v∈us,v.1≠S)(huS:u≠S)
 (hQ:∀h',Heap.SameBut S s.heap h'->SetB w h' S (us++[(u,bs)])->Q true { s with heap:=h' }):wpAny (model prog w) A (setAddHashed S (.ref u) (bH bs)) Q E s:=by
 obtain⟨o,es,ep,t,h1,h2,h3,h4,h5,h6,h7,h8,h9⟩:=hS.ex
 have hl:=h4.length_eq
 rw[qi,qe]at hl
 have hlen:=hp.1
 have hnh:∀e∈es.toList,e.1≠bH bs:=fun e he z=>by
  obtain⟨v,hv,rfl⟩:=qw (h4.mem_iff.mp he)
  exact hne (List.mem_map.mpr ⟨v,hv,Yxb (hS.tups v hv).1 hlen z⟩)
 obtain⟨j,hpr,hse,hjm⟩:∃j,t.probe (fun i=>(es[i]?.map (·.1)).getD 0) (bH bs) (t.probeStart (bH bs))=some (.empty j none)/\t.slot j=.empty/\j<=t.mask:=by
  rcases h6.probe (hA:=fun i=>(es[i]?.map (·.1)).getD 0) (h:=bH bs)with z | ⟨j,i,nx,z1,z2,z3⟩
  ·exact z
  ·exfalso
   rcases Yc7 h6.rise h6.dm j with⟨_,y⟩ | ⟨i',y,y2⟩
   ·rw[z2]at y;cases y
   ·rw[z2]at y
    cases y
    have hi:i < es.size:=by
     have:=(qm y2).1
     rw[qi,h6.sz]at this
     exact this
    have z4:(es[i]?.map (·.1)).getD 0=bH bs:=by simpa using z3
    rw[Array.getElem?_eq_getElem hi]at z4
    exact hnh es[i] (by simp) z4
 have hm7:7<=t.mask:=by
  have:=h6.hs
  simp only[sizes,List.mem_cons,List.not_mem_nil,or_false]at this
  lia
 have hroom:es.size+1<=t.mask:=by lia
 have hkeys2:((us++[(u,bs)]).map (·.2)).Nodup:=by
  rw[List.map_append]
  exact List.nodup_append.mpr ⟨hS.keys,by simp,fun x hx y hy z=>by
   simp at hy
   subst hy
   exact hne (z ▸ hx)⟩
 have htups:∀h':Heap,Heap.SameBut S s.heap h'->∀v∈us++[(u,bs)],TupB h' v.1 v.2:=fun h' sb v hv=>by
  rcases qu hv with z | z
  ·exact(hS.tups v z).keep fun o e=>by rw[sb.2 v.1 (hSu v z)];exact e
  ·rw[List.mem_singleton.mp z]
   exact hp.keep fun o e=>by rw[sb.2 u huS];exact e
 have hfew:(us++[(u,bs)]).length<=24:=by simp;lia
 have hcl:=h6.put hse hjm hroom
 have hins:((SetTable.insertAt es (SetTable.below t.place j) (bH bs,Value.ref u)).toList).Perm (es.toList++[(bH bs,Value.ref u)]):=by
  rw[Yx]
  refine List.perm_middle.trans ?_
  rw[List.take_append_drop]
  exact List.perm_append_comm (l₁:=[_])
 have hpm:((SetTable.insertAt es (SetTable.below t.place j) (bH bs,Value.ref u)).toList).Perm ((us++[(u,bs)]).map fun u=>(bH u.2,Value.ref u.1)):=by
  rw[List.map_append]
  exact hins.trans (h4.append_right _)
 have hsz:(SetTable.insertAt es (SetTable.below t.place j) (bH bs,Value.ref u)).size=es.size+1:=Yfc _ _ _
 have htab:Tab (byT w) { t with place:=SetTable.insertAt t.place (SetTable.below t.place j) j }:=⟨h7.1,fun _=>hcl.rise⟩
 have hfit:({ t with place:=SetTable.insertAt t.place (SetTable.below t.place j) j }:SetTable).fits (SetTable.insertAt es (SetTable.below t.place j) (bH bs,Value.ref u)).size=true:=by
  unfold SetTable.fits SetTable.fill
  have:=hcl.sz
  have hd0:=h6.dm
  simp only[hd0,hsz]at this ⊢
  simp[this]
  lia
 have hput:t.put j=({ t with place:=SetTable.insertAt t.place (SetTable.below t.place j) j },SetTable.below t.place j):=by
  unfold SetTable.put
  dsimp only
  rw[h6.dm]
  have:SetTable.has #[] j=false:=rfl
  rw[this,if_neg qh]
 have hgp:=Yhj h1 h3 (SetTable.insertAt es (SetTable.below t.place j) (bH bs,.ref u)) { t with place:=SetTable.insertAt t.place (SetTable.below t.place j) j }
 have hsb:=Heap.SameBut.update s.heap S (Obj.putSet (SetTable.insertAt es (SetTable.below t.place j) (bH bs,.ref u)) { t with place:=SetTable.insertAt t.place (SetTable.below t.place j) j })
 have hfill:({ t with place:=SetTable.insertAt t.place (SetTable.below t.place j) j }:SetTable).tooFull=decide ((es.size+1) * 5≥t.mask * 3):=by
  unfold SetTable.tooFull SetTable.fill
  have:=hcl.sz
  simp only at this ⊢
  rw[this,h6.dm]
  rfl
 have hways:∀q∈(SetTable.insertAt es (SetTable.below t.place j) (bH bs,Value.ref u)).toList.zip (SetTable.insertAt t.place (SetTable.below t.place j) j).toList,Way t.mask (·∈(SetTable.insertAt t.place (SetTable.below t.place j) j).toList) (hSt t.mask q.1.1) q.2:=fun q hq=>by
  have hsub:∀x,x∈t.place.toList->x∈(SetTable.insertAt t.place (SetTable.below t.place j) j).toList:=fun x hx=>by
   rw[Yx]
   rw[<-List.take_append_drop (SetTable.below t.place j) t.place.toList]at hx
   rcases qu hx with z | z
   ·exact List.mem_append_left _ z
   ·exact Qh _ (qf _ z)
  rw[Yx,Yx,List.zip_append (by rw[List.length_take,List.length_take,qi,qi,h6.sz])]at hq
  have hold:∀q,q∈(es.toList.take (SetTable.below t.place j)).zip (t.place.toList.take (SetTable.below t.place j))\/q∈(es.toList.drop (SetTable.below t.place j)).zip (t.place.toList.drop (SetTable.below t.place j))->q∈es.toList.zip t.place.toList:=fun q hq=>by
   rw[<-List.take_append_drop (SetTable.below t.place j) es.toList,<-List.take_append_drop (SetTable.below t.place j) t.place.toList,List.zip_append (by rw[List.length_take,List.length_take,qi,qi,h6.sz])]
   exact List.mem_append.mpr hq
  rcases qu hq with z | z
  ·exact(h9 q (hold q (.inl z))).mono hsub
  ·rw[List.zip_cons_cons]at z
   rcases qr z with rfl | z
   ·exact(Ypx h6.rise h6.dm _ _ (by unfold SetTable.probe at hpr;exact hpr)).mono hsub
   ·exact(h9 q (hold q (.inr z))).mono hsub
 rw[<-hsz]at hcl
 generalize he1:SetTable.insertAt es (SetTable.below t.place j) (bH bs,Value.ref u)=es1 at *
 generalize hT1:({ t with place:=SetTable.insertAt t.place (SetTable.below t.place j) j }:SetTable)=t1 at *
 have hm1:t1.mask=t.mask:=by rw[<-hT1]
 have hpl1:t1.plain=t.plain:=by rw[<-hT1]
 have tail:wpAny (model prog w) A (if (!false&&t1.tooFull)=true then (setRelay S (SetTable.grown (es.size+1)) >>= fun _=>pure true)else pure true) Q E { s with heap:=s.heap.update S (Obj.putSet es1 t1) }:=by
  by_cases hfl:(es.size+1) * 5≥t.mask * 3
  ·rw[hfill,decide_eq_true hfl]
   show wpAny _ _ (setRelay S (SetTable.grown (es.size+1)) >>= fun _=>pure true) _ _ _
   rw[<-hsz]
   refine wpAny_bind (Yqw (s:={ s with heap:=s.heap.update S (Obj.putSet es1 t1) }) hgp ⟨h2.1,h2.2.1,h2.2.2⟩ rfl hfit (by rw[hsz];lia) htab fun h' o' es' ep' t' sb g' x' d' p' f' c' T' l' y'=>wpAny_pure (hQ h' (hsb.trans sb) ⟨⟨o',es',ep',t',g',x',d',p'.trans hpm,f',c',T',l',y'⟩,hkeys2,htups h' (hsb.trans sb),hfew⟩))
  ·rw[hfill,decide_eq_false hfl]
   show wpAny _ _ (pure true) _ _ _
   exact wpAny_pure (hQ _ hsb ⟨⟨_,es1,_,t1,hgp,⟨h2.1,h2.2.1,h2.2.2⟩,rfl,hpm,hfit,hcl,htab,by rw[hsz,hm1];lia,by rw[<-hT1];exact hways⟩,hkeys2,htups _ hsb,hfew⟩)
 unfold setAddHashed setAddHashedIn
 refine wpAny_holding (wpAny_bind (wpAny_setState_of h1 h3 h5 ?_))
 dsimp only
 have hby:byScan (.ref u) es=false:=rfl
 rw[hby,if_neg qh]
 refine wpAny_bind (Yoc h1 h3 h5 h6.odd hpr ?_)
 dsimp only
 refine wpAny_bind (wpAny_setState_of h1 h3 h5 ?_)
 dsimp only
 rw[hput]
 dsimp only
 rw[he1]
 have hsz':es1.size<=sizeLine:=by rw[hsz,sizeLine_eq];lia
 cases hpl:t1.plain with
 | true=>
   rw[if_pos rfl]
   refine wpAny_bind (Yza hp ?_)
   rw[if_pos rfl]
   exact wpAny_bind (wpAny_storeSet_of h1 h3 tail hsz')
 | false=>
   rw[if_neg qh]
   refine wpAny_bind (wpAny_pure ?_)
   rw[if_pos rfl]
   exact wpAny_bind (wpAny_storeSet_of h1 h3 tail hsz')
theorem Yqx{S u v:Addr}{p:List Bool}{o:Obj}{es:Array (Int × Value)}{ep:Nat}{t:SetTable}{nx:SetTable.Probe}{i j:Nat}{Q:SetFound->Shared->Prop}(fuel:Nat)(hu:A.units < cLine)(hS:s.heap.get? S=some o)(hd:o.data=.set es ep t)(hf:t.fits es.size=true)(hg:t.gaveWay=false)
 (hes:es[i]?=some (bH p,.ref v)) (hfl:((es.filter (·.1==bH p)).toList.map (·.2))=[Value.ref v])
 (hpr:t.probe (fun i=>(es[i]?.map (·.1)).getD 0) (bH p) (t.probeStart (bH p))=some (.candidate j i nx)) (hv:TupB s.heap v p) (hp:TupB s.heap u p) (hQ:Q (.there none) s):wpAny (model prog w) A (setSearchFrom S (.ref u) (bH p) true (fuel+1) none) Q E s:=by
 show wpAny _ _ (setState S >>= _) _ _ _
 refine wpAny_bind (wpAny_setState_of hS hd hf ?_)
 dsimp only
 rw[hg,if_neg qh]
 refine wpAny_bind (wpAny_pure ?_)
 show wpAny _ _ (match t.probe (fun i=>(es[i]?.map (·.1)).getD 0) (bH p) (t.probeStart (bH p))with | some met=>_ | _=>_) _ _ _
 rw[hpr]
 dsimp only
 rw[hfl,hes]
 cases t.led with
 | true=>
   rw[if_neg (by decide)]
   dsimp only
   refine wpAny_bind (wpAny_holding (wpAny_eqBool_tuple (knd:=Ya9 prog w) hu hv.key hp.key ?_))
   rw[decide_eq_true rfl]
   refine wpAny_bind (wpAny_setState_of hS hd hf ?_)
   dsimp only
   rw[if_pos (by rfl)]
   exact wpAny_pure hQ
 | false=>
   rw[if_pos (by decide)]
   refine wpAny_bind (Yv1 hp hv ?_)
   rw[if_neg (by decide)]
   dsimp only
   refine wpAny_bind (wpAny_holding (wpAny_eqBool_tuple (knd:=Ya9 prog w) hu hv.key hp.key ?_))
   rw[decide_eq_true rfl]
   refine wpAny_bind (wpAny_setState_of hS hd hf ?_)
   dsimp only
   rw[if_pos (by rfl)]
   exact wpAny_pure hQ
theorem Yzc{S u:Addr}{us:List (Addr × List Bool)}{bs:List Bool}{Q:Bool->Shared->Prop}(hu:A.units < cLine)(hS:SetB w s.heap S us)(hp:TupB s.heap u bs)(hin:bs∈us.map (·.2))(hQ:Q false s):wpAny (model prog w) A (setAddHashed S (.ref u) (bH bs)) Q E s:=by
 obtain⟨o,es,ep,t,h1,h2,h3,h4,h5,h6,h7,h8,h9⟩:=hS.ex
 obtain⟨x,hx,hxb⟩:=qw hin
 have hxb':x.2=bs:=hxb
 have hmem:(bH bs,Value.ref x.1)∈es.toList:=h4.mem_iff.mpr (List.mem_map.mpr ⟨x,hx,by rw[hxb']⟩)
 have hnd:(es.toList.map (·.1)).Nodup:=by
  have:=h4.map (·.1)
  rw[List.map_map]at this
  exact this.nodup_iff.mpr (Ys7 hS.keys fun v hv=>(hS.tups v hv).1)
 have hfl:((es.filter (·.1==bH bs)).toList.map (·.2))=[Value.ref x.1]:=by
  rw[Array.toList_filter,Yj4 hnd hmem]
  rfl
 rcases h6.probe (hA:=fun i=>(es[i]?.map (·.1)).getD 0) (h:=bH bs)with⟨j,z1,z2,z3⟩ | ⟨j,i,nx,z1,z2,z3⟩
 ·exfalso
  obtain⟨i,hi,hie⟩:=List.getElem_of_mem hmem
  have hi':i < t.place.toList.length:=by rw[qi,h6.sz];rwa [qi]at hi
  have hz:((bH bs,Value.ref x.1),t.place.toList[i])∈es.toList.zip t.place.toList:=by
   refine List.mem_of_getElem? (i:=i) ?_
   rw[List.getElem?_zip_eq_some]
   exact⟨by rw[qp hi,hie],qp hi'⟩
  obtain⟨k,k1,k2⟩:=h9 _ hz
  have hsl:t.slot t.place.toList[i]=.live i:=by
   rcases Yc7 h6.rise h6.dm t.place.toList[i]with⟨y,_⟩ | ⟨i',y,y2⟩
   ·exact absurd (List.getElem_mem hi') y
   ·have:i'=i:=by
     obtain⟨w1,w2⟩:=qm y2
     rcases Nat.lt_trichotomy i' i with hlt | heq | hgt
     ·have:=(List.pairwise_iff_getElem.mp h6.rise) i' i w1 hi' hlt
      lia
     ·exact heq
     ·have:=(List.pairwise_iff_getElem.mp h6.rise) i i' hi' w1 hgt
      lia
    rw[y,this]
  have hhA:((fun i=>(es[i]?.map (·.1)).getD 0) i==bH bs)=true:=by
   have hi2:i < es.size:=by rwa [qi]at hi
   have:es[i]=(bH bs,Value.ref x.1):=by rw[<-hie];simp
   simp[hi2,this]
  exact Ypy h6.rise h6.dm hsl hhA k _ _ k1 k2 _ _ (by unfold SetTable.probe at z1;exact z1)
 ·have hi:i < es.size:=by
   rcases Yc7 h6.rise h6.dm j with⟨_,y⟩ | ⟨i',y,y2⟩
   ·rw[z2]at y;cases y
   ·rw[z2]at y
    cases y
    have:=(qm y2).1
    rw[qi,h6.sz]at this
    exact this
  have z4:(es[i]?.map (·.1)).getD 0=bH bs:=by simpa using z3
  rw[Array.getElem?_eq_getElem hi]at z4
  have z5:es[i].1=bH bs:=z4
  have hie:es[i]=(bH bs,Value.ref x.1):=by
   have:es[i]∈es.toList.filter (fun e=>e.1==bH bs):=List.mem_filter.mpr ⟨by simp,by simpa using z5⟩
   rw[Yj4 hnd hmem]at this
   exact List.mem_singleton.mp this
  refine Ymm h1 h3 h5 (fun Q' q=>?_) hQ
  have h100:(100000:Nat)=99999+1:=rfl
  unfold setSearch
  rw[h100]
  generalize (99999:Nat)=fuel
  exact Yqx fuel hu h1 h3 h5 h6.odd (by rw[Array.getElem?_eq_getElem hi,hie]) hfl z1 (hxb' ▸ hS.tups x hx) hp q
def Ycz:List (Addr × List Bool)->List (Addr × List Bool)->List (Addr × List Bool)
 | acc,[]=>acc
 | acc,u::r=>Ycz (if u.2∈acc.map (·.2)then acc else acc++[u]) r
theorem Ymq:∀(r acc:List (Addr × List Bool)),acc.length<=(Ycz acc r).length
 | [],acc=>qt _
 | u::r,acc=>by
   rw[Ycz]
   refine Nat.le_trans ?_ (Ymq r _)
   split<;>simp
theorem Yv3{l I S u:Addr}{items:Array Value}{i:Nat}{p:List Bool}{R:Result->Shared->Prop}(hu:A.units+2 < cLine)(hit:s.heap.IsListIter I l i)(hl:s.heap.IsList l items)(hx:items[i]?=some (.ref u))(hp:TupB s.heap u p)(hIu:u≠I)
 (k:∀h1 tk,h1.IsListIter I l (i+1)->Heap.SameBut I s.heap h1->wpAny (model prog w) A.in1 (setAddHashed S (.ref u) (bH p)) (fun _ s'=>codeAny (model prog w) A (.builtin "set.update.loop" ⟨[.ref S,.ref I],[]⟩) R s') (fun e s'=>R (.error e) s') { s with heap:=h1,toks:=tk }) :
 codeAny (model prog w) A (.builtin "set.update.loop" ⟨[.ref S,.ref I],[]⟩) R s:=by
 refine codeAny_builtin F.entry_set_update_loop ?_
 rw[Around.under_plainId F.plain_set_update_loop _]
 show wpAny _ A.in1 (pyNext (.ref I) >>= _) _ _ s
 refine wpAny_bind (wpAny_pyNext_list_item hit hl hx fun h1 hi1 hs1=>?_)
 show wpAny _ A.in1 (holding [Value.ref u] (setAdd S (.ref u)) >>= _) _ _ _
 refine wpAny_bind (wpAny_holding ?_)
 unfold setAdd
 have hp1:TupB h1 u p:=hp.keep fun o e=>by rw[hs1.2 u hIu];exact e
 refine wpAny_holding (wpAny_bind (wpAny_pyHash_tuple (knd:=Ya9 prog w) (s:={ s with heap:=h1 }) (by show A.units+1 < cLine;lia) hp1.key ?_))
 refine wpAny_mono (k h1 _ hi1 hs1) (fun b s' hb=>?_) fun _ _ x=>x
 exact wpAny_pure ⟨plainId_quiet F.plain_set_update_loop _,hb⟩
theorem Yod{l I S:Addr}{us:List (Addr × List Bool)}{R:Result->Shared->Prop}(hh:A.handled=none)(hu:A.units+2 < cLine)(hIl:l≠I)(hIS:S≠I)(hlS:l≠S)(hIu:∀u∈us,u.1≠I)(hSu:∀u∈us,u.1≠S)(s0:Shared)
 (hR:∀h' tk,SetB w h' S (Ycz [] us)->(∀b o,b≠S->b≠I->s0.heap.get? b=some o->h'.get? b=some o)->R (.ok (.ret .none)) { s0 with heap:=h',toks:=tk }) (h24:(Ycz [] us).length<=24) :
 ∀(rest pre acc:List (Addr × List Bool)) (h:Heap) (tk:Nat),us=pre++rest->Ycz acc rest=Ycz [] us->h.IsListIter I l pre.length->h.IsList l (us.map fun u=>Value.ref u.1).toArray->(∀u∈us,TupB h u.1 u.2)->SetB w h S acc->(∀u∈acc,u∈us)->(∀b o,b≠S->b≠I->s0.heap.get? b=some o->h.get? b=some o)->
  codeAny (model prog w) A (.builtin "set.update.loop" ⟨[.ref S,.ref I],[]⟩) R { s0 with heap:=h,toks:=tk }
 | [],pre,acc,h,tk,he,ho,hit,hl,ht,hS,hac,hk=>by
   refine Ymk (s:={ s0 with heap:=h,toks:=tk }) hh hit hl (by rw[List.append_nil]at he;rw[he];simp) fun h1 hs1=>?_
   have ho':acc=Ycz [] us:=ho
   rw[ho']at hS hac
   exact hR h1 tk (hS.keep (fun o e=>hs1 S o hIS e) fun u hm o e=>hs1 u.1 o (hIu u (hac u hm)) e) fun b o hb1 hb2 e=>hs1 b o hb2 (hk b o hb1 hb2 e)
 | u::rest,pre,acc,h,tk,he,ho,hit,hl,ht,hS,hac,hk=>by
   have hm:u∈us:=by rw[he];simp
   refine Yv3 (s:={ s0 with heap:=h,toks:=tk }) hu hit hl (by rw[he];simp) (ht u hm) (hIu u hm) fun h1 tk1 hi1 hs1=>?_
   have kI:∀b o,b≠I->h.get? b=some o->h1.get? b=some o:=fun b o hb e=>by rw[hs1.2 b hb];exact e
   have hS1:SetB w h1 S acc:=hS.keep (fun o e=>kI S o hIS e) fun v hv o e=>kI v.1 o (hIu v (hac v hv)) e
   have ht1:∀v∈us,TupB h1 v.1 v.2:=fun v hv=>(ht v hv).keep fun o e=>kI v.1 o (hIu v hv) e
   have hl1:h1.IsList l (us.map fun u=>Value.ref u.1).toArray:=let ⟨o,e,r⟩:=hl;⟨o,kI l o hIl e,r⟩
   rw[Ycz]at ho
   by_cases hin:u.2∈acc.map (·.2)
   ·rw[if_pos hin]at ho
    refine Yzc (s:={ s0 with heap:=h1,toks:=tk1 }) (by show A.units+1 < cLine;lia) hS1 (ht1 u hm) hin ?_
    exact Yod hh hu hIl hIS hlS hIu hSu s0 hR h24 rest (pre++[u]) acc h1 tk1 (by rw[he];simp) ho (by rw[qx];exact hi1) hl1 ht1 hS1 hac fun b o hb1 hb2 e=>kI b o hb2 (hk b o hb1 hb2 e)
   ·rw[if_neg hin]at ho
    have hacl:acc.length < 24:=by
     have:=Ymq rest (acc++[u])
     rw[ho]at this
     simp at this
     lia
    refine Yzb (s:={ s0 with heap:=h1,toks:=tk1 }) hS1 hacl (ht1 u hm) hin (fun v hv=>hSu v (hac v hv)) (hSu u hm) fun h2 hs2 hS2=>?_
    have kS:∀b o,b≠S->h1.get? b=some o->h2.get? b=some o:=fun b o hb e=>by rw[hs2.2 b hb];exact e
    refine Yod hh hu hIl hIS hlS hIu hSu s0 hR h24 rest (pre++[u]) (acc++[u]) h2 tk1 (by rw[he];simp) ho (by rw[qx];exact(let ⟨o,e,r⟩:=hi1;⟨o,kS I o (Ne.symm hIS) e,r⟩)) (let ⟨o,e,r⟩:=hl1;⟨o,kS l o hlS e,r⟩) (fun v hv=>(ht1 v hv).keep fun o e=>kS v.1 o (hSu v hv) e) hS2 (fun v hv=>?_) fun b o hb1 hb2 e=>kS b o hb1 (kI b o hb2 (hk b o hb1 hb2 e))
    rcases qu hv with z | z
    ·exact hac v z
    ·rw[List.mem_singleton.mp z];exact hm
theorem Ykw{l:Addr}{us:List (Addr × List Bool)}{Q:Value->Shared->Prop}(hh:A.handled=none)(hu:A.units+8 < cLine)(hl:s.heap.IsList l (us.map fun u=>Value.ref u.1).toArray)(ht:∀u∈us,TupB s.heap u.1 u.2)(h24:(Ycz [] us).length<=24)
 (h:∀(h':Heap) (tk:Nat),SetB w h' s.heap.objs.size (Ycz [] us)->(∀b o,s.heap.get? b=some o->h'.get? b=some o)->Q (.ref s.heap.objs.size) { s with heap:=h',toks:=tk }) :
 wpAny (model prog w) A (call (.type "set") [.ref l]) Q E s:=by
 refine Yb6 (Q₁:=fun obj s₁=>obj=.ref s.heap.objs.size/\s₁={ s with heap:=s.heap.push (emS w) }) F.called_set (F.typeCall_set_1 _) F.entry_set_init (Yhk _ ⟨rfl,rfl⟩) ?_
 rintro obj s₁ ⟨rfl,rfl⟩
 have hS:(s.heap.push (emS w)).get? s.heap.objs.size=some (emS w):=qo _ rfl
 have hT:Shared.TypeIs { s with heap:=s.heap.push (emS w) } (.ref s.heap.objs.size) "set":=⟨_,hS,rfl⟩
 refine⟨hT,fun A' E' Q' hq=>check_set_init_1 hT hq,?_⟩
 have hul:∀u∈us,u.1 < s.heap.objs.size:=fun u hm=>by
  obtain⟨_,o,_,ho,_⟩:=ht u hm
  exact qk ho
 generalize hits:(us.map fun u=>Value.ref u.1).toArray=items at hl
 obtain⟨ol,hol,hcl,nl,hdl⟩:=hl
 obtain⟨ocls,odict,odata,oslots⟩:=ol
 simp only at hcl hdl
 subst hcl;subst hdl
 have hol':(s.heap.push (emS w)).get? l=some { cls:=.type "list",dict:=odict,data:=.seq items nl,slots:=oslots }:=qd _ hol
 have hsls:=F.sub_list_set
 have hslf:=F.sub_list_frozenset
 have hne:(Value.type "list"==Value.type "dict")=false:=by decide
 have hl1:(s.heap.push (emS w)).IsList l items:=⟨_,hol',rfl,nl,rfl⟩
 unfold Builtin.«set.__init__» noKeywords Builtin.Frozenset.updateFrom
 generalize hPI:pyIter=PI
 wp_walk
 subst hPI
 refine wpAny_pyIter_list hl1 ?_
 refine wpAny_bind (wpAny_runValue ?_)
 have hlS:l < s.heap.objs.size:=qk hol
 have hsz:(s.heap.push (emS w)).objs.size=s.heap.objs.size+1:=Heap.size_push ..
 have hol2:((s.heap.push (emS w)).push { cls:=.type "list_iterator",data:=.fields #[.ref l,.int 0 0] }).IsList l items:=hl1.push _
 rw[<-hits]at hol2
 refine Yod (us:=us) (by simp[hh]) (by show _+2 < cLine;simp;lia) ?_ ?_ ?_ ?_ ?_ { s with heap:=(s.heap.push (emS w)).push { cls:=.type "list_iterator",data:=.fields #[.ref l,.int 0 0] } } ?_ h24 us [] [] _ s.toks rfl rfl ⟨_,qo _ rfl,rfl,rfl⟩ hol2 (fun u hm=>(ht u hm).keep fun o e=>qd _ (qd _ e)) ?_ (fun u hm=>(nomatch hm)) (fun b o _ _ e=>e)
 ·rw[hsz];exact ql (qv hlS)
 ·rw[hsz];exact ql (qy _)
 ·exact ql hlS
 ·intro u hm;rw[hsz];exact ql (qv (hul u hm))
 ·intro u hm;exact ql (hul u hm)
 ·intro h' tk hN old
  show wpAny _ _ _ _ _ _
  refine wpAny_pure ?_
  show wpAny _ _ (ret Value.none) _ _ _
  refine wpAny_pure ⟨rfl,h h' tk hN fun b o e=>?_⟩
  have hb:=qk e
  exact old b o (ql hb) (by rw[hsz];exact ql (qv hb)) (qd _ (qd _ e))
 ·refine⟨⟨emS w,#[],0,_,qd _ hS,⟨rfl,rfl,rfl⟩,rfl,.nil,rfl,⟨show 8∈sizes by decide,rfl,.nil,fun j hj=>(nomatch hj),rfl,show 0<=7 by decide⟩,.fresh,show 0 * 5 < 7 * 3 by decide,fun q hq=>(nomatch hq)⟩,.nil,fun u hu=>(nomatch hu),by simp⟩
end
end
section
set_option maxRecDepth 100000
section
variable {n:Nat} {key:Nat->Nat} {cmp:Nat->Nat->(Bool->Shared->Prop)->Shared->Prop} {s:Shared}
def PmOk(n:Nat)(p:Array Nat):Prop:=p.toList.Perm (List.range n)
theorem PmOk.size{p:Array Nat}(h:PmOk n p):p.size=n:=by
 have:=h.length_eq
 simpa using this
theorem PmOk.lt{p:Array Nat}(h:PmOk n p){i:Nat}(hi:i < n):p.getD i 0 < n:=by
 have hs:=h.size
 have hi':i < p.size:=by lia
 have:p.getD i 0∈p.toList:=by simp[Array.getD,hi']
 exact qz (h.mem_iff.mp this)
theorem PmOk.inj{p:Array Nat}(h:PmOk n p){i j:Nat}(hi:i < n)(hj:j < n)(e:p.getD i 0=p.getD j 0):i=j:=by
 have hs:=h.size
 have hn:p.toList.Nodup:=h.nodup_iff.mpr List.nodup_range
 have hi':i < p.toList.length:=by simp;lia
 have hj':j < p.toList.length:=by simp;lia
 refine(List.getElem_inj (h₀:=hi') (h₁:=hj') hn).mp ?_
 simp only[Array.getElem_toList]
 have a1:i < p.size:=by lia
 have a2:j < p.size:=by lia
 simpa [Array.getD,a1,a2]using e
def Up(key:Nat->Nat)(p:Array Nat)(k:Nat):Prop:=∀i j,i < j->j < k->key (p.getD i 0) < key (p.getD j 0)
def Down(key:Nat->Nat)(p:Array Nat)(k:Nat):Prop:=∀i j,i < j->j < k->key (p.getD j 0) < key (p.getD i 0)
theorem Up.next{p:Array Nat}{a:Nat}(h:Up key p a)(h1:1<=a)(hlt:key (p.getD (a - 1) 0) < key (p.getD a 0)):Up key p (a+1):=fun i j hij hj=>by
 by_cases e:j=a
 ·subst e
  by_cases e2:i=j - 1
  ·rw[e2];exact hlt
  ·exact Nat.lt_trans (h i (j - 1) (by lia) (by lia)) hlt
 ·exact h i j hij (by lia)
theorem Down.next{p:Array Nat}{a:Nat}(h:Down key p a)(h1:1<=a)(hlt:key (p.getD a 0) < key (p.getD (a - 1) 0)):Down key p (a+1):=fun i j hij hj=>by
 by_cases e:j=a
 ·subst e
  by_cases e2:i=j - 1
  ·rw[e2];exact hlt
  ·exact Nat.lt_trans hlt (h i (j - 1) (by lia) (by lia))
 ·exact h i j hij (by lia)
variable (hinj:∀i j,i < n->j < n->key i=key j->i=j) (hc:∀i j (C:Bool->Shared->Prop),i < n->j < n->C (decide (key i < key j)) s->cmp i j C s)
include hinj hc
theorem Ys8{p:Array Nat}(hp:PmOk n p){G:Nat->Shared->Prop}(hG:∀m,1<=m->m<=n->Up key p m->(m < n->key (p.getD m 0) < key (p.getD (m - 1) 0))->G m s):∀(f a:Nat),1<=a->f+a=n->Up key p a->(W.kas_asc p f a).kasWp cmp G s
 | 0,a,h1,h2,h3=>hG a h1 (by lia) h3 fun z=>absurd z (by lia)
 | f+1,a,h1,h2,h3=>by
   refine hc _ _ _ (hp.lt (by lia)) (hp.lt (by lia)) ?_
   by_cases e:key (p.getD a 0) < key (p.getD (a - 1) 0)
   ·rw[decide_eq_true e]
    exact hG a h1 (by lia) h3 fun _=>e
   ·rw[decide_eq_false e]
    have hne:key (p.getD a 0)≠key (p.getD (a - 1) 0):=fun z=>by
     have:=hp.inj (by lia) (by lia) (hinj _ _ (hp.lt (by lia)) (hp.lt (by lia)) z)
     lia
    exact Ys8 hp hG f (a+1) (by lia) (by lia) (h3.next h1 (by lia))
theorem Ys9{p:Array Nat}(hp:PmOk n p){G:Array Nat × Nat × Nat->Shared->Prop}(hG:∀m,1<=m->m<=n->Down key p m->G (p,m,0) s):∀(f a:Nat),1<=a->f+a=n->Down key p a->(W.kas_desc f p a 0).kasWp cmp G s
 | 0,a,h1,h2,h3=>hG a h1 (by lia) h3
 | f+1,a,h1,h2,h3=>by
   refine hc _ _ _ (hp.lt (by lia)) (hp.lt (by lia)) ?_
   by_cases e:key (p.getD a 0) < key (p.getD (a - 1) 0)
   ·rw[decide_eq_true e]
    exact Ys9 hp hG f (a+1) (by lia) (by lia) (h3.next h1 e)
   ·rw[decide_eq_false e]
    refine hc _ _ _ (hp.lt (by lia)) (hp.lt (by lia)) ?_
    have hne:key (p.getD a 0)≠key (p.getD (a - 1) 0):=fun z=>by
     have:=hp.inj (by lia) (by lia) (hinj _ _ (hp.lt (by lia)) (hp.lt (by lia)) z)
     lia
    rw[decide_eq_true (show key (p.getD (a - 1) 0) < key (p.getD a 0) by lia)]
    exact hG a h1 (by lia) h3
omit hinj hc in
theorem Ykx{p q:Array Nat}{i j:Nat}(h:p[i]?=q[j]?):p.getD i 0=q.getD j 0:=by
 rw[Array.getD_eq_getD_getElem?,Array.getD_eq_getD_getElem?,h]
omit hinj hc in
theorem y2y{p:Array Nat}(hp:PmOk n p){a:Nat}(ha:a<=n)(hd:Down key p a):PmOk n (W.kas_rev p 0 a)/\Up key (W.kas_rev p 0 a) a:=by
 have hs:=hp.size
 refine⟨(mirror_perm p 0 a _).toList.trans hp,fun i j hij hj=>?_⟩
 have e:∀k,k < a->(W.kas_rev p 0 a).getD k 0=p.getD (a - 1 - k) 0:=fun k hk=>by
  refine Ykx ?_
  show(mirror p 0 a ((a - 0) / 2))[k]?=_
  rw[getElem?_mirror_all (by lia),if_pos (by lia)]
  congr 1
  lia
 rw[e i (by lia),e j hj]
 exact hd _ _ (by lia) (by lia)
theorem Yv4(h2:2<=n){p:Array Nat}(hp:PmOk n p){G:Nat × Array Nat->Shared->Prop}(hG:∀m q,1<=m->m<=n->PmOk n q->Up key q m->G (m,q) s):(W.kas_count n p).kasWp cmp G s:=by
 unfold W.kas_count
 rw[W.KasT.kasWp_bind]
 refine Ys8 hinj hc hp (fun m h1 hm hu hd=>?_) (n - 1) 1 (qt _) (by lia) (fun i j hij hj=>absurd hj (by lia))
 by_cases e:m=n
 ·rw[if_pos (by simp[e])]
  exact hG m p h1 hm hp hu
 ·rw[if_neg (by simp[e])]
  by_cases e2:m > 1
  ·rw[if_pos e2]
   refine hc _ _ _ (hp.lt (by lia)) (hp.lt (by lia)) ?_
   rw[decide_eq_true (hu 0 (m - 1) (by lia) (by lia))]
   exact hG m p h1 hm hp hu
  ·rw[if_neg e2]
   have hm1:m=1:=by lia
   subst hm1
   unfold W.kas_descPart
   rw[W.KasT.kasWp_bind]
   have hd1:=hd (by lia)
   refine Ys9 hinj hc hp (fun a ha1 han hda=>?_) (n - (1+1)) (1+1) (by lia) (by lia) (fun i j hij hj=>?_)
   ·rw[if_neg (by simp)]
    obtain⟨hp2,hu2⟩:=y2y hp han hda
    unfold W.kas_tail3
    rw[W.KasT.kasWp_bind]
    exact Ys8 hinj hc hp2 (fun m h1 hm hu _=>hG m _ h1 hm hp2 hu) (n - a) a ha1 (by lia) hu2
   ·have hi:i=0:=by lia
    have hj1:j=1:=by lia
    subst hi hj1
    exact hd1
theorem Yky{p:Array Nat}(hp:PmOk n p){k:Nat}(hk:k < n)(hu:Up key p k){G:Nat->Shared->Prop}(hG:∀l,l<=k->(∀i,i < l->key (p.getD i 0) < key (p.getD k 0))->(∀i,l<=i->i < k->key (p.getD k 0) < key (p.getD i 0))->G l s) :
 ∀(f l r:Nat),r<=k->l<=r->r - l<=f->(∀i,i < l->key (p.getD i 0) < key (p.getD k 0))->(∀i,r<=i->i < k->key (p.getD k 0) < key (p.getD i 0))->(W.kas_place p k f l r).kasWp cmp G s
 | 0,l,r,h1,h2,h3,h4,h5=>hG l (by lia) h4 fun i hi hik=>h5 i (by lia) hik
 | f+1,l,r,h1,h2,h3,h4,h5=>by
   unfold W.kas_place
   by_cases e:l≥r
   ·rw[if_pos e]
    exact hG l (by lia) h4 fun i hi hik=>h5 i (by lia) hik
   ·rw[if_neg e]
    refine hc _ _ _ (hp.lt hk) (hp.lt (by lia)) ?_
    by_cases e2:key (p.getD k 0) < key (p.getD ((l+r) / 2) 0)
    ·rw[decide_eq_true e2]
     refine Yky hp hk hu hG f l ((l+r) / 2) (by lia) (by lia) (by lia) h4 fun i hi hik=>?_
     by_cases e3:i=(l+r) / 2
     ·rw[e3];exact e2
     ·exact Nat.lt_trans e2 (hu _ i (by lia) hik)
    ·rw[decide_eq_false e2]
     have hne:key (p.getD k 0)≠key (p.getD ((l+r) / 2) 0):=fun z=>by
      have:=hp.inj hk (by lia) (hinj _ _ (hp.lt hk) (hp.lt (by lia)) z)
      lia
     refine Yky hp hk hu hG f ((l+r) / 2+1) r h1 (by lia) (by lia) (fun i hi=>?_) h5
     by_cases e3:i=(l+r) / 2
     ·rw[e3];lia
     ·exact Nat.lt_trans (hu i ((l+r) / 2) (by lia) (by lia)) (by lia)
omit hinj hc in
theorem Yta{p:Array Nat}(hp:PmOk n p){k l:Nat}(hk:k < n)(hl:l<=k)(hu:Up key p k)(h1:∀i,i < l->key (p.getD i 0) < key (p.getD k 0))(h2:∀i,l<=i->i < k->key (p.getD k 0) < key (p.getD i 0)) :
 PmOk n (bubble p k (k - l))/\Up key (bubble p k (k - l)) (k+1):=by
 have hs:=hp.size
 refine⟨(bubble_perm p k _).toList.trans hp,fun i j hij hj=>?_⟩
 have e:∀x,(bubble p k (k - l)).getD x 0=if x=l then p.getD k 0 else if l < x/\x<=k then p.getD (x - 1) 0 else p.getD x 0:=fun x=>by
  have hb:=getElem?_bubble (xs:=p) (src:=k) (by lia) (k - l) (by lia) x
  rw[show k - (k - l)=l by lia]at hb
  by_cases c1:x=l
  ·rw[if_pos c1]at hb ⊢
   exact Ykx hb
  ·rw[if_neg c1]at hb ⊢
   by_cases c2:l < x/\x<=k
   ·rw[if_pos c2]at hb ⊢
    exact Ykx hb
   ·rw[if_neg c2]at hb ⊢
    exact Ykx hb
 rw[e i,e j]
 by_cases ci:i=l
 ·rw[if_pos ci,if_neg (by lia),if_pos (by lia)]
  exact h2 _ (by lia) (by lia)
 ·rw[if_neg ci]
  by_cases ci2:l < i/\i<=k
  ·rw[if_pos ci2,if_neg (by lia),if_pos (by lia)]
   exact hu _ _ (by lia) (by lia)
  ·rw[if_neg ci2]
   by_cases cj:j=l
   ·rw[if_pos cj]
    exact h1 i (by lia)
   ·rw[if_neg cj]
    by_cases cj2:l < j/\j<=k
    ·rw[if_pos cj2]
     exact hu _ _ (by lia) (by lia)
    ·rw[if_neg cj2]
     exact hu _ _ hij (by lia)
theorem Yxc{G:Array Nat->Shared->Prop}(hG:∀q,PmOk n q->Up key q n->G q s):∀(f:Nat) (p:Array Nat) (k:Nat),f+k=n->PmOk n p->Up key p k->(W.kas_bin f p k).kasWp cmp G s
 | 0,p,k,h1,hp,hu=>hG p hp (by rw[<-h1,Nat.zero_add];exact hu)
 | f+1,p,k,h1,hp,hu=>by
   unfold W.kas_bin
   rw[W.KasT.kasWp_bind]
   refine Yky hinj hc hp (by lia) hu (fun l hl q1 q2=>?_) k 0 k (qt _) (Nat.zero_le _) (by lia) (fun i hi=>absurd hi (by lia)) fun i hi hik=>absurd hik (by lia)
   obtain⟨r1,r2⟩:=Yta hp (show k < n by lia) hl hu q1 q2
   exact Yxc hG f _ (k+1) (by lia) r1 r2
theorem Yzd(h2:2<=n){G:Array Nat->Shared->Prop}(hG:∀q,PmOk n q->Up key q n->G q s):(W.kas_sort n).kasWp cmp G s:=by
 unfold W.kas_sort
 rw[W.KasT.kasWp_bind]
 refine Yv4 hinj hc h2 (show PmOk n (List.toArray (List.range n)) by unfold PmOk;simp) fun m q h1 hm hq hu=>?_
 dsimp only
 by_cases e:m < n
 ·rw[if_pos e,show max m 1=m by lia]
  exact Yxc hinj hc hG (n - m) q m (by lia) hq hu
 ·rw[if_neg e]
  have:m=n:=by lia
  subst this
  exact hG q hq hu
end
def bLt:List Bool->List Bool->Bool
 | a::x,b::y=>if a=b then bLt x y else (!a&&b)
 | _,_=>false
def bV:List Bool->Nat
 | []=>0
 | b::r=>(if b then 2 ^ r.length else 0)+bV r
theorem Yqy:∀bs:List Bool,bV bs < 2 ^ bs.length
 | []=>by decide
 | b::r=>by
   have:=Yqy r
   rw[bV,qq,Nat.pow_succ]
   cases b<;>simp<;>lia
theorem Yxd:∀{x y:List Bool},x.length=y.length->bLt x y=decide (bV x < bV y)
 | [],[],_=>rfl
 | a::x,b::y,h=>by
   have hl:x.length=y.length:=by simpa using h
   have ih:=Yxd hl
   have h1:=Yqy x
   have h2:=Yqy y
   rw[bLt,bV,bV,hl]
   rw[hl]at h1
   cases a<;>cases b
   ·simpa using ih
   ·simp;lia
   ·simp;lia
   ·simpa using ih
theorem Ytb:∀{x y:List Bool},x.length=y.length->bV x=bV y->x=y
 | [],[],_,_=>rfl
 | a::x,b::y,h,e=>by
   have hl:x.length=y.length:=by simpa using h
   have h1:=Yqy x
   have h2:=Yqy y
   rw[bV,bV,hl]at e
   rw[hl]at h1
   cases a<;>cases b
   ·rw[Ytb hl (by simpa using e)]
   ·simp at e;lia
   ·simp at e;lia
   ·rw[Ytb hl (by simpa using e)]
section
variable {prog:Program} {w:World} {A:Around} {E:Value->Shared->Prop} {s:Shared}
theorem Yqz{p q:Bool}{Q:Bool->Shared->Prop}(h:Q (!p&&q) s):wpAny (model prog w) A (oneLt' true (.bool p) (.bool q)) Q E s:=by
 rw[oneLt'_eq]
 simp only[if_true]
 refine wpAny_bind (wpAny_cRoomFor_byValue rfl ?_)
 refine wpAny_bind (wpAny_callSpecialIfBound?_slot (typeIs_bool' s p) F.slot_bool_lt (call_gives F.slot_bool_lt rfl F.entry_int_lt (F.args_int_lt_2 _ _) (gives_int_lt_bools p q) ?_))
 refine wpAny_truthy_bool ?_
 cases p<;>cases q<;>exact h
theorem Ymr:∀(x y:List Bool) (i:Nat) {Q:Bool->Shared->Prop},x.length=y.length->Q (bLt x y) s->W.KatLex prog w A true false Q ((x.map Value.bool).zip (y.map Value.bool)) i s
 | [],[],i,Q,_,h=>W.kat_nil h
 | a::x,b::y,i,Q,hl,h=>by
   rw[bLt]at h
   rw[Qb,Qb,List.zip_cons_cons]
   refine W.kat_cons (SeqAt.EqAt.bool_bool a b prog w _ _ (W.kat_go (fun e=>W.kat_yes (Ymr x y (i+1) (by simpa using hl) ?_)) fun e=>W.kat_no ?_))
   ·have e':a=b:=by simpa using e
    rw[if_pos e']at h
    exact h
   ·have e':¬a=b:=by simpa using e
    rw[if_neg e']at h
    cases i with
    | zero=>exact Yqz h
    | succ i=>
      show wpAny _ _ (oneLt' false _ _) _ _ _
      refine W.kat_one _ _ (lt_bool ?_)
      show Q _ s
      cases a<;>cases b<;>first | exact h | exact absurd rfl e'
theorem y2z{b c:Addr}{x y:List Bool}{Q:Bool->Shared->Prop}(hc:TupB s.heap c x)(hb:TupB s.heap b y)(hl:x.length=y.length)(h:Q (bLt x y) s):wpAny (model prog w) A (keyLt' (tuples' true) (.ref c) (.ref b)) Q E s:=by
 obtain⟨_,oc,n2,h2,_,d2⟩:=hc
 obtain⟨_,ob,n1,h1,_,d1⟩:=hb
 refine W.kat_lt h2 d2 h1 d1 ?_
 have hf:decide ((x.map Value.bool).toArray.size < (y.map Value.bool).toArray.size)=false:=by simp[hl]
 rw[hf,List.toList_toArray,List.toList_toArray]
 exact Ymr x y 0 hl h
theorem Yms{L:Addr}{us:List (Addr × List Bool)}{m:Nat}{Q:Fin->Shared->Prop}(hoS:s.heap.get? L=some (seqObj "list" (us.map fun u=>Value.ref u.1).toArray 0))(ht:∀u∈us,TupB s.heap u.1 u.2/\u.2.length=m)(hn:(us.map (·.2)).Nodup)(h64:us.length < 64)(hL:∀u∈us,u.1≠L)
 (hQ:∀(h':Heap) (e:Nat) (us':List (Addr × List Bool)),us'.Perm us->us'.Pairwise (fun u v=>bV u.2 < bV v.2)->(∀b o,b≠L->s.heap.get? b=some o->h'.get? b=some o)->h'.get? L=some (seqObj "list" (us'.map fun u=>Value.ref u.1).toArray e)->Q (.done (.ret .none)) { s with heap:=h' }) :
 wpAny (model prog w) A (Builtin.«list.sort» ⟨[.ref L],[]⟩) Q E s:=by
 by_cases h2:us.length < 2
 ·refine y2v hoS (by simpa using h2) fun h' e k1 k2=>hQ h' e us (.refl _) ?_ k1 k2
  rcases us with _ | ⟨u,_ | ⟨v,r⟩⟩
  ·exact .nil
  ·simp
  ·exfalso
   rw[qq,qq]at h2
   lia
 obtain⟨vs,hvs⟩:∃vs,(us.map fun u=>Value.ref u.1)=vs:=⟨_,rfl⟩
 rw[hvs]at hoS
 have hlen:vs.length=us.length:=by rw[<-hvs,qe]
 rw[list_sort_plain]
 have ha:L < s.heap.objs.size:=qk hoS
 refine wpAny_bind (listItems_at hoS rfl ?_)
 refine wpAny_bind (listUpdate_at hoS rfl ?_ (by rw[qj,sizeLine_eq];lia) (Nat.zero_le _))
 obtain⟨e1,ho1⟩:∃e1,(s.heap.update L (Obj.mapSeq fun _=>#[])).get? L=some (seqObj "list" #[] e1):=⟨_,get?_update_seq hoS (fun _=>#[])⟩
 refine wpAny_bind (seqEpoch_at ho1 rfl ?_)
 refine wpAny_bind (wpAny_newTuple ?_ (by show vs.length<=_;rw[sizeLine_eq];lia))
 refine wpAny_bind (wpAny_newList ?_ (Nat.zero_le _))
 refine wpAny_holding ?_
 have ho6:(((s.heap.update L (Obj.mapSeq fun _=>#[])).push (seqObj "tuple" vs.toArray 0)).push (seqObj "list" #[] 0)).get? L=some (seqObj "list" #[] e1):=by
  rw[Heap.get?_push_ne _ _ _ (by rw[size_push',Heap.size_update];exact ql (qv ha)),Heap.get?_push_ne _ _ _ (by rw[Heap.size_update];exact ql ha)]
  exact ho1
 have keep6:∀b o,b≠L->s.heap.get? b=some o->(((s.heap.update L (Obj.mapSeq fun _=>#[])).push (seqObj "tuple" vs.toArray 0)).push (seqObj "list" #[] 0)).get? b=some o:=fun b o hb q=>by
  refine qd _ (qd _ ?_)
  rw[Heap.get?_update_ne _ _ _ _ hb]
  exact q
 show wpAny (model prog w) _ _ _ _ { s with heap:=((s.heap.update L (Obj.mapSeq fun _=>#[])).push (seqObj "tuple" vs.toArray 0)).push (seqObj "list" #[] 0) }
 generalize ((s.heap.update L (Obj.mapSeq fun _=>#[])).push (seqObj "tuple" vs.toArray 0)).push (seqObj "list" #[] 0)=h6 at ho6 keep6 ⊢
 generalize hS6:({ s with heap:=h6 }:Shared)=S6
 have ho7:S6.heap.get? L=some (seqObj "list" #[] e1):=by rw[<-hS6];exact ho6
 have ht6:∀u∈us,TupB S6.heap u.1 u.2:=fun u hu=>(ht u hu).1.keep fun o e=>by rw[<-hS6];exact keep6 u.1 o (hL u hu) e
 dsimp only
 have hn2:¬vs.toArray.size < 2:=by rw[qj];lia
 rw[if_neg hn2,if_neg hn2]
 have hm1:∀u∈us,1<=u.2.length:=fun u hu=>Classical.byContradiction fun z=>by
  have hz:m=0:=by have:=(ht u hu).2;lia
  rcases us with _ | ⟨u1,_ | ⟨u2,r⟩⟩
  ·simp at h2
  ·simp at h2
  ·have a1:=(ht u1 (by simp)).2
   have a2:=(ht u2 (by simp)).2
   rw[hz]at a1 a2
   rw[Qb,Qb,List.eq_nil_of_length_eq_zero a1,List.eq_nil_of_length_eq_zero a2]at hn
   simp at hn
 have kt:W.KatTups S6.heap vs (us.map fun u=>Value.bool (u.2.headD false)):=by
  rw[<-hvs]
  clear hvs hlen hn2 hoS hQ h64 hn hL ht h2
  induction us with
  | nil=>exact .nil
  | cons u us ih=>
    obtain⟨_,o,k,q1,q2,q3⟩:=ht6 u qg
    have hne:=hm1 u qg
    rw[Qb,Qb]
    refine .cons q1 q2 q3 ?_ (ih (fun v hv=>ht6 v (qf _ hv)) fun v hv=>hm1 v (qf _ hv))
    cases hu:u.2 with
    | nil=>rw[hu]at hne;simp at hne
    | cons b r=>simp
 refine wpAny_bind (W.kat_kind (T:=.type "bool") kt (by rw[qe];lia) (fun v hv=>?_) (by decide) ?_)
 ·obtain⟨u,_,rfl⟩:=qw hv
  exact .of_pure rfl
 show wpAny _ _ _ _ _ S6
 have hat:∀i,i < us.length->∃u∈us,us[i]?=some u/\vs.getD i Value.none=.ref u.1/\(us.getD i (0,[]))=u:=fun i hi=>by
  refine⟨us[i],List.getElem_mem hi,qp hi,?_,by simp[hi]⟩
  rw[<-hvs]
  simp[hi]
 have hinj:∀i j,i < us.length->j < us.length->bV (us.getD i (0,[])).2=bV (us.getD j (0,[])).2->i=j:=fun i j hi hj e=>by
  obtain⟨u,hu,u1,_,u3⟩:=hat i hi
  obtain⟨v,hv,v1,_,v3⟩:=hat j hj
  rw[u3,v3]at e
  have huv:=Ytb (by rw[(ht u hu).2,(ht v hv).2]) e
  have hi':i < (us.map (·.2)).length:=by simpa using hi
  have hj':j < (us.map (·.2)).length:=by simpa using hj
  refine(List.getElem_inj (h₀:=hi') (h₁:=hj') hn).mp ?_
  rw[List.getElem_map,List.getElem_map]
  have e1:us[i]=u:=by rw[qp hi]at u1;exact Option.some.inj u1
  have e2:us[j]=v:=by rw[qp hj]at v1;exact Option.some.inj v1
  rw[e1,e2]
  exact huv
 refine wpAny_bind (wpAny_mono (W.kat_run (ks:=vs) (vs:=vs) (κ:=tuples' true) (G:=fun pm s'=>s'=S6/\PmOk us.length pm/\Up (fun i=>bV (us.getD i (0,[])).2) pm us.length)
  (Q:=fun st' s'=>s'=S6/\failedOf st'=none/\∃us':List (Addr × List Bool),us'.Perm us/\us'.Pairwise (fun u v=>bV u.2 < bV v.2)/\(arrOf st').map (·.2)=(us'.map fun u=>Value.ref u.1).toArray) rfl (by lia) (by lia) (fun pm st' s' a1 a2 a3 a4=>?_) ?_) ?_ fun _ _ e=>e)
 ·obtain⟨rfl,b1,b2⟩:=a4
  refine⟨rfl,a3,pm.toList.map fun i=>us.getD i (0,[]),?_,?_,?_⟩
  ·refine(b1.map _).trans ?_
   have:(List.range us.length).map (fun i=>us.getD i (0,[]))=us:=by
    refine List.ext_getElem (by simp) fun i h1 h2=>?_
    have hi:i < us.length:=h2
    simp[hi]
   rw[this]
  ·rw[List.pairwise_map]
   rw[List.pairwise_iff_getElem]
   intro i j hi hj hij
   have hs:=b1.size
   rw[qi]at hi hj
   have:=b2 i j hij (by lia)
   simp only[Array.getD,hi,hj,dif_pos]at this
   exact this
  ·rw[W.kat_snds rfl a2,List.map_map]
   congr 1
   refine List.map_congr_left fun i hi=>?_
   have hi':i < us.length:=qz (b1.mem_iff.mp hi)
   obtain⟨u,_,_,u2,u3⟩:=hat i hi'
   show vs.getD i Value.none=Value.ref (us.getD i (0,[])).1
   rw[u2,u3]
 ·rw[hlen]
  refine Yzd hinj (fun i j C hi hj hC=>?_) (by lia) fun q hq hu=>⟨rfl,hq,hu⟩
  obtain⟨u,hu,_,u2,u3⟩:=hat i hi
  obtain⟨v,hv,_,v2,v3⟩:=hat j hj
  show wpAny (model prog w) A (keyLt' (tuples' true) (vs.getD i Value.none) (vs.getD j Value.none)) C (fun _ _=>False) S6
  rw[u2,v2]
  have hl:=(ht u hu).2.trans (ht v hv).2.symm
  refine y2z (ht6 u hu) (ht6 v hv) hl ?_
  rw[Yxd hl]
  rw[u3,v3]at hC
  exact hC
 rintro⟨⟨⟩,st'⟩ s' ⟨rfl,hf,us',hp',hw',hout⟩
 dsimp only
 refine wpAny_bind (seqEpoch_at ho7 rfl ?_)
 refine wpAny_bind (listUpdate_at ho7 rfl ?_ (Nat.zero_le _) (by rw[hout,sizeLine_eq,qj,qe,hp'.length_eq];lia))
 rw[hf]
 simp only[bne_self_eq_false,Bool.false_eq_true,if_false]
 refine wpAny_pure ?_
 rw[hout]
 have hfin:=get?_update_seq ho7 (fun _=>(us'.map fun u=>Value.ref u.1).toArray)
 subst hS6
 exact hQ _ _ us' hp' hw' (fun b o hb q=>by rw[Heap.get?_update_ne _ _ _ _ hb];exact keep6 b o hb q) hfin
theorem Ymt{α β:Type}(f:α->β){l m:List β}(h:l.Perm m):∀us:List α,m=us.map f->∃us1:List α,us1.Perm us/\l=us1.map f:=by
 induction h with
 | nil=>
   intro us e
   rw[List.map_eq_nil_iff.mp e.symm]
   exact⟨[],.refl _,rfl⟩
 | cons x _ ih=>
   intro us e
   cases us with
   | nil=>cases e
   | cons u r=>
     rw[Qb]at e
     injection e with e1 e2
     obtain⟨us1,h1,h2⟩:=ih r e2
     exact⟨u::us1,h1.cons u,by rw[h2,e1];rfl⟩
 | swap x y l=>
   intro us e
   cases us with
   | nil=>cases e
   | cons u r=>
     cases r with
     | nil=>cases e
     | cons v r=>
       rw[Qb,Qb]at e
       injection e with e1 e2
       injection e2 with e2 e3
       exact⟨v::u::r,.swap u v r,by rw[e1,e2,e3];rfl⟩
 | trans _ _ ih1 ih2=>
   intro us e
   obtain⟨b,hb,rfl⟩:=ih2 us e
   obtain⟨c,hc,e2⟩:=ih1 b rfl
   exact⟨c,hc.trans hb,e2⟩
theorem Yoe{a:Addr}{vs:List Value}{us:List (Addr × List Bool)}{m:Nat}(hh:A.handled=none)(hS:SetV w s.heap a vs)(hpm:vs.Perm (us.map fun u=>Value.ref u.1))(ht:∀u∈us,TupB s.heap u.1 u.2/\u.2.length=m)(hn:(us.map (·.2)).Nodup)(h64:us.length < 64){Q:Value->Shared->Prop}
 (hQ:∀(h':Heap) (d':Drawn) (tk e:Nat) (p:Addr) (us':List (Addr × List Bool)),us'.Perm us->us'.Pairwise (fun u v=>bV u.2 < bV v.2)->(∀b o,s.heap.get? b=some o->h'.get? b=some o)->s.heap.objs.size<=p->h'.get? p=some (seqObj "list" (us'.map fun u=>Value.ref u.1).toArray e)->Q (.ref p) { s with heap:=h',drawn:=d',toks:=tk }) :
 wpAny (model prog w) A (call (.builtin "sorted") [.ref a]) Q E s:=by
 refine Calls.call_function_entry kind_sorted plain_sorted entry_sorted (args_sorted1 _) ?_
 unfold Builtin.«sorted»
 refine wpAny_bind (m:=checkCount "sorted" 1 1 _) (wpAny_pure ?_)
 refine wpAny_bind (Yml (A:=A.in1) hh hS fun h' d' tk acc hle keep hp'=>?_)
 have hpa:=hp'.trans hpm
 obtain⟨us1,hp1,rfl⟩:∃us1:List (Addr × List Bool),us1.Perm us/\acc=us1.map fun u=>Value.ref u.1:=by
  exact Ymt _ hpa us rfl
 have hl:us1.length < 64:=by rw[hp1.length_eq];exact h64
 refine wpAny_bind (wpAny_newList ?_ (by rw[qe,sizeLine_eq];lia))
 have hoL:(h'.push (seqObj "list" (us1.map fun u=>Value.ref u.1).toArray 0)).get? h'.objs.size=some (seqObj "list" (us1.map fun u=>Value.ref u.1).toArray 0):=qo _ rfl
 show wpAny _ _ _ _ _ { s with heap:=h'.push (seqObj "list" (us1.map fun u=>Value.ref u.1).toArray 0),drawn:=d',toks:=tk }
 have hul:∀u∈us1,u.1 < s.heap.objs.size:=fun u hm=>by
  obtain⟨_,o,_,ho,_⟩:=(ht u (hp1.mem_iff.mp hm)).1
  exact qk ho
 refine wpAny_bind (wpAny_holding (wpAny_call_entry slot_list_sort ⟨_,hoL,rfl⟩ entry_list_sort (Yms (us:=us1) (m:=m) (s:={ s with heap:=h'.push (seqObj "list" (us1.map fun u=>Value.ref u.1).toArray 0),drawn:=d',toks:=tk }) hoL (fun u hu=>⟨(ht u (hp1.mem_iff.mp hu)).1.keep fun o e=>qd _ (keep u.1 o e),(ht u (hp1.mem_iff.mp hu)).2⟩) ((hp1.map _).nodup_iff.mpr hn) hl (fun u hm=>ql (Qc (hul u hm) hle)) fun h2' e us' q1 q2 k1 k2=>⟨_,rfl,?_⟩) (args_list_sort _)))
 refine wpAny_pure ⟨_,rfl,hQ h2' d' tk e h'.objs.size us' (q1.trans hp1) q2 (fun b o eb=>?_) hle k2⟩
 have hb:=qk (keep b o eb)
 exact k1 b o (ql hb) (qd _ (keep b o eb))
end
end
section
def allB:Nat->List (List Bool)
 | 0=>[[]]
 | n+1=>(allB n).map (false::·)++(allB n).map (true::·)
theorem Yc8:∀(n:Nat) {x:List Bool},x∈allB n->x.length=n
 | 0,x,h=>by rw[List.mem_singleton.mp h];rfl
 | n+1,x,h=>by
   rcases qu h with h | h
   ·obtain⟨y,hy,rfl⟩:=qw h
    rw[qq,Yc8 n hy]
   ·obtain⟨y,hy,rfl⟩:=qw h
    rw[qq,Yc8 n hy]
theorem Yg3:∀(x:List Bool),x∈allB x.length
 | []=>qg
 | b::x=>by
   have ih:=Yg3 x
   refine List.mem_append.mpr ?_
   cases b
   ·exact .inl (List.mem_map_of_mem ih)
   ·exact .inr (List.mem_map_of_mem ih)
theorem Ytc:∀n,(allB n).Pairwise fun x y=>bV x < bV y
 | 0=>by simp[allB]
 | n+1=>by
   have ih:=Ytc n
   rw[allB,List.pairwise_append]
   refine⟨?_,?_,fun x hx y hy=>?_⟩
   ·rw[List.pairwise_map]
    exact ih.imp fun h=>by simpa [bV]using h
   ·rw[List.pairwise_map]
    refine List.Pairwise.imp_of_mem (fun {x y} hx hy h=>?_) ih
    have h1:=Yc8 n hx
    have h2:=Yc8 n hy
    simp[bV,h1,h2]
    exact h
   ·obtain⟨a,ha,rfl⟩:=qw hx
    obtain⟨b,hb,rfl⟩:=qw hy
    have h1:=Yqy a
    have h2:=Yc8 n ha
    have h3:=Yc8 n hb
    simp[bV,h3]
    rw[h2]at h1
    lia
theorem Yof{m:Nat}{l ks:List (List Bool)}(hp:l.Pairwise fun x y=>bV x < bV y)(hl:∀x∈l,x.length=m)(hm:∀x,x∈l↔x∈ks):l=(allB m).filter fun x=>decide (x∈ks):=by
 have h1:((allB m).filter fun x=>decide (x∈ks)).Pairwise fun x y=>bV x < bV y:=(Ytc m).filter _
 have nd:∀{m:List (List Bool)},m.Pairwise (fun x y=>bV x < bV y)->m.Nodup:=fun h=>h.imp fun h z=>by rw[z]at h;exact Qe _ h
 have hperm:l.Perm ((allB m).filter fun x=>decide (x∈ks)):=(List.perm_ext_iff_of_nodup (nd hp) (nd h1)).mpr fun x=>by
  rw[List.mem_filter]
  constructor
  ·exact fun hx=>⟨hl x hx ▸ Yg3 x,by simpa using (hm x).mp hx⟩
  ·exact fun hx=>(hm x).mpr (by simpa using hx.2)
 exact hperm.eq_of_pairwise (le:=fun x y=>bV x < bV y) (fun a b _ _ h1 h2=>absurd (Nat.lt_trans h1 h2) (Qe _)) hp h1
theorem Yh6:∀n,(allB n).length=2 ^ n
 | 0=>rfl
 | n+1=>by rw[allB,qx,qe,qe,Yh6 n,Nat.pow_succ];lia
theorem Yh7:∀(r acc:List (Addr × List Bool)),(∀u∈Ycz acc r,u∈acc\/u∈r)/\∀x,x∈(Ycz acc r).map (·.2)↔x∈acc.map (·.2)\/x∈r.map (·.2)
 | [],acc=>⟨fun u h=>.inl h,fun x=>by simp[Ycz]⟩
 | u::r,acc=>by
   obtain⟨h1,h2⟩:=Yh7 r (if u.2∈acc.map (·.2)then acc else acc++[u])
   rw[Ycz]
   constructor
   ·intro v hv
    rcases h1 v hv with z | z
    ·split at z
     ·exact .inl z
     ·rcases qu z with z | z
      ·exact .inl z
      ·rw[List.mem_singleton.mp z];exact .inr qg
    ·exact .inr (qf _ z)
   ·intro x
    rw[h2,Qb,List.mem_cons]
    split
    ·rename_i hin
     constructor
     ·rintro(z | z)
      ·exact .inl z
      ·exact .inr (.inr z)
     ·rintro(z | z | z)
      ·exact .inl z
      ·exact .inl (z ▸ hin)
      ·exact .inr z
    ·rw[List.map_append,List.mem_append]
     simp only[Qb,List.map_nil,List.mem_singleton]
     constructor
     ·rintro((z | z) | z)
      ·exact .inl z
      ·exact .inr (.inl z)
      ·exact .inr (.inr z)
     ·rintro(z | z | z)
      ·exact .inl (.inl z)
      ·exact .inl (.inr z)
      ·exact .inr z
theorem Ykz:∀(r acc:List (Addr × List Bool)),(acc.map (·.2)).Nodup->((Ycz acc r).map (·.2)).Nodup
 | [],acc,h=>h
 | u::r,acc,h=>by
   rw[Ycz]
   refine Ykz r _ ?_
   split
   ·exact h
   ·rename_i hin
    rw[List.map_append]
    exact List.nodup_append.mpr ⟨h,by simp,fun x hx y hy z=>by
     simp at hy
     subst hy
     exact hin (z ▸ hx)⟩
theorem Ypz{m:Nat}(hm:m<=4){us:List (Addr × List Bool)}(hn:(us.map (·.2)).Nodup)(hl:∀u∈us,u.2.length=m):us.length<=16:=by
 have hsub:us.map (·.2)⊆allB m:=fun x hx=>by
  obtain⟨u,hu,rfl⟩:=qw hx
  exact hl u hu ▸ Yg3 u.2
 have:=List.Nodup.length_le_of_subset hn hsub
 rw[qe,Yh6]at this
 have h2:2 ^ m<=2 ^ 4:=Nat.pow_le_pow_right (by decide) hm
 lia
def TpsA(H:Hp)(us:List (Addr × List Bool))(m:Nat):Prop:=∀u∈us,H u.1=some (.tup (u.2.map V.bl))/\u.2.length=m
def y4k(K:W.Frag)(w:World):List V->Hp->VK->Prop:=fun xs H Q=>∃(a:Addr) (us:List (Addr × List Bool)) (m:Nat),xs=[.ref a]/\SqL K H a (us.map fun u=>V.ref u.1)/\TpsA H us m/\m<=4/\∀p vs,H p=none->vs.Perm ((Ycz [] us).map fun u=>Value.ref u.1)->Q (.ref p) (upd H p (setW w p vs))
def y20(w:World):List V->Hp->VK->Prop:=fun xs H Q=>∃(a:Addr) (vs:List Value) (us:List (Addr × List Bool)) (m:Nat),xs=[.ref a]/\H a=some (setW w a vs)/\vs.Perm (us.map fun u=>Value.ref u.1)/\TpsA H us m/\m<=4/\(us.map (·.2)).Nodup/\
 ∀(p:Addr) (us':List (Addr × List Bool)),H p=none->us'.Perm us->us'.Pairwise (fun u v=>bV u.2 < bV v.2)->Q (.ref p) (upd H p (.lst (us'.map fun u=>V.ref u.1)))
section
variable {X:Cx}
theorem Ytd{pins:List (Addr × Obj)}{s:Shared}{σ:L2.St}{H:Hp}(I:Inv X pins σ H s){us:List (Addr × List Bool)}{m:Nat}(hm:m<=4)(x:TpsA H us m):∀u∈us,TupB s.heap u.1 u.2/\u.2.length=m:=fun u hu=>by
 obtain⟨h1,h2⟩:=x u hu
 obtain⟨its2,rv,⟨o,e,hc,n,hd⟩,_⟩:=I.tuple (xs:=u.2.map V.bl) (.of h1)
 cases Ye9 rv
 exact⟨⟨by lia,o,n,e,hc,hd⟩,h2⟩
theorem Yq0{us:List (Addr × List Bool)}{its:List Value}(r:Vals (us.map fun u=>V.ref u.1) its):its=us.map fun u=>Value.ref u.1:=by
 have h:Vals ((us.map (·.1)).map V.ref) its:=by rw[List.map_map];exact r
 rw[Ymn h,List.map_map]
 rfl
theorem Yq1(us:List (Addr × List Bool)):Vals (us.map fun u=>V.ref u.1) (us.map fun u=>Value.ref u.1):=by
 have:=Ymo (us.map (·.1))
 rw[List.map_map,List.map_map]at this
 exact this
theorem Yte(hc:X.calm=true)(hu:X.A.units+64 < cLine):Yb5 X (.type "set") (y4k X.K X.w):=by
 intro pins s σ H xs us Q I r h
 obtain⟨a,us',m,rfl,hq,ht,hm,q⟩:=h
 obtain⟨u,rfl,rx⟩:=Ygl r
 cases rx
 have hh:X.A.handled=none:=I.ok.hd hc
 obtain⟨its,rv,pl,hz⟩:=I.list hq
 cases Yq0 rv
 have hta:=Ytd I hm ht
 obtain⟨o1,o2⟩:=Yh7 us' []
 have hfew:=Ypz hm (Ykz us' [] .nil) (fun u hu=>by
  rcases o1 u hu with z | z
  ·exact nomatch z
  ·exact(ht u z).2)
 refine Ykw hh (by lia) pl.isList (fun u hu=>(hta u hu).1) (by lia) fun h' tk hS hk=>?_
 obtain⟨vs,hV,hpm⟩:=hS.vals
 exact⟨.ref s.heap.objs.size,_,I.laid (t':=tk) hk (qt _) (Yy9 hV),rfl,q _ vs (I.hok.fresh (qt _)) hpm⟩
theorem Yq2(hc:X.calm=true):Yb5 X (.builtin "sorted") (y20 X.w):=by
 intro pins s σ H xs us Q I r h
 obtain⟨a,vs,us',m,rfl,ha,hpm,ht,hm,hn,q⟩:=h
 obtain⟨u,rfl,rx⟩:=Ygl r
 cases rx
 have hh:X.A.handled=none:=I.ok.hd hc
 have hS:SetV X.w s.heap a vs:=(show ObjOk X.prog X.w H s.heap a (setW X.w a vs) from I.hok a _ ha).1
 have hfew:=Ypz hm hn fun u hu=>(ht u hu).2
 refine Yoe hh hS hpm (Ytd I hm ht) hn (by lia) fun h' d' tk e p us2 hp1 hp2 keep hp he=>?_
 refine⟨.ref p,_,Inv.laid (t':=tk) (I.dr d') keep hp (show ObjOk X.prog X.w _ _ _ (.lst (us2.map fun u=>V.ref u.1)) from⟨?_,_,e,Yq1 _,he⟩),rfl,q _ us2 (I.hok.fresh hp) hp1 hp2⟩
 rw[qe,hp1.length_eq,sizeLine_eq]
 lia
end
def tpB(bs:List Bool):D:=.tup (bs.map D.bl)
def tpsD:List D->Option (List (List Bool))
 | []=>some []
 | .tup l::r=>(blsD l).bind fun bs=>(tpsD r).map (bs::·)
 | _=>none
def Ytf(l:List D):Option (List D):=(tpsD l).bind fun ks=>match ks with
 | []=>some []
 | k::_=>if k.length<=4/\ks.all (fun x=>x.length==k.length)=true then some (((allB k.length).filter fun x=>decide (x∈ks)).map tpB)else none
theorem Yp0:∀ks:List (List Bool),tpsD (ks.map tpB)=some ks
 | []=>rfl
 | k::ks=>by
   have hb:blsD (k.map D.bl)=some k:=by
    induction k with
    | nil=>rfl
    | cons b k ih=>rw[Qb,blsD,ih];rfl
   rw[Qb,tpB,tpsD,hb,Yp0 ks]
   rfl
theorem Yxe{K:W.Frag}{G:Hp}:∀{l:List D} {ks:List (List Bool)} {xs:List V},tpsD l=some ks->RpL K G l xs->∃us:List (Addr × List Bool),us.map (·.2)=ks/\xs=us.map (fun u=>V.ref u.1)/\∀u∈us,G u.1=some (.tup (u.2.map V.bl))
 | [],ks,xs,e,r=>by
   rw[tpsD]at e
   cases e
   rw[RpL]at r
   subst r
   exact⟨[],rfl,rfl,fun u h=>nomatch h⟩
 | d::l,ks,xs,e,r=>by
   unfold tpsD at e
   split at e
   case h_1 he=>cases he
   case h_2 l1 r1 he=>
    injection he with he1 he2
    subst he1 he2
    obtain⟨bs,h1,e⟩:=qa e
    obtain⟨ks',h2,rfl⟩:=qb e
    rw[RpL]at r
    obtain⟨x,xr,rfl,rx,rr⟩:=r
    obtain⟨us,q1,rfl,q3⟩:=Yxe h2 rr
    rw[Rp]at rx
    obtain⟨b,ys,rfl,hb,ry⟩:=rx
    cases Yhv h1
    cases Yn5 ry
    refine⟨(b,bs)::us,by rw[Qb,q1],rfl,fun u hu=>?_⟩
    rcases qr hu with rfl | hu
    ·exact hb
    ·exact q3 u hu
   case h_3=>cases e
theorem Yxf{K:W.Frag}{G:Hp}:∀(us:List (Addr × List Bool)),(∀u∈us,G u.1=some (.tup (u.2.map V.bl)))->RpL K G ((us.map (·.2)).map tpB) (us.map fun u=>V.ref u.1)
 | [],_=>.nil
 | u::us,h=>by
   refine .cons ?_ (Yxf us fun v hv=>h v (qf _ hv))
   rw[tpB,Rp]
   refine⟨u.1,_,rfl,h u qg,?_⟩
   have:∀bs:List Bool,RpL K G (bs.map D.bl) (bs.map V.bl):=fun bs=>by
    induction bs with
    | nil=>exact .nil
    | cons b bs ih=>exact .cons (by rw[Rp]) ih
   exact this _
section
variable {X:Cx} {e:Expr} {f:Ro->Option D} {p p2 pos pos2:Pos}
def Yd3(f:Ro->Option D):Ro->Option (List D):=fun ρ=>(b1 f lstL ρ).bind Ytf
@[simp] theorem ap_sortsetB{ρ:Ro}:Yd3 f ρ=((f ρ).bind lstL).bind Ytf:=nr0 rfl
theorem Yog(hc:X.calm=true)(hu:X.A.units+64 < cLine)(hg:Gl X "sorted")(hm:X.mg "sorted"=none)(hg2:Gl X "set")(hm2:X.mg "set"=none)(ha:MC X e f)(hs:starEach [e] X.env=[(false,eval e X.env)]:=by rfl)
 (he:starEach [.Call (.Name "set" p2) [e] [] pos2] X.env=[(false,eval (.Call (.Name "set" p2) [e] [] pos2) X.env)]:=by rfl)
 (hpl:(backTo pos2 (starEach [] X.env)).any (·.1)=false:=by rfl) (hpl2:(backTo pos (starEach [] X.env)).any (·.1)=false:=by rfl) :
 MF X (.Call (.Name "sorted" p) [.Call (.Name "set" p2) [e] [] pos2] [] pos) (Yd3 f):=
 PE.imp (Yc3 (Yq2 hc) hg hm boot_sorted (Ybd (Yez (Yte hc hu) hg2 hm2 boot_set (Ypp ha Yr0 hs) (by decide) (by decide) hs hpl) Yeb he) (by decide) (by decide) he hpl2) fun σ H Q hx_=>by
  obtain⟨ρ,l,H0,G0,G,e,s,h⟩:=hx_
  unfold Yd3 at e
  obtain⟨l0,h1,e⟩:=qa e
  obtain⟨d,h2,h3⟩:=Ybm h1
  refine tCAof.at (show Ye f aNil ρ=some [d] by simp[Ye,aNil,h2]) s fun vs H1 G1 g1 r1 s1=>?_
  obtain⟨v,rfl,rv⟩:=Yeq r1
  unfold lstL at h3
  split at h3
  case h_2=>cases h3
  cases h3
  rw[Ct]at rv
  obtain⟨a,xs,rfl,hq,rl⟩:=rv
  unfold Ytf at e
  obtain⟨ks,hks,e⟩:=qa e
  obtain⟨us,q1,rfl,q3⟩:=Yxe hks rl
  obtain⟨m,hm4,hlen,hres⟩:∃m,m<=4/\(∀x∈ks,x.length=m)/\l=((allB m).filter fun x=>decide (x∈ks)).map tpB:=by
   cases ks with
   | nil=>
     cases e
     refine⟨0,by lia,fun x hx=>(nomatch hx),?_⟩
     simp
   | cons k kr=>
     dsimp only at e
     split at e
     case isFalse=>cases e
     rename_i hcnd
     cases e
     exact⟨k.length,hcnd.1,fun x hx=>by simpa using List.all_eq_true.mp hcnd.2 x hx,rfl⟩
  have htp:TpsA H1 us m:=fun u hu=>⟨s1.seen _ _ (q3 u hu),hlen u.2 (q1 ▸ List.mem_map_of_mem (f:=(·.2)) hu)⟩
  obtain⟨o1,o2⟩:=Yh7 us []
  have hsub:∀u∈Ycz [] us,u∈us:=fun u hu=>by
   rcases o1 u hu with z | z
   ·exact nomatch z
   ·exact z
  refine⟨a,us,m,rfl,.inl hq,htp,hm4,fun r rs hr hp=>?_⟩
  have g2:=Gr.hid s1.seen hr (setW X.w r rs)
  have s2:=s1.grow g2
  refine⟨r,rs,Ycz [] us,m,rfl,Yt,hp,fun u hu=>⟨?_,(htp u (hsub u hu)).2⟩,hm4,Ykz us [] .nil,fun t us' ht hp1 hp2=>?_⟩
  ·rw[Yv (Ys (htp u (hsub u hu)).1 hr)]
   exact(htp u (hsub u hu)).1
  ·have hl:l=(us'.map (·.2)).map tpB:=by
    rw[hres]
    congr 1
    refine(Yof (ks:=ks) (List.pairwise_map.mpr hp2) (fun x hx=>?_) fun x=>?_).symm
    ·obtain⟨u,hu,rfl⟩:=qw hx
     exact(htp u (hsub u (hp1.mem_iff.mp hu))).2
    ·rw[(hp1.map (·.2)).mem_iff,o2,q1]
     simp
   refine h t _ _ G1 ((g1.trans g2).trans (.hid s2.seen ht _)) ((g1.trans g2).h.free ht) (s2.seen.free ht) Yt ?_
   rw[hl]
   exact Yxf us' fun u hu=>q3 u (hsub u (hp1.mem_iff.mp hu))
def sExp(f:Ro->Option D):Ro->Option Out:=fun ρ=>(f ρ).map fun _=>.nx ρ
@[simp] theorem ap_sExp{ρ:Ro}:sExp f ρ=(f ρ).map fun _=>.nx ρ:=nr0 rfl
theorem Yze(he:ME X e f)(hse:swapsWith e none pos.line X.env=pure false:=by rfl):MS X (.Expr e pos) (sExp f):=PS.imp (Yhd he hse) fun F σ H hx_=>by
 obtain⟨ρ,out,H0,G0,G,e,s,h⟩:=hx_
 obtain⟨d,h1,rfl⟩:=qb e
 exact tOf.at h1 s fun v H1 G1 g1 r1 s1=>h σ H1 G1 s1
theorem Yp1:∀(us:List Value) (k:Nat),(∀(i:Nat) v,us[i]?=some v->∃t,v=.int ((k:Int)+(i:Nat)) t)->Vals ((List.range us.length).map fun i=>V.int ((k:Int)+(i:Nat))) us
 | [],_,_=>.nil
 | u::us,k,h=>by
   rw[qq,List.range_succ_eq_map,Qb,List.map_map]
   refine .cons ?_ ?_
   ·obtain⟨t,ht⟩:=h 0 u rfl
    exact⟨t,by simpa using ht⟩
   ·have:=Yp1 us (k+1) fun i v hv=>by
     obtain⟨t,ht⟩:=h (i+1) v (by simpa using hv)
     exact⟨t,by rw[ht];congr 1;push_cast;lia⟩
    have e:((fun i:Nat=>V.int ((k:Int)+(i:Nat))) ∘ Nat.succ)=fun i:Nat=>V.int (((k+1:Nat):Int)+(i:Nat)):=by
     funext i
     show V.int _=V.int _
     congr 1
     push_cast
     lia
    rw[e]
    exact this
def tLR(ta:TA):TE:=fun σ H Q=>ta σ H fun vs H1=>∃j:Int,vs=[.int j]/\-1000000<=j/\j<=1000000/\∀l,H1 l=none->Q (.ref l) (upd H1 l (.lst ((List.range j.toNat).map fun i:Nat=>V.int (0+(i:Nat)))))
theorem Ymu{a:Expr}{ta:TA}(hc:X.calm=true)(hg:Gl X "list")(hm:X.mg "list"=none)(hg2:Gl X "range")(hm2:X.mg "range"=none)(ha:PA X [a] ta)(hs:starEach [a] X.env=[(false,eval a X.env)]:=by rfl)
 (he:starEach [.Call (.Name "range" p2) [a] [] pos2] X.env=[(false,eval (.Call (.Name "range" p2) [a] [] pos2) X.env)]:=by rfl) :
 PE X (.Call (.Name "list" p) [.Call (.Name "range" p2) [a] [] pos2] [] pos) (tLR ta):=by
 intro pins s σ H Q I h
 refine wpAny_Call_Name_kw (Yhc I hg hm boot_list ?_ (by decide) (by decide))
 refine PyProof.Rows.callWith_type1 ?_ he rfl
 rw[he]
 refine Calls.spliced_cons (Call_ (Yhc I hg2 hm2 boot_range (PyProof.Rows.callWith_type1 (thn (ha pos2 pins s σ H _ I h) fun us s1 hx=>?_) hs rfl)))
 obtain⟨vs,H1,I1,r1,j,rfl,hj1,hj2,q⟩:=hx
 cases r1 with
 | cons r rr=>
   cases rr
   obtain⟨t,rfl⟩:=r
   refine call_range_1 (Calls.spliced_nil ?_)
   have hh:X.A.handled=none:=I1.ok.hd hc
   have hsz:(s1.heap.push { cls:=.type "range",data:=.fields #[.int 0 s1.toks,.int j t,.int 1 (s1.toks+1)] }).objs.size=s1.heap.objs.size+1:=Heap.size_push ..
   refine call_list_range hh (IsRange.new ..) (small_one (by lia) (by lia) (by lia) (by lia)) (n:=j.toNat) (by rw[rangeSize_one];split<;>lia) (by lia) fun h' tk acc' c' hk hS' hacc=>?_
   have hS2:h'.get? (s1.heap.objs.size+1)=some { cls:=.type "list",dict:=none,data:=.seq acc' c',slots:=#[] }:=by rw[<-hsz];exact hS'
   have hv:Vals ((List.range j.toNat).map fun i:Nat=>V.int (0+(i:Nat))) acc'.toList:=by
    have:=Yp1 acc'.toList 0 fun i v hv=>by
     obtain⟨t,ht⟩:=hacc.2 i v (by rw[<-Array.getElem?_toList];exact hv)
     exact⟨t,by rw[ht];congr 1;simp⟩
    rw[qi,hacc.1]at this
    exact this
   refine⟨.ref (s1.heap.objs.size+1),upd H1 (s1.heap.objs.size+1) (.lst ((List.range j.toNat).map fun i:Nat=>V.int (0+(i:Nat)))),?_,?_,q _ (I1.hok.fresh (Nat.le_succ _))⟩
   ·refine I1.laid (t':=tk) (fun b o e=>hk b o (qd _ e)) (Nat.le_succ _) (show ObjOk X.prog X.w _ _ _ (.lst ((List.range j.toNat).map fun i:Nat=>V.int (0+(i:Nat)))) from⟨?_,acc'.toList,c',hv,by rw[Array.toArray_toList];exact hS2⟩)
    rw[qe,List.length_range,sizeLine_eq]
    lia
   ·show RelV (V.ref _) (Value.ref _)
    rw[hsz]
    rfl
theorem Yzf{K:W.Frag}{G:Hp}(l:List Nat):RpL K G (l.map fun i:Nat=>D.int (0+(i:Nat))) (l.map fun i:Nat=>V.int (0+(i:Nat))):=by
 induction l with
 | nil=>exact .nil
 | cons a l ih=>exact .cons (by rw[Rp]) ih
theorem Ymv{a:Expr}{ga:Ro->Option (List D)}(hc:X.calm=true)(hg:Gl X "list")(hm:X.mg "list"=none)(hg2:Gl X "range")(hm2:X.mg "range"=none)(ha:MA X [a] ga)(hs:starEach [a] X.env=[(false,eval a X.env)]:=by rfl)
 (he:starEach [.Call (.Name "range" p2) [a] [] pos2] X.env=[(false,eval (.Call (.Name "range" p2) [a] [] pos2) X.env)]:=by rfl) :
 MF X (.Call (.Name "list" p) [.Call (.Name "range" p2) [a] [] pos2] [] pos) (cF ga rng1):=
 PE.imp (Ymu hc hg hm hg2 hm2 ha hs he) fun σ H Q hx_=>by
  obtain⟨ρ,l,H0,G0,G,e,s,h⟩:=hx_
  unfold cF at e
  obtain⟨ds,h1,e⟩:=qa e
  obtain⟨n,rfl,hn1,hn2,rfl⟩:=Yl9 e
  refine tAof.at h1 s fun vs H1 G1 g1 r1 s1=>?_
  rw[RpL]at r1
  obtain⟨x,r,rfl,rx,r1⟩:=r1
  rw[RpL]at r1
  subst r1
  rw[Rp]at rx
  subst rx
  refine⟨n,rfl,hn1,hn2,fun m hm'=>h m _ _ G1 (g1.trans (.hid s1.seen hm' _)) (g1.h.free hm') (s1.seen.free hm') Yt ?_⟩
  unfold rngD
  rw[Int.sub_zero]
  exact Yzf _
def SEI(w:World):List DictEntry->List (Str × Int)->Prop:=Paired fun e p=>e.hash=PyData.keyHash w.params p.1/\(∃t,e.key=.str p.1 t)/\∃t,e.val=.int p.2 t
def GDI(K:W.Frag)(w:World)(mg:Str->Option Value)(x:Str)(kvs:List (Str × Int)):Prop:=∃p o es ep,mg x=some (.ref p)/\K.lookup p=some o/\o.ExactDict/\o.data=.dict es ep/\SEI w es.toList kvs
theorem Yp2{P:Program}{w:World}{k:Str}{v:Int}:∀{l:List DictEntry} {kvs:List (Str × Int)},SEI w l kvs->kvs.lookup k=some v->∃e t,l.find? (fun e=>(PySem.strKind P w).is k e.key)=some e/\e.val=.int v t
 | _,_,.nil,h=>by simp at h
 | _,_,.cons (a:=e) (b:=p) r t,h=>by
   obtain⟨_,⟨t1,h1⟩,⟨t2,h2⟩⟩:=r
   obtain⟨a,b⟩:=p
   by_cases q:a=k
   ·subst q
    simp at h
    subst h
    exact⟨e,t2,by simp[List.find?_cons,h1,PySem.strKind,Value.isStrOf],h2⟩
   ·have q':¬k=a:=fun z=>q z.symm
    have hn:(k==a)=false:=by simpa using q'
    obtain⟨e',t',h3,h4⟩:=Yp2 (P:=P) t (by simpa [List.lookup_cons,hn]using h)
    refine⟨e',t',?_,h4⟩
    rw[List.find?_cons]
    have:(PySem.strKind P w).is k e.key=false:=by
     rw[h1]
     show(a==k)=false
     simpa using q
    rw[this]
    exact h3
theorem Yp3{P:Program}{w:World}:∀{l:List DictEntry} {kvs:List (Str × Int)},SEI w l kvs->∀e∈l,∃k,(PySem.strKind P w).is k e.key=true/\e.hash=(PySem.strKind P w).hash k
 | _,_,.nil,e,h=>by cases h
 | _,_,.cons (b:=p) r t,e,h=>by
   rcases qr h with rfl | h
   ·obtain⟨h0,⟨t1,h1⟩,_⟩:=r
    exact⟨p.1,by rw[h1];simp[PySem.strKind,Value.isStrOf],h0⟩
   ·exact Yp3 t e h
def Ygf(kvs:List (Str × Int)):D->Option D
 | .str k=>(kvs.lookup k).map D.int
 | _=>none
theorem Ytg{ke:Expr}{fk:Ro->Option D}{px:Pos}{x:Str}{kvs:List (Str × Int)}(g:GDI X.K X.w X.mg x kvs)(hg:Gl X x)(hk:MC X ke fk)(hs:NoSl ke:=by intro _ _;rfl)(hd:(x==("__debug__":Str))=false:=by decide):ME X (.Subscript (.Name x px) ke pos) (b1 fk (Ygf kvs)):=by
 obtain⟨p,o,es,ep,hm,hl,hx,hdt,hse⟩:=g
 intro pins s σ H Q I hx_
 obtain⟨ρ,d,H0,G0,G,e,sr,h⟩:=hx_
 obtain⟨dk,h1,h2⟩:=Ybm e
 refine Yxw PySem.F.slot_dict_getitem.lookup hs (Yem I hg hm ?_ hd)
 refine thn (hk pins s σ H (fun(v':V) (H':Hp)=>∃k r,v'=.str k/\kvs.lookup k=some r/\Q (.int r) H') I (tCof.at h1 sr fun v H1 G1 g1 r1 s1=>?_)) fun iv s2 q0=>?_
 ·unfold Ygf at h2
  split at h2
  ·rename_i k
   obtain⟨r,h3,rfl⟩:=qb h2
   rw[Ct]at r1
   exact⟨k,r,r1.1,h3,h _ H1 G1 g1 (by rw[Rp])⟩
  ·cases h2
 ·obtain⟨y,H2,I2,ry,k,r,rfl,h3,q⟩:=q0
  obtain⟨t,rfl⟩:=ry
  have ho:s2.heap.get? p=some o:=I2.kIn p o hl
  obtain⟨e',t',f1,f2⟩:=Yp2 (P:=X.prog) hse h3
  refine⟨⟨o,ho,hx.1⟩,wpAny_getItem_of (knd:=PySem.strKind X.prog X.w) (k:=k) (f:=fun k=>findBy (PySem.strKind X.prog X.w).is es k) (v:=.int r t') (by simp[PySem.strKind,Value.isStrOf]) ⟨o,es,ep,ho,hx,hdt,?_,fun _=>rfl⟩ ?_ ⟨.int r,H2,I2.tok _,⟨t',rfl⟩,q⟩⟩
  ·intro e'' he
   exact Yp3 hse e'' (by simpa using he)
  ·show(es.find? fun e=>(PySem.strKind X.prog X.w).is k e.key).map (·.val)=_
   rw[<-Array.find?_toList,f1,Option.map_some,f2]
def Yoh:D->D->Option D
 | .tup a,.tup b=>if a.length+b.length<=cap6 then some (.tup (a++b))else none
 | _,_=>none
def y4l(K:W.Frag):R2:=fun x y H Q=>∃a b xs ys,x=.ref a/\y=.ref b/\SqT K H a xs/\SqT K H b ys/\xs.length+ys.length<=sizeLine/\
 (xs=[]->Q (.ref b) H)/\(xs≠[]->ys=[]->Q (.ref a) H)/\(xs≠[]->ys≠[]->∀p,H p=none->Q (.ref p) (upd H p (.tup (xs++ys))))
theorem Yzg:OpR X (binaryOp .Add) (y4l X.K):=by
 intro pins s σ H x y v u Q I rx ry h
 obtain⟨a,b,xs,ys,rfl,rfl,ha,hb,hz,q0,q1,q2⟩:=h
 by_cases hx:xs=[]
 ·cases rx
  cases ry
  obtain⟨its,r1,p1,_⟩:=I.tuple ha
  obtain⟨its2,r2,p2,_⟩:=I.tuple hb
  have he:its=[]:=r1.nil_iff.mpr hx
  obtain⟨⟨cls,dd,data,sl⟩,ho,hc,n,hd⟩:=p1
  obtain⟨⟨cls2,dd2,data2,sl2⟩,ho2,hc2,n2,hd2⟩:=p2
  simp only at hc hd hc2 hd2
  subst hc hd hc2 hd2
  exact concat_meets ⟨_,ho,rfl⟩ ⟨_,ho2,rfl⟩ noFill_tuple_add seq_tuple_add PySem.F.slot_tuple_add PySem.F.entry_tuple_add (PySem.F.args_tuple_add_2 _ _)
   (tuple_addW0 a b its.toArray its2.toArray n n2 dd dd2 sl sl2 (by simp[he])) ⟨ho,ho2,⟨.ref b,H,I,rfl,q0 hx⟩⟩
 ·exact Yxz pins s σ H _ _ _ _ Q I rx ry ⟨a,b,xs,ys,rfl,rfl,ha,hb,hx,hz,q1 hx,q2 hx⟩
theorem Yzh{a b:Expr}{fa fb:Ro->Option D}(ha:MC X a fa)(hb:MC X b fb):ME X (.BinOp a .Add b pos) (b2 fa fb Yoh):=PE.imp (Yxr Yzg ha hb) fun σ H Q hx_=>by
 obtain⟨ρ,l,H0,G0,G,e,s,h⟩:=hx_
 obtain⟨dx,dy,h1,h2,h3⟩:=Yhl e
 refine tCof.at h1 s fun v H1 G1 g1 r1 s1=>tCof.at h2 s1 fun u H2 G2 g2 r2 s2=>?_
 unfold Yoh at h3
 split at h3
 ·rename_i l1 l2
  split at h3
  ·rename_i hz
   cases h3
   have r1':=r1.grow g2
   rw[Ct]at r1'
   rw[Ct]at r2
   obtain⟨p,xs,rfl,gp,rl⟩:=r1'
   obtain⟨q,zs,rfl,gq,rm⟩:=r2
   refine⟨p,q,xs,zs,rfl,rfl,.of gp.1,.of gq.1,by rw[rl.length,rm.length];exact Ydo hz,fun hx=>?_,fun _ hy=>?_,fun _ _ m hm=>h _ _ _ ((g1.trans g2).trans (.new s2.seen hm (.tup (xs++zs)))) ?_⟩
   ·subst hx
    have:l1=[]:=List.eq_nil_of_length_eq_zero (by rw[<-rl.length];rfl)
    subst this
    refine h _ _ G2 (g1.trans g2) ?_
    rw[List.nil_append,Rp]
    exact⟨q,zs,rfl,gq.2,rm⟩
   ·subst hy
    have:l2=[]:=List.eq_nil_of_length_eq_zero (by rw[<-rm.length];rfl)
    subst this
    refine h _ _ G2 (g1.trans g2) ?_
    rw[List.append_nil,Rp]
    exact⟨p,xs,rfl,gp.2,rl⟩
   ·rw[Rp]
    exact⟨m,_,rfl,Yt,(rl.append rm).mono (Gr.new s2.seen hm _).g⟩
  ·cases h3
 ·cases h3
@[simp] theorem Yq3(kvs:List (Str × Int))(k:Str):Ygf kvs (.str k)=(kvs.lookup k).map D.int:=nr0 rfl
end
end
section
set_option maxRecDepth 100000
end
section
structure ZE(X:Cx)(e:Expr)(f:Ro->Option D):Prop where
 un:ME X e f
structure ZC(X:Cx)(e:Expr)(f:Ro->Option D):Prop where
 un:MC X e f
structure ZCA(X:Cx)(es:List Expr)(f:Ro->Option (List D)):Prop where
 un:MCA X es f
structure ZF(X:Cx)(e:Expr)(f:Ro->Option (List D)):Prop where
 un:MF X e f
structure ZT(X:Cx)(e:Expr)(f:Ro->Option Bool):Prop where
 un:MT X e f
structure ZW(X:Cx)(e:Expr)(f:Ro->Option Bool):Prop where
 un:MW X e f
structure ZA(X:Cx)(es:List Expr)(f:Ro->Option (List D)):Prop where
 un:MA X es f
structure ZI(X:Cx)(tg iter:Expr)(f:Ro->Option (List D)):Prop where
 un:MI X tg iter f
structure ZS(X:Cx)(st:Stmt)(f:Ro->Option Out):Prop where
 un:MS X st f
structure ZB(X:Cx)(sts:List Stmt)(f:Ro->Option Out):Prop where
 un:MB X sts f
structure ZG(X:Cx)(tg:Expr)(gt:D->Ro->Option Ro):Prop where
 un:MG X tg gt
structure ZIfs(X:Cx)(K:W.Frag)(ifs:List Expr)(f:Ro->Option Bool):Prop where
 un:PIfs X ifs (tTof K f)
structure ZO(X:Cx)(e:Option Expr)(f:Option (Ro->Option D)):Prop where
 un:PO X e (tO X.K f)
structure ZP(X:Cx)(pos:Pos)(keys:List (Option Expr))(values:List Expr)(ks:List Str)(fs:List (Ro->Option D)):Prop where
 un:MP X pos keys values ks fs
section
variable {K:W.Frag} {X:Cx} {H0 G0 H G:Hp} {σ:L2.St} {ρ:Ro} {a b c e:Expr} {es:List Expr} {fa fb fc f:Ro->Option D} {ga:Ro->Option (List D)} {pos:Pos}
theorem Yd{e:Expr}{f:Ro->Option D}(h:ZE X e f):ZC X e f:=⟨ME.mc h.un⟩
theorem Yc(i:Nat){x:Str}(hN:X.N[i]?=some x:=by rfl)(hv:Vis X.env.scope x:=by first | exact Or.inl rfl | exact Or.inr (Or.inl rfl) | exact Or.inr (Or.inr rfl))(hd:(x==("__debug__":Str))=false:=by decide)(hcd:(x==("__classdict__":Str))=false:=by decide):ZE X (.Name x pos) (getV i):=⟨y1k i hN hv hd hcd⟩
theorem Yg(i:Nat){x:Str}(hN:X.N[i]?=some x:=by rfl)(hv:Vis X.env.scope x:=by first | exact Or.inl rfl | exact Or.inr (Or.inl rfl) | exact Or.inr (Or.inr rfl))(hd:(x==("__debug__":Str))=false:=by decide)(hcd:(x==("__classdict__":Str))=false:=by decide):ZC X (.Name x pos) (getC i):=⟨y1l i hN hv hd hcd⟩
theorem Yl{i:Int}{j}:ZE X (.Constant (.int i) j pos) (kD (.int i)):=⟨y1m ⟩
theorem Yay{k:Bool}{j}:ZE X (.Constant (.bool k) j pos) (kD (.bl k)):=⟨y31 ⟩
theorem Yc9{j}:ZE X (.Constant .none j pos) (kD .non):=⟨y1n ⟩
theorem Yao{x:Str}{j}(hx:PyData.strOk x=true:=by decide +kernel):ZE X (.Constant (.str x) j pos) (kD (.str x)):=⟨y1o hx⟩
theorem Yth(ha:ZC X a fa)(hb:ZC X b fb):ZE X (.BinOp a .Sub b pos) (b2 fa fb subI):=⟨y1p ha.un hb.un⟩
theorem Yzi(ha:ZC X a fa)(hb:ZC X b fb):ZE X (.BinOp a .Mult b pos) (b2 fa fb mulI):=⟨y1q ha.un hb.un⟩
theorem Yh8(ha:ZC X a fa)(hb:ZC X b fb):ZE X (.BinOp a .FloorDiv b pos) (b2 fa fb divI):=⟨y1r ha.un hb.un⟩
theorem Ybo(ha:ZC X a fa)(hb:ZC X b fb):ZE X (.BinOp a .Mod b pos) (b2 fa fb modI):=⟨y1s ha.un hb.un⟩
theorem Yxg(ha:ZC X a fa)(hb:ZC X b fb):ZE X (.Compare a [.GtE] [b] pos) (mB (b2 fa fb geI)):=⟨y33 ha.un hb.un⟩
theorem Yj5(ha:ZC X a fa)(hb:ZC X b fb):ZT X (.Compare a [.Lt] [b] pos) (b2 fa fb ltI):=⟨y34 ha.un hb.un⟩
theorem Yti(ha:ZC X a fa)(hb:ZC X b fb):ZT X (.Compare a [.Gt] [b] pos) (b2 fa fb gtI):=⟨y35 ha.un hb.un⟩
theorem Ydq(hu:X.A.units+64 < cLine)(ha:ZC X a fa)(hb:ZC X b fb):ZE X (.Compare a [.Eq] [b] pos) (mB (b2 fa fb (eqM false))):=⟨y36 hu ha.un hb.un⟩
theorem y21(hu:X.A.units+64 < cLine)(ha:ZC X a fa)(hb:ZC X b fb):ZE X (.Compare a [.NotEq] [b] pos) (mB (b2 fa fb (eqM true))):=⟨y37 hu ha.un hb.un⟩
theorem Yed(hu:X.A.units+64 < cLine)(ha:ZC X a fa)(hb:ZC X b fb):ZT X (.Compare a [.Eq] [b] pos) (b2 fa fb (eqM false)):=⟨y38 hu ha.un hb.un⟩
theorem Ytj(hu:X.A.units+64 < cLine)(ha:ZC X a fa)(hb:ZC X b fb):ZT X (.Compare a [.NotEq] [b] pos) (b2 fa fb (eqM true)):=⟨y39 hu ha.un hb.un⟩
theorem Yoi(hu:X.A.units+64 < cLine)(ha:ZC X a fa)(hb:ZC X b fb)(hm:behindInMarks .NotIn b=false:=by with_unfolding_all rfl):ZT X (.Compare a [.NotIn] [b] pos) (b2 fa fb (inM true)):=⟨y1t hu ha.un hb.un hm⟩
end
section
variable {K:W.Frag} {X:Cx} {a b c e tg elt iter ie ke:Expr} {es rest ifs elts:List Expr} {fa fb f fe fk:Ro->Option D} {fc fd:Ro->Option Bool} {ga gl:Ro->Option (List D)} {pos p pos' pt px:Pos} {x:Str} {id T:String} {r:List V->Hp->VK->Prop} {g:List D->Option D} {gf:List D->Option (List D)} {st:Stmt} {sts:List Stmt} {fs gs:Ro->Option Out} {scope:Scope} {N:List Str} {src:List (Option Nat)} {gt:D->Ro->Option Ro} {P:Program} {w:World} {mg:Str->Option Value} {base:Heap} {x1:Nat}
theorem Yba(ha:ZC X a fa)(he:∀whole,isTrue a X.env whole=(do let v <-whole;standAt a.pos;holding [v] (truthy v)):=by intro _;rfl):ZT X a (b1 fa truD):=⟨y1u ha.un he⟩
theorem Yv5(ha:ZT X a fc):ZW X (.BoolOp .And [a] pos) fc:=⟨Yyg ha.un⟩
theorem Yeu(ha:ZT X a fc):ZW X (.BoolOp .Or [a] pos) fc:=⟨y1v ha.un⟩
theorem Yzj(ha:ZT X a fc)(hb:ZW X (.BoolOp .And (b::rest) pos) fd):ZW X (.BoolOp .And (a::b::rest) pos) (andT fc fd):=⟨y1x ha.un hb.un⟩
theorem Ygg(ha:ZT X a fc)(hb:ZW X (.BoolOp .Or (b::rest) pos) fd):ZW X (.BoolOp .Or (a::b::rest) pos) (orT fc fd):=⟨y4a ha.un hb.un⟩
theorem Ycr(ha:ZT X a fc):ZT X (.UnaryOp .Not a pos) (notT fc):=⟨y1y ha.un⟩
theorem Yk0(ha:ZE X a fa):ZE X (.BoolOp .And [a] pos) fa:=⟨Yyi ha.un⟩
theorem Yzk(ha:ZE X a fa):ZE X (.BoolOp .Or [a] pos) fa:=⟨y1z ha.un⟩
theorem Yh9(ha:ZE X a fa)(hb:ZE X (.BoolOp .And (b::rest) pos) fb):ZE X (.BoolOp .And (a::b::rest) pos) (andV fa fb):=⟨y10 ha.un hb.un⟩
theorem y22(ha:ZE X a fa)(hb:ZE X (.BoolOp .Or (b::rest) pos) fb):ZE X (.BoolOp .Or (a::b::rest) pos) (orV fa fb):=⟨y4b ha.un hb.un⟩
theorem Ytk(ha:ZE X a fa):ZE X (.UnaryOp .Not a pos) (notV fa):=⟨y11 ha.un⟩
theorem y23(hc:ZT X c fc)(ha:ZE X a fa)(hb:ZE X b fb):ZE X (.IfExp c a b pos) (ifV fc fa fb):=⟨y4c hc.un ha.un hb.un⟩
theorem Yv6(ha:ZC X a fa)(hb:ZC X b fb):ZE X (.Compare a [.IsNot] [b] pos) (mB (b2 fa fb (isN true))):=⟨Yyk ha.un hb.un⟩
theorem Ytl(ha:ZC X a fa)(hb:ZC X b fb):ZT X (.Compare a [.Is] [b] pos) (b2 fa fb (isN false)):=⟨y12 ha.un hb.un⟩
theorem Yp4(ha:ZC X a fa)(hb:ZC X b fb):ZT X (.Compare a [.IsNot] [b] pos) (b2 fa fb (isN true)):=⟨Yyl ha.un hb.un⟩
theorem Yy(ha:ZC X a fa)(hb:ZC X b fb)(hs:Yki b:=by intro _ _;rfl):ZE X (.Subscript a b pos) (b2 fa fb ixD):=⟨Yym ha.un hb.un hs⟩
theorem Ymw{lo hi:Option Expr}{fl fh:Option (Ro->Option D)}{p2:Pos}(ha:ZC X a fa)(hl:ZO X lo fl)(hh:ZO X hi fh):ZF X (.Subscript a (.Slice lo hi none p2) pos) (slF fa fl fh):=⟨Yvd ha.un hl.un hh.un⟩
theorem y24 :ZO X none none:=⟨y4d ⟩
theorem Ytm(h:ZC X e f):ZO X (some e) (some f):=⟨y4e h.un⟩
theorem Yab{g:Ro->Option (List D)}(h:ZF X e g):ZE X e (lF g):=⟨MF.me h.un⟩
theorem Yh :ZA X [] aNil:=⟨Yw1 ⟩
theorem Yb(ha:ZE X e f)(hr:ZA X es ga)(hs:starEach (e::es) X.env=(false,eval e X.env)::starEach es X.env:=by rfl):ZA X (e::es) (Ye f ga):=⟨Yrz ha.un hr.un hs⟩
theorem Yr :ZCA X [] aNil:=⟨Yr0 ⟩
theorem Yp(ha:ZC X e f)(hr:ZCA X es ga)(hs:starEach (e::es) X.env=(false,eval e X.env)::starEach es X.env:=by rfl):ZCA X (e::es) (Ye f ga):=⟨Ypp ha.un hr.un hs⟩
theorem Ya5{x1}(h:ZA X es ga):ZE X (.Tuple es x1 pos) (dTup ga):=⟨y15 h.un⟩
theorem Yaf(h:ZA X es ga):ZF X (.List es pos) (dLst ga):=⟨y16 h.un⟩
theorem y0(hc:Yb5 X (.builtin id) r)(hr:SemC X.K r g)(hg:Gl X x)(hm:X.mg x=none)(hv:bootBuiltins x=some (.builtin id))(ha:ZCA X (e::es) ga)(hn:x≠"__name__":=by decide)(hdb:(x==("__debug__":Str))=false:=by decide)(he:starEach (e::es) X.env=(false,eval e X.env)::starEach es X.env:=by rfl)(hpl:(backTo pos (starEach es X.env)).any (·.1)=false:=by rfl):ZE X (.Call (.Name x p) (e::es) [] pos) (cC ga g):=⟨Yve hc hr hg hm hv ha.un hn hdb he hpl⟩
theorem Ymx(hc:Yb5 X (.builtin id) r)(hr:SemF X.K r gf)(hg:Gl X x)(hm:X.mg x=none)(hv:bootBuiltins x=some (.builtin id))(ha:ZCA X (e::es) ga)(hn:x≠"__name__":=by decide)(hdb:(x==("__debug__":Str))=false:=by decide)(he:starEach (e::es) X.env=(false,eval e X.env)::starEach es X.env:=by rfl)(hpl:(backTo pos (starEach es X.env)).any (·.1)=false:=by rfl):ZF X (.Call (.Name x p) (e::es) [] pos) (cF ga gf):=⟨Yvf hc hr hg hm hv ha.un hn hdb he hpl⟩
theorem Ybp(hc:Yb5 X (.type T) r)(hr:SemC X.K r g)(hg:Gl X x)(hm:X.mg x=none)(hv:bootBuiltins x=some (.type T))(ha:ZCA X (e::es) ga)(hn:x≠"__name__":=by decide)(hdb:(x==("__debug__":Str))=false:=by decide)(he:starEach (e::es) X.env=(false,eval e X.env)::starEach es X.env:=by rfl)(hpl:(backTo pos (starEach es X.env)).any (·.1)=false:=by rfl):ZE X (.Call (.Name x p) (e::es) [] pos) (cC ga g):=⟨Yr2 hc hr hg hm hv ha.un hn hdb he hpl⟩
theorem Yq4(hc:Yb5 X (.type T) r)(hr:SemF X.K r gf)(hg:Gl X x)(hm:X.mg x=none)(hv:bootBuiltins x=some (.type T))(ha:ZCA X (e::es) ga)(hn:x≠"__name__":=by decide)(hdb:(x==("__debug__":Str))=false:=by decide)(he:starEach (e::es) X.env=(false,eval e X.env)::starEach es X.env:=by rfl)(hpl:(backTo pos (starEach es X.env)).any (·.1)=false:=by rfl):ZF X (.Call (.Name x p) (e::es) [] pos) (cF ga gf):=⟨Yr3 hc hr hg hm hv ha.un hn hdb he hpl⟩
theorem y7 :ZB X [] sNil:=⟨y17 ⟩
theorem Yi(h1:ZS X st fs)(h2:ZB X sts gs):ZB X (st::sts) (sSeq fs gs):=⟨Yyp h1.un h2.un⟩
theorem Yk(h1:ZS X st fs):ZB X [st] fs:=⟨y18 h1.un⟩
theorem Yap(is:List Nat)(h:ZS X st fs):ZS X st (wF is fs):=⟨y19 is h.un⟩
theorem Yam(i:Nat){x:Str}(hN:X.N.Nodup)(he:ZE X e f)(hi:X.N[i]?=some x:=by rfl)(hx:Loc X.env.scope x:=by first | exact Or.inl rfl | exact Or.inr rfl)(hs:swapsWith e (some (.Name x pos')) pos.line X.env=pure false:=by rfl)(hf:X.fn x=true\/X.env.scope.names.lookup x=some .local:=by first | exact .inl rfl | exact .inr rfl):ZS X (.Assign [.Name x pos'] e pos) (sSet i f):=⟨y2c i hN he.un hi hx hs hf⟩
theorem Ya1(i:Nat){x:Str}(hN:X.N.Nodup)(he:ZF X e gl)(hi:X.N[i]?=some x:=by rfl)(hx:Loc X.env.scope x:=by first | exact Or.inl rfl | exact Or.inr rfl)(hs:swapsWith e (some (.Name x pos')) pos.line X.env=pure false:=by rfl)(hf:X.fn x=true\/X.env.scope.names.lookup x=some .local:=by first | exact .inl rfl | exact .inr rfl):ZS X (.Assign [.Name x pos'] e pos) (sOwn i gl):=⟨y2d i hN he.un hi hx hs hf⟩
theorem Yo(he:ZE X e f):ZS X (.Return (some e) pos) (sRet f):=⟨y2e he.un⟩
theorem Yag{c:Expr}{a b:List Stmt}{fc:Ro->Option Bool}(hc:ZT X c fc)(ha:ZB X a fs)(hb:ZB X b gs):ZS X (.If c a b pos) (sIf fc fs gs):=⟨y4f hc.un ha.un hb.un⟩
theorem Yj6(i:Nat){x:Str}{p2 apos cpos:Pos}(he:ZE X e f)(hN:X.N[i]?=some x:=by rfl)(hv:Vis X.env.scope x:=by first | exact Or.inl rfl | exact Or.inr (Or.inl rfl) | exact Or.inr (Or.inr rfl))(hd:(x==("__debug__":Str))=false:=by decide)(hcd:(x==("__classdict__":Str))=false:=by decide)(hse:swapsWith (.Call (.Attribute (.Name x p2) "append" apos) [e] [] cpos) none pos.line X.env=pure false:=by rfl)(hs:starEach [e] X.env=[(false,eval e X.env)]:=by rfl)(hfew:((backTo cpos (starEach [e] X.env)).all (fun x=>!x.1)&&(backToKw cpos (keywordEach [] X.env)).all (fun x=>x.1.isSome)&&decide ([e].length+([]:List Keyword).length+(if ([]:List Keyword).isEmpty then 0 else 1) < 30))=true:=by rfl)(hline:(apos.endLine==cpos.line)=true:=by rfl)(hbase:attributeBase (.Name x p2) "append" X.env (eval (.Name x p2) X.env)=eval (.Name x p2) X.env:=by rfl):ZS X (.Expr (.Call (.Attribute (.Name x p2) "append" apos) [e] [] cpos) pos) (sMut i f appD):=⟨Yr5 i he.un hN hv hd hcd hse hs hfew hline hbase⟩
theorem Yac{l:Expr}(hl:ZE X l f):ZI X tg l (b1 f Ym):=⟨y2g hl.un⟩
theorem Yc0{a:Expr}{ga:Ro->Option (List D)}{p:Pos}(hg:Gl X "range")(hm:X.mg "range"=none)(ha:ZA X [a] ga)(hs:starEach [a] X.env=[(false,eval a X.env)]:=by rfl):ZI X tg (.Call (.Name "range" p) [a] [] pos) (cF ga rng1):=⟨Yr6 hg hm ha.un hs⟩
theorem Yu(i:Nat){x:Str}(hN:X.N.Nodup)(hi:X.N[i]?=some x:=by rfl)(hx:Loc X.env.scope x:=by first | exact Or.inl rfl | exact Or.inr rfl)(hf:X.fn x=true\/X.env.scope.names.lookup x=some .local:=by first | exact .inl rfl | exact .inr rfl):ZG X (.Name x pos) (gSet i):=⟨Yyq i hN hi hx hf⟩
theorem Yp5(i j:Nat){x y:Str}{px py:Pos}{k:Nat}(hc:X.calm=true)(hN:X.N.Nodup)(hi:X.N[i]?=some x:=by rfl)(hj:X.N[j]?=some y:=by rfl)(hx:Loc X.env.scope x:=by first | exact Or.inl rfl | exact Or.inr rfl)(hy:Loc X.env.scope y:=by first | exact Or.inl rfl | exact Or.inr rfl)(hf:X.fn x=true\/X.env.scope.names.lookup x=some .local:=by first | exact .inl rfl | exact .inr rfl)(hf2:X.fn y=true\/X.env.scope.names.lookup y=some .local:=by first | exact .inl rfl | exact .inr rfl):ZG X (.Tuple [.Name x px,.Name y py] k pos) (Ykr i j):=⟨Yyr i j hc hN hi hj hx hy hf hf2⟩
theorem Yda{iter:Expr}{body:List Stmt}{gt:D->Ro->Option Ro}(hp:PassesOwn (model X.prog X.w) X.A X.env X.xe)(hc:X.calm=true)(hi:ZI X tg iter gl)(hg:ZG X tg gt)(hb:ZB X body fs)(hs:∀x,foldedSetIterable iter X.env x=pure x:=by intro _;rfl):ZS X (.For tg iter body [] pos) (sFor gl gt fs):=⟨y2i hp hc hi.un hg.un hb.un hs⟩
theorem Yaq :ZIfs X X.K [] tY:=⟨y2j ⟩
theorem Yaj(S:CompSc X.N X.env.scope N src scope)(hc:X.calm=true)(hit:ZI X tg iter gl)(hg:∀cl C fp s H,ZG (Yak X scope N cl C fp s H) tg gt)(hi:∀cl C fp s H,ZIfs (Yak X scope N cl C fp s H) X.K ifs fc)(he:∀cl C fp s H,ZE (Yak X scope N cl C fp s H) elt fe)(hle:∀ρ d ρ1,gt d (capR src ρ)=some ρ1->Le (capR src ρ) ρ1)(hs:∀x,foldedSetIterable iter X.env x=pure x:=by intro _;rfl):ZF X (.ListComp elt [⟨tg,iter,ifs,0⟩] scope pos) (Ya0 gl src gt fc fe):=⟨Yyt S hc hit.un (fun cl C fp s H=>(hg cl C fp s H).un) (fun cl C fp s H=>(hi cl C fp s H).un) (fun cl C fp s H=>(he cl C fp s H).un) hle hs⟩
theorem Ydb(i:Nat){y:Str}{py spos:Pos}(hN:X.N.Nodup)(S:CompSc X.N X.env.scope N src scope)(hc:X.calm=true)(hit:ZI X tg iter gl)(hg:∀cl C fp s H,ZG (Yak X scope N cl C fp s H) tg gt)(hi:∀cl C fp s H,ZIfs (Yak X scope N cl C fp s H) X.K ifs fc)(he:∀cl C fp s H,ZE (Yak X scope N cl C fp s H) elt fe)(hle:∀ρ d ρ1,gt d (capR src ρ)=some ρ1->Le (capR src ρ) ρ1)(hsw:swapsWith (.ListComp elt [⟨tg,iter,ifs,0⟩] scope pos) (some (.Name y py)) spos.line X.env=pure true:=by rfl)(hy:X.N[i]?=some y:=by rfl)(hx:Loc X.env.scope y:=by first | exact Or.inl rfl | exact Or.inr rfl)(hf:X.fn y=true\/X.env.scope.names.lookup y=some .local:=by first | exact .inl rfl | exact .inr rfl)(hs:∀x,foldedSetIterable iter X.env x=pure x:=by intro _;rfl):ZS X (.Assign [.Name y py] (.ListComp elt [⟨tg,iter,ifs,0⟩] scope pos) spos) (sOwn i (Ya0 gl src gt fc fe)):=⟨Yyu i hN S hc hit.un (fun cl C fp s H=>(hg cl C fp s H).un) (fun cl C fp s H=>(hi cl C fp s H).un) (fun cl C fp s H=>(he cl C fp s H).un) hle hsw hy hx hf hs⟩
theorem Yj7{x qual:Str}{st:Stmt}{f:Addr}{fd:FuncData}{N ps:List Str}{k n m:Nat}{fb:Ro->Option Out}(F:Fun K x qual st f fd)(S:FnScope N ps (defScope st))(hn:N.length=n)(hm:ps.length=m)(hb:∀(cdv:Value) (A:Around) (outer:List Env) (s:Shared) (H:Hp) (E:XK),Room k (A.deeper (envOfC qual (defScope st) s.heap.objs.size f cdv))->ZB (cxOf CX0 P w K mg base N qual (defScope st) f cdv A outer s H E).nox (defBody st) fb):FnOk P w K mg base CX0 (k+1) f fd ps (spOf K m (runB m n fb)):=Yr8 F S hn hm (fun cdv A outer s H E hr=>(hb cdv A outer s H E hr).un)
theorem Yj{j k n:Nat}{x:Str}{p:Pos}{ps:List Str}{fn:List D->Option D}(c:Okf X.prog X.w X.K X.mg X.base j n x ps fn)(hr:Room k X.A)(hg:Gl X x)(ha:ZA X (e::es) ga)(hl:∀ρ l,ga ρ=some l->l.length=n)(hj:j<=k:=by first | exact qt _ | lia)(hdb:(x==("__debug__":Str))=false:=by decide)(he:starEach (e::es) X.env=(false,eval e X.env)::starEach es X.env:=by rfl)(hpl:(backTo pos (starEach es X.env)).any (·.1)=false:=by rfl):ZE X (.Call (.Name x p) (e::es) [] pos) (cC ga fn):=⟨Yvk c hr hg ha.un hl hj hdb he hpl⟩
theorem Yfv(ha:ZC X a fa)(hb:ZC X b fb):ZE X (.BinOp a .Add b pos) (b2 fa fb addI):=⟨y2l ha.un hb.un⟩
theorem Yoj(ha:ZC X a fa):ZE X (.UnaryOp .USub a pos) (b1 fa negI):=⟨y2m ha.un⟩
theorem Yia(ha:ZC X a fa)(hb:ZC X b fb):ZF X (.BinOp a .Add b pos) (b2 fa fb catD):=⟨y2n ha.un hb.un⟩
theorem Yev{T:String}{tn:Str}{p p2:Pos}(ha:ZC X a fa)(hg:Gl X "isinstance")(hg2:Gl X tn)(hm:X.mg "isinstance"=none)(hm2:X.mg tn=none)(hv2:bootBuiltins tn=some (.type T))(hk:Kit T)(hv:bootBuiltins "isinstance"=some (.builtin "isinstance"):=by decide +kernel)(hn2:tn≠"__name__":=by decide)(hd2:(tn==("__debug__":Str))=false:=by decide)(hs:starEach [a,.Name tn p2] X.env=(false,eval a X.env)::starEach [.Name tn p2] X.env:=by rfl)(hs2:starEach [.Name tn p2] X.env=(false,eval (.Name tn p2) X.env)::starEach [] X.env:=by rfl)(hpl:(backTo pos (starEach [.Name tn p2] X.env)).any (·.1)=false:=by rfl):ZE X (.Call (.Name "isinstance" p) [a,.Name tn p2] [] pos) (mB (b1 fa (isiD T))):=⟨y2o ha.un hg hg2 hm hm2 hv2 hk hv hn2 hd2 hs hs2 hpl⟩
theorem Yfe{l:Expr}{f:Ro->Option D}{p:Pos}(hg:Gl X "enumerate")(hm:X.mg "enumerate"=none)(hl:ZE X l f)(hs:starEach [l] X.env=[(false,eval l X.env)]:=by rfl):ZI X (.Tuple elts x1 pt) (.Call (.Name "enumerate" p) [l] [] pos) (b1 f Yse):=⟨Ymf hg hm hl.un hs⟩
theorem Yq5(i:Nat){x:Str}{p2 apos cpos:Pos}(hb:ZE X ie fb)(he:ZE X e f)(hN:X.N[i]?=some x:=by rfl)(hv:Vis X.env.scope x:=by first | exact Or.inl rfl | exact Or.inr (Or.inl rfl) | exact Or.inr (Or.inr rfl))(hd:(x==("__debug__":Str))=false:=by decide)(hcd:(x==("__classdict__":Str))=false:=by decide)(hse:swapsWith (.Call (.Attribute (.Name x p2) "insert" apos) [ie,e] [] cpos) none pos.line X.env=pure false:=by rfl)(hs:starEach [ie,e] X.env=(false,eval ie X.env)::starEach [e] X.env:=by rfl)(hs2:starEach [e] X.env=[(false,eval e X.env)]:=by rfl)(hfew:((backTo cpos (starEach [ie,e] X.env)).all (fun x=>!x.1)&&(backToKw cpos (keywordEach [] X.env)).all (fun x=>x.1.isSome)&&decide ([ie,e].length+([]:List Keyword).length+(if ([]:List Keyword).isEmpty then 0 else 1) < 30))=true:=by rfl)(hline:(apos.endLine==cpos.line)=true:=by rfl)(hbase:attributeBase (.Name x p2) "insert" X.env (eval (.Name x p2) X.env)=eval (.Name x p2) X.env:=by rfl)(hpl:(backTo cpos (starEach [e] X.env)).any (·.1)=false:=by rfl):ZS X (.Expr (.Call (.Attribute (.Name x p2) "insert" apos) [ie,e] [] cpos) pos) (Ysd i fb f insD):=⟨Ysg i hb.un he.un hN hv hd hcd hse hs hs2 hfew hline hbase hpl⟩
theorem Yfw(i:Nat){x:Str}{p2 apos cpos:Pos}(he:ZE X e f)(hN:X.N[i]?=some x:=by rfl)(hv:Vis X.env.scope x:=by first | exact Or.inl rfl | exact Or.inr (Or.inl rfl) | exact Or.inr (Or.inr rfl))(hd:(x==("__debug__":Str))=false:=by decide)(hcd:(x==("__classdict__":Str))=false:=by decide)(hse:swapsWith (.Call (.Attribute (.Name x p2) "extend" apos) [e] [] cpos) none pos.line X.env=pure false:=by rfl)(hs:starEach [e] X.env=[(false,eval e X.env)]:=by rfl)(hfew:((backTo cpos (starEach [e] X.env)).all (fun x=>!x.1)&&(backToKw cpos (keywordEach [] X.env)).all (fun x=>x.1.isSome)&&decide ([e].length+([]:List Keyword).length+(if ([]:List Keyword).isEmpty then 0 else 1) < 30))=true:=by rfl)(hline:(apos.endLine==cpos.line)=true:=by rfl)(hbase:attributeBase (.Name x p2) "extend" X.env (eval (.Name x p2) X.env)=eval (.Name x p2) X.env:=by rfl):ZS X (.Expr (.Call (.Attribute (.Name x p2) "extend" apos) [e] [] cpos) pos) (sMut i f extD):=⟨Ysh i he.un hN hv hd hcd hse hs hfew hline hbase⟩
theorem Yg4{i:Int}(g:GI X.mg x i)(hg:Gl X x)(hd:(x==("__debug__":Str))=false:=by decide):ZE X (.Name x px) (kD (.int i)):=⟨Yy0 g hg hd⟩
end
section
variable {X:Cx} {a b c e:Expr} {fa fb fc f:Ro->Option D} {pos px:Pos} {st:Stmt} {K:W.Frag} {x:Str} {ks:List Str}
theorem Ymy{op op':CmpOp}{r r':R2}{g g':D->D->Option Bool}(ho:OpR X (compareOp op) r)(hr:Ye3 X.K r g)(ho':OpR X (compareOp op') r')(hr':Ye3 X.K r' g')(ha:ZC X a fa)(hb:ZC X b fb)(hc:ZC X c fc)(hm:lastMarks [op,op'] [b,c]=false:=by with_unfolding_all rfl):ZE X (.Compare a [op,op'] [b,c] pos) (mB (ch3 fa fb fc g g')):=⟨Yvq ho hr ho' hr' ha.un hb.un hc.un hm⟩
theorem Ybf :ZS X st nS:=⟨Yvr ⟩
theorem Ytn(ha:ZC X a fa)(hb:ZC X b fb):ZT X (.Compare a [.Is] [b] pos) (b2 fa fb (isB false)):=⟨y2t ha.un hb.un⟩
theorem Yp6(ha:ZC X a fa)(hb:ZC X b fb):ZT X (.Compare a [.IsNot] [b] pos) (b2 fa fb (isB true)):=⟨Yy3 ha.un hb.un⟩
theorem Yv7(hu:X.A.units+64 < cLine)(g:GT X.K X.mg x ks)(hg:Gl X x)(ha:ZC X a fa)(hm:behindInMarks .NotIn (.Name x px)=false:=by with_unfolding_all rfl)(hd:(x==("__debug__":Str))=false:=by decide):ZT X (.Compare a [.NotIn] [.Name x px] pos) (b1 fa (inG true ks)):=⟨Yy6 hu g hg ha.un hm hd⟩
end
theorem Yff{X:Cx}{c:Expr}{f:Ro->Option Bool}(h:ZT X c f):ZIfs X X.K [c] f:=⟨Yx5 h.un⟩
theorem Ygh{X:Cx}{e:Expr}{f:Ro->Option Bool}(h:ZW X e f):ZT X e f:=⟨PW.pt h.un⟩
end
section
section
variable {X:Cx} {e:Expr} {ga:Ro->Option (List D)} {p p2 pos pos2:Pos} {f:Ro->Option D}
theorem Yj8(hc:X.calm=true)(hu:X.A.units+64 < cLine)(hm:X.mg "len"=none)(hm2:X.mg "set"=none)(hg:Gl X "len")(hg2:Gl X "set")(ha:ZCA X [e] ga)(hs:starEach [e] X.env=[(false,eval e X.env)]:=by rfl)(he:starEach [.Call (.Name "set" p2) [e] [] pos2] X.env=[(false,eval (.Call (.Name "set" p2) [e] [] pos2) X.env)]:=by rfl)(hpl:(backTo pos2 (starEach [] X.env)).any (·.1)=false:=by rfl)(hpl2:(backTo pos (starEach [] X.env)).any (·.1)=false:=by rfl):ZE X (.Call (.Name "len" p) [.Call (.Name "set" p2) [e] [] pos2] [] pos) (cC ga Yh4):=⟨Ys0 hc hu hm hm2 hg hg2 ha.un hs he hpl hpl2⟩
theorem Ymz(hc:X.calm=true)(hu:X.A.units+64 < cLine)(hg:Gl X "sorted")(hm:X.mg "sorted"=none)(hg2:Gl X "set")(hm2:X.mg "set"=none)(ha:ZC X e f)(hs:starEach [e] X.env=[(false,eval e X.env)]:=by rfl)(he:starEach [.Call (.Name "set" p2) [e] [] pos2] X.env=[(false,eval (.Call (.Name "set" p2) [e] [] pos2) X.env)]:=by rfl)(hpl:(backTo pos2 (starEach [] X.env)).any (·.1)=false:=by rfl)(hpl2:(backTo pos (starEach [] X.env)).any (·.1)=false:=by rfl):ZF X (.Call (.Name "sorted" p) [.Call (.Name "set" p2) [e] [] pos2] [] pos) (Yd3 f):=⟨Yog hc hu hg hm hg2 hm2 ha.un hs he hpl hpl2⟩
theorem Yv8(he:ZE X e f)(hse:swapsWith e none pos.line X.env=pure false:=by rfl):ZS X (.Expr e pos) (sExp f):=⟨Yze he.un hse⟩
theorem Yk1{a:Expr}{ga:Ro->Option (List D)}(hc:X.calm=true)(hg:Gl X "list")(hm:X.mg "list"=none)(hg2:Gl X "range")(hm2:X.mg "range"=none)(ha:ZA X [a] ga)(hs:starEach [a] X.env=[(false,eval a X.env)]:=by rfl)(he:starEach [.Call (.Name "range" p2) [a] [] pos2] X.env=[(false,eval (.Call (.Name "range" p2) [a] [] pos2) X.env)]:=by rfl):ZF X (.Call (.Name "list" p) [.Call (.Name "range" p2) [a] [] pos2] [] pos) (cF ga rng1):=⟨Ymv hc hg hm hg2 hm2 ha.un hs he⟩
theorem Yq6{ke:Expr}{fk:Ro->Option D}{px:Pos}{x:Str}{kvs:List (Str × Int)}(g:GDI X.K X.w X.mg x kvs)(hg:Gl X x)(hk:ZC X ke fk)(hs:NoSl ke:=by intro _ _;rfl)(hd:(x==("__debug__":Str))=false:=by decide):ZE X (.Subscript (.Name x px) ke pos) (b1 fk (Ygf kvs)):=⟨Ytg g hg hk.un hs hd⟩
theorem Yg5{a b:Expr}{fa fb:Ro->Option D}(ha:ZC X a fa)(hb:ZC X b fb):ZE X (.BinOp a .Add b pos) (b2 fa fb Yoh):=⟨Yzh ha.un hb.un⟩
end
end
section
variable {K:W.Frag}
def y4m(K:W.Frag)(j:Nat)(x:Option (Option V))(H0 G0:Hp)(F:Ends):Out->Prop
 | .nx ρ'=>∀σ' H' G',SR K H0 G0 σ' H' G' ρ'->σ'[j]?=x->F.nx σ' H'
 | .rt _=>False
 | .bk ρ'=>∀σ' H' G',SR K H0 G0 σ' H' G' ρ'->σ'[j]?=x->F.bk σ' H'
 | .ct ρ'=>∀σ' H' G',SR K H0 G0 σ' H' G' ρ'->σ'[j]?=x->F.ct σ' H'
def sOfK(K:W.Frag)(j:Nat)(f:Ro->Option Out):TS:=fun F σ H=>∃ρ out H0 G0 G,f ρ=some out/\SR K H0 G0 σ H G ρ/\y4m K j σ[j]? H0 G0 F out
structure KS(j:Nat)(X:Cx)(st:Stmt)(f:Ro->Option Out):Prop where
 un:PS X st (sOfK X.K j f)
structure KB(j:Nat)(X:Cx)(sts:List Stmt)(f:Ro->Option Out):Prop where
 un:PSs X sts (sOfK X.K j f)
def sOfR(K:W.Frag)(j r:Nat)(fb:Ro->Option Out):TS:=fun F σ H=>∃ρ ρ' l d H0 G0 G,fb ρ=some (.nx ρ')/\getO j ρ'=some l/\getV r (frz [r] ρ')=some d/\SR K H0 G0 σ H G ρ/\
 ∀v σ' H' G',SR K H0 G0 σ' H' G' (frz [r] ρ')->σ'[j]?=σ[j]?->Rp K G' d v->F.rt v H'
structure KR(j r:Nat)(X:Cx)(sts:List Stmt)(f:Ro->Option Out):Prop where
 un:PSs X sts (sOfR X.K j r f)
def sOfL(K:W.Frag)(gl:Ro->Option (List D))(fb:Ro->Option Out):TS:=fun F σ H=>∃ρ ρ' l H0 G0 G,fb ρ=some (.nx ρ')/\gl ρ'=some l/\SR K H0 G0 σ H G ρ/\
 ∀p xs H' G',Gr H0 G0 H' G'->H0 p=none->G' p=none->H' p=some (.lst xs)->RpL K G' l xs->F.rt (.ref p) H'
structure KL(gl:Ro->Option (List D))(X:Cx)(sts:List Stmt)(f:Ro->Option Out):Prop where
 un:PSs X sts (sOfL X.K gl f)
theorem len1{us:List Value}(h:us.length=1):∃a0,us=[a0]:=List.length_eq_one_iff.mp h
theorem len2{us:List Value}(h:us.length=2):∃a0 a1,us=[a0,a1]:=by
 cases us with
 | nil=>cases h
 | cons a us=>
   obtain⟨b0,rfl⟩:=len1 (Nat.succ.inj h)
   exact⟨a,b0,rfl⟩
theorem len3{us:List Value}(h:us.length=3):∃a0 a1 a2,us=[a0,a1,a2]:=by
 cases us with
 | nil=>cases h
 | cons a us=>
   obtain⟨b0,b1,rfl⟩:=len2 (Nat.succ.inj h)
   exact⟨a,b0,b1,rfl⟩
theorem len4{us:List Value}(h:us.length=4):∃a0 a1 a2 a3,us=[a0,a1,a2,a3]:=by
 cases us with
 | nil=>cases h
 | cons a us=>
   obtain⟨b0,b1,b2,rfl⟩:=len3 (Nat.succ.inj h)
   exact⟨a,b0,b1,b2,rfl⟩
theorem len5{us:List Value}(h:us.length=5):∃a0 a1 a2 a3 a4,us=[a0,a1,a2,a3,a4]:=by
 cases us with
 | nil=>cases h
 | cons a us=>
   obtain⟨b0,b1,b2,b3,rfl⟩:=len4 (Nat.succ.inj h)
   exact⟨a,b0,b1,b2,b3,rfl⟩
theorem len6{us:List Value}(h:us.length=6):∃a0 a1 a2 a3 a4 a5,us=[a0,a1,a2,a3,a4,a5]:=by
 cases us with
 | nil=>cases h
 | cons a us=>
   obtain⟨b0,b1,b2,b3,b4,rfl⟩:=len5 (Nat.succ.inj h)
   exact⟨a,b0,b1,b2,b3,b4,rfl⟩
theorem len7{us:List Value}(h:us.length=7):∃a0 a1 a2 a3 a4 a5 a6,us=[a0,a1,a2,a3,a4,a5,a6]:=by
 cases us with
 | nil=>cases h
 | cons a us=>
   obtain⟨b0,b1,b2,b3,b4,b5,rfl⟩:=len6 (Nat.succ.inj h)
   exact⟨a,b0,b1,b2,b3,b4,b5,rfl⟩
end
end M
namespace M
open PySem L2
theorem nr{α:Sort _}{a b:α}(h:a=b):a=b:=h
section
variable {ρ:Ro}
@[simp] theorem ap_b2{α:Type}(fa fb:Ro->Option D)(g:D->D->Option α):b2 fa fb g ρ=(fa ρ).bind fun x=>(fb ρ).bind fun y=>g x y:=nr rfl
@[simp] theorem Yv9{α:Type}(fa:Ro->Option D)(g:D->Option α):b1 fa g ρ=(fa ρ).bind g:=nr rfl
@[simp] theorem ap_kD(d:D):kD d ρ=some d:=nr rfl
@[simp] theorem ap_mB(f:Ro->Option Bool):mB f ρ=(f ρ).map D.bl:=nr rfl
@[simp] theorem ap_andT(f g:Ro->Option Bool):andT f g ρ=(f ρ).bind fun k=>if k=true then g ρ else some false:=nr rfl
@[simp] theorem ap_orT(f g:Ro->Option Bool):orT f g ρ=(f ρ).bind fun k=>if k=true then some true else g ρ:=nr rfl
@[simp] theorem ap_notT(f:Ro->Option Bool):notT f ρ=(f ρ).map (!·):=nr rfl
@[simp] theorem ap_andV(f g:Ro->Option D):andV f g ρ=((f ρ).bind blD).bind fun k=>if k=true then g ρ else some (.bl false):=nr rfl
@[simp] theorem ap_orV(f g:Ro->Option D):orV f g ρ=((f ρ).bind blD).bind fun k=>if k=true then some (.bl true)else g ρ:=nr rfl
@[simp] theorem ap_notV(f:Ro->Option D):notV f ρ=((f ρ).bind blD).map fun k=>.bl (!k):=nr rfl
@[simp] theorem ap_lF(f:Ro->Option (List D)):lF f ρ=(f ρ).map D.lst:=nr rfl
@[simp] theorem ap_aNil:aNil ρ=some []:=nr rfl
@[simp] theorem ap_aCons(f:Ro->Option D)(g:Ro->Option (List D)):Ye f g ρ=(f ρ).bind fun d=>(g ρ).map (d::·):=nr rfl
@[simp] theorem ap_dTup(f:Ro->Option (List D)):dTup f ρ=(f ρ).bind fun l=>if l.length<=cap6 then some (.tup l)else none:=nr rfl
@[simp] theorem ap_dLst(f:Ro->Option (List D)):dLst f ρ=(f ρ).bind fun l=>if l.length<=cap6 then some l else none:=nr rfl
@[simp] theorem Yto(f:Ro->Option (List D))(g:List D->Option D):cC f g ρ=(f ρ).bind g:=nr rfl
@[simp] theorem ap_cF(f:Ro->Option (List D))(g:List D->Option (List D)):cF f g ρ=(f ρ).bind g:=nr rfl
@[simp] theorem ap_slF(f:Ro->Option D)(lo hi:Option (Ro->Option D)):slF f lo hi ρ=((f ρ).bind lstD).bind fun l=>(optI lo ρ).bind fun i=>(optI hi ρ).bind fun j=>some (cutD l i j):=nr rfl
@[simp] theorem ap_optN:optI none ρ=some none:=nr rfl
@[simp] theorem ap_optS(f:Ro->Option D):optI (some f) ρ=((f ρ).bind intD).map some:=nr rfl
@[simp] theorem ap_sNil:sNil ρ=some (.nx ρ):=nr rfl
@[simp] theorem ap_sSet(i:Nat)(f:Ro->Option D):sSet i f ρ=(f ρ).map fun d=>.nx (ρ.set i (some (.sh d))):=nr rfl
@[simp] theorem Yzl(i:Nat)(f:Ro->Option (List D)):sOwn i f ρ=(f ρ).map fun l=>.nx (ρ.set i (some (.ow l))):=nr rfl
@[simp] theorem Yzm(f:Ro->Option D):sRet f ρ=(f ρ).map .rt:=nr rfl
@[simp] theorem ap_sIf(c:Ro->Option Bool)(f g:Ro->Option Out):sIf c f g ρ=(c ρ).bind fun k=>if k=true then f ρ else g ρ:=nr rfl
@[simp] theorem ap_sMut(i:Nat)(f:Ro->Option D)(g:List D->D->Option (List D)):sMut i f g ρ=(getO i ρ).bind fun l=>(f ρ).bind fun d=>(g l d).map fun l'=>.nx (ρ.set i (some (.ow l'))):=nr rfl
@[simp] theorem Yok(gl:Ro->Option (List D))(gt:D->Ro->Option Ro)(fb:Ro->Option Out):sFor gl gt fb ρ=(gl ρ).bind fun ds=>forM gt fb ds ρ:=nr rfl
@[simp] theorem Ywa(gl:Ro->Option (List D))(src:List (Option Nat))(gt:D->Ro->Option Ro)(fc:Ro->Option Bool)(fe:Ro->Option D):Ya0 gl src gt fc fe ρ=(gl ρ).bind fun ds=>Ygm gt fc fe (capR src ρ) ds:=nr rfl
@[simp] theorem y25(is:List Nat)(f:Ro->Option Out):wF is f ρ=f (frz is ρ):=nr rfl
def Yzn(g:Ro->Option Out):Out->Option Out
 | .nx ρ'=>g ρ'
 | o=>some o
@[simp] theorem Yby(g:Ro->Option Out)(ρ':Ro):Yzn g (.nx ρ')=g ρ':=nr rfl
@[simp] theorem thenS_rt(g:Ro->Option Out)(d:D):Yzn g (.rt d)=some (.rt d):=nr rfl
@[simp] theorem Yad(f g:Ro->Option Out):sSeq f g ρ=(f ρ).bind (Yzn g):=nr rfl
def endB:Out->Option D
 | .rt d=>some d
 | .nx _=>some .non
 | _=>none
@[simp] theorem endB_rt(d:D):endB (.rt d)=some d:=nr rfl
@[simp] theorem endB_nx(ρ:Ro):endB (.nx ρ)=some .non:=nr rfl
theorem Yan{k n:Nat}{fb:Ro->Option Out}{ds:List D}(h:ds.length=k):runB k n fb ds=(fb (Yq n ds)).bind endB:=by
 unfold runB
 rw[if_pos h]
 rfl
@[simp] theorem ap_ch3(fa fb fc:Ro->Option D)(g g':D->D->Option Bool):ch3 fa fb fc g g' ρ=(fa ρ).bind fun x=>(fb ρ).bind fun y=>(g x y).bind fun k=>if k=true then (fc ρ).bind fun z=>g' y z else some false:=nr rfl
@[simp] theorem frz_nil:frz [] ρ=ρ:=nr rfl
@[simp] theorem frz_cons(i:Nat)(is:List Nat):frz (i::is) ρ=frz is (frz1 i ρ):=nr rfl
end
@[simp] theorem add_int'(i j:Int):addI (.int i) (.int j)=some (.int (i+j)):=nr rfl
@[simp] theorem sub_int'(i j:Int):subI (.int i) (.int j)=some (.int (i - j)):=nr rfl
theorem Ywb{i j:Int}(h:-(2 ^ 64) < i/\i < 2 ^ 64):mulI (.int i) (.int j)=some (.int (i * j)):=by
 simp only[mulI,i2]
 rw[if_pos]
 simp only[Bool.or_eq_true,Qf,decide_eq_true_eq]
 exact .inl h
@[simp] theorem div_int'{i j:Int}(h:0 < j)(h':j < 1073741824):divI (.int i) (.int j)=some (.int (i / j)):=by
 simp only[divI,i2]
 rw[if_pos]
 simp only[Qf,decide_eq_true_eq]
 exact⟨h,h'⟩
@[simp] theorem mod_int''{i j:Int}(h:0 < j):modI (.int i) (.int j)=some (.int (i % j)):=by
 simp only[modI,i2]
 rw[if_pos]
 simp only[decide_eq_true_eq]
 exact h
@[simp] theorem lt_int'(i j:Int):ltI (.int i) (.int j)=some (decide (i < j)):=nr rfl
@[simp] theorem le_int'(i j:Int):leI (.int i) (.int j)=some (decide (i<=j)):=nr rfl
@[simp] theorem gt_int'(i j:Int):gtI (.int i) (.int j)=some (decide (j < i)):=nr rfl
@[simp] theorem ge_int'(i j:Int):geI (.int i) (.int j)=some (decide (j<=i)):=nr rfl
@[simp] theorem blD_bl(b:Bool):blD (.bl b)=some b:=nr rfl
@[simp] theorem truD_bl(b:Bool):truD (.bl b)=some b:=nr rfl
@[simp] theorem itemsOf_tup(l:List D):Ym (.tup l)=some l:=nr rfl
@[simp] theorem Ycd(l:List D):Ym (.lst l)=some l:=nr rfl
@[simp] theorem itemsOf_scr(ns:List Int):Ym (.scr ns)=some (ns.map D.int):=nr rfl
@[simp] theorem lenC_one(c:D):lenC [c]=(Ym c).map fun l=>.int l.length:=nr rfl
@[simp] theorem tupC_one(c:D):tupC [c]=(Ym c).map D.tup:=nr rfl
@[simp] theorem listF_one(c:D):Yyo [c]=Ym c:=nr rfl
@[simp] theorem ixD_int(c:D)(i:Int):ixD c (.int i)=(Ym c).bind fun l=>atI l i:=nr rfl
@[simp] theorem lstD_lst(l:List D):lstD (.lst l)=some l:=nr rfl
@[simp] theorem lstD_scr(ns:List Int):lstD (.scr ns)=some (ns.map D.int):=nr rfl
@[simp] theorem intD_int(i:Int):intD (.int i)=some i:=nr rfl
@[simp] theorem negI_int(i:Int):negI (.int i)=some (.int (-i)):=nr rfl
@[simp] theorem Yzo(i j:Int):eqD (.int i) (.int j)=(i==j):=by simp[eqD,toPy,PyData.eqv]
@[simp] theorem Yxh(i j:Bool):eqD (.bl i) (.bl j)=(i==j):=by simp[eqD,toPy,PyData.eqv]
@[simp] theorem Yzp(i j:Str):eqD (.str i) (.str j)=(i==j):=by simp[eqD,toPy,PyData.eqv]
@[simp] theorem Yzq(l m:List D):eqD (.tup l) (.tup m)=eqL l m:=by simp[eqD,eqL,toPy,PyData.eqv]
@[simp] theorem eqL_nil:eqL [] []=true:=by simp[eqL,Yca,PyData.eqvAll]
@[simp] theorem Ywc(a b:D)(l m:List D):eqL (a::l) (b::m)=(eqD a b&&eqL l m):=by simp[eqL,eqD,Yca,PyData.eqvAll]
@[simp] theorem eqL_nc(b:D)(m:List D):eqL [] (b::m)=false:=by simp[eqL,Yca,PyData.eqvAll]
@[simp] theorem eqL_cn(b:D)(m:List D):eqL (b::m) []=false:=by simp[eqL,Yca,PyData.eqvAll]
@[simp] theorem dep_int(i:Int):dep (.int i)=0:=by simp[dep]
@[simp] theorem dep_bl(i:Bool):dep (.bl i)=0:=by simp[dep]
@[simp] theorem dep_str(i:Str):dep (.str i)=0:=by simp[dep]
@[simp] theorem Yzr(l:List D):dep (.tup l)=depL l+1:=by simp[dep]
@[simp] theorem depL_nil:depL []=0:=by simp[depL]
@[simp] theorem Ytp(d:D)(l:List D):depL (d::l)=max (dep d) (depL l):=by simp[depL]
theorem Yp7{neg:Bool}{d e:D}(h:dep d<=60)(h':dep e<=60):eqM neg d e=some (if neg then !eqD d e else eqD d e):=by
 unfold eqM
 rw[if_pos ⟨h,h'⟩]
theorem y26{neg:Bool}{d c:D}{l:List D}(hc:Ym c=some l)(h:dep d<=60)(h':depL l<=60):inM neg d c=some (if neg then !inD d l else inD d l):=by
 unfold inM
 rw[hc,qc,if_pos ⟨h',h⟩]
theorem Yfg{gt:D->Ro->Option Ro}{fc:Ro->Option Bool}{fe:Ro->Option D}{ρ:Ro}{α:Type}(enc:α->D)(p:α->Bool)(f:α->D):∀(l:List α),(∀a∈l,∃ρ1,gt (enc a) ρ=some ρ1/\fc ρ1=some (p a)/\(p a=true->fe ρ1=some (f a)))->
 Ygm gt fc fe ρ (l.map enc)=some ((l.filter p).map f)
 | [],_=>rfl
 | a::l,h=>by
   obtain⟨ρ1,h1,h2,h3⟩:=h a qg
   have ih:=Yfg enc p f l fun b hb=>h b (qf _ hb)
   rw[Qb,Ygm,h1,qc,h2,qc]
   cases hp:p a with
   | true=>
     rw[if_pos rfl,h3 hp,qc,ih,List.filter_cons_of_pos hp]
     rfl
   | false=>rw[if_neg qh,ih,List.filter_cons_of_neg (by rw[hp];exact qh)]
@[simp] theorem atI_zero{α:Type}(a:α)(l:List α):atI (a::l) 0=some a:=by
 have:=Yn0 (xs:=a::l) (j:=0) (v:=a) rfl
 simpa using this
@[simp] theorem atI_one{α:Type}(a b:α)(l:List α):atI (a::b::l) 1=some b:=by
 have:=Yn0 (xs:=a::b::l) (j:=1) (v:=b) rfl
 simpa using this
@[simp] theorem forM_nil(gt:D->Ro->Option Ro)(fb:Ro->Option Out)(ρ:Ro):M.forM gt fb [] ρ=some (.nx ρ):=nr rfl
theorem Yg6{gt:D->Ro->Option Ro}{fb:Ro->Option Out}{α:Type}(enc:α->D)(I:List α->Ro->Prop):∀(l pre:List α) (ρ:Ro),I pre ρ->
 (∀q a r ρ,pre++l=q++a::r->I q ρ->∃ρ1 ρ2,gt (enc a) ρ=some ρ1/\fb ρ1=some (.nx ρ2)/\I (q++[a]) ρ2)->∃ρ',M.forM gt fb (l.map enc) ρ=some (.nx ρ')/\I (pre++l) ρ'
 | [],pre,ρ,h0,_=>⟨ρ,rfl,by rw[List.append_nil];exact h0⟩
 | a::l,pre,ρ,h0,hs=>by
   obtain⟨ρ1,ρ2,e1,e2,h2⟩:=hs pre a l ρ rfl h0
   obtain⟨ρ',e3,h3⟩:=Yg6 enc I l (pre++[a]) ρ2 h2 fun q b r ρ e hI=>hs q b r ρ (by rw[<-e,List.append_assoc];rfl) hI
   refine⟨ρ',?_,by rw[List.append_assoc]at h3;exact h3⟩
   rw[Qb,M.forM,e1,qc,e2,qc]
   exact e3
theorem Ytq(a n:Int):rngD a n=(List.range (n - a).toNat).map fun i=>D.int (a+(i:Nat)):=rfl
theorem Ytr{n:Int}(h:-1000000<=n)(h':n<=1000000):rng1 [.int n]=some (rngD 0 n):=by
 have hcap:(cap6:Int)=1000000:=by decide
 simp only[rng1]
 rw[if_pos]
 simp only[Qf,decide_eq_true_eq]
 lia
theorem Yp8{α:Type}{l:List α}{i:Nat}(h:i < l.length):atI l (i:Int)=some l[i]:=Yn0 (qp h)
theorem Yts{α β:Type}(f:α->β)(l:List α)(i:Int):atI (l.map f) i=(atI l i).map f:=by
 unfold atI
 rw[qe]
 cases ixN l.length i with
 | none=>rfl
 | some j=>
   show(l.map f)[j]?=(l[j]?).map f
   rw[Qg]
end M
namespace M
open PySem L2
@[simp] theorem nat_eq_iff(x b:Nat):((x:Int)=(b:Int))↔x=b:=by lia
@[simp] theorem eqM_int(neg:Bool)(i j:Int):eqM neg (.int i) (.int j)=some (if neg then !decide (i=j)else decide (i=j)):=by
 rw[Yp7 (by simp) (by simp),Yzo];rfl
@[simp] theorem eqM_bl(neg:Bool)(i j:Bool):eqM neg (.bl i) (.bl j)=some (if neg then !(i==j)else i==j):=by
 rw[Yp7 (by simp) (by simp),Yxh]
@[simp] theorem isN_non(neg:Bool):isN neg .non .non=some (if neg then false else true):=by cases neg<;>rfl
@[simp] theorem isN_int(neg:Bool)(i:Int):isN neg (.int i) .non=some (if neg then true else false):=by cases neg<;>rfl
@[simp] theorem isN_lst(neg:Bool)(l:List D):isN neg (.lst l) .non=some (if neg then true else false):=by cases neg<;>rfl
@[simp] theorem Yp9{α:Type}(f:α->Bool):∀l:List α,blsD (l.map fun a=>.bl (f a))=some (l.map f)
 | []=>rfl
 | a::l=>by rw[Qb,blsD,Yp9 f l];rfl
@[simp] theorem blsD_bl(l:List Bool):blsD (l.map D.bl)=some l:=by simpa using Yp9 id l
@[simp] theorem anyC_lst(l:List D):anyC [.lst l]=(blsD l).map fun bs=>.bl (bs.any id):=nr rfl
@[simp] theorem allC_lst(l:List D):allC [.lst l]=(blsD l).map fun bs=>.bl (bs.all id):=nr rfl
@[simp] theorem ap_sMut2{ρ:Ro}(i:Nat)(fi f:Ro->Option D)(g:List D->D->D->Option (List D)):Ysd i fi f g ρ=(f ρ).bind fun d=>(getO i ρ).bind fun l=>(fi ρ).bind fun k=>(g l k d).map fun l'=>.nx (ρ.set i (some (.ow l'))):=nr rfl
@[simp] theorem enumD_of(c:D):Yse c=(Ym c).map Yjc:=nr rfl
@[simp] theorem cap6_eq:cap6=1000000:=nr rfl
@[simp] theorem gV0(d:D)(r:Ro):getV 0 (some (.sh d)::r)=some d:=nr rfl
@[simp] theorem gC0(d:D)(r:Ro):getC 0 (some (.sh d)::r)=some d:=nr rfl
@[simp] theorem gC0o(l:List D)(r:Ro):getC 0 (some (.ow l)::r)=some (.lst l):=nr rfl
@[simp] theorem gO0(l:List D)(r:Ro):getO 0 (some (.ow l)::r)=some l:=nr rfl
@[simp] theorem gVs(n:Nat)(b:Option B)(r:Ro):getV (n+1) (b::r)=getV n r:=by simp[getV]
@[simp] theorem gCs(n:Nat)(b:Option B)(r:Ro):getC (n+1) (b::r)=getC n r:=by simp[getC]
@[simp] theorem gOs(n:Nat)(b:Option B)(r:Ro):getO (n+1) (b::r)=getO n r:=by simp[getO]
@[simp] theorem frz0o(l:List D)(r:Ro):frz1 0 (some (.ow l)::r)=some (.sh (.lst l))::r:=nr rfl
@[simp] theorem frz0s(d:D)(r:Ro):frz1 0 (some (.sh d)::r)=some (.sh d)::r:=nr rfl
@[simp] theorem frz_s(n:Nat)(b:Option B)(r:Ro):frz1 (n+1) (b::r)=b::frz1 n r:=by
 unfold frz1
 rw[List.getElem?_cons_succ]
 cases h:r[n]? with
 | none=>rfl
 | some o=>
   cases o with
   | none=>rfl
   | some b=>cases b<;>rfl
theorem Yzs{l:List D}{d:D}(h:l.length < 1000000):appD l d=some (l++[d]):=if_pos h
theorem Yib{fe:Ro->Option D}{r:Ro}{α:Type}{enc:α->D}(f:α->D){l:List α}(h:∀a∈l,fe (some (.sh (enc a))::r)=some (f a)):Ygm (gSet 0) tY fe (none::r) (l.map enc)=some (l.map f):=by
 have:=Yfg (gt:=gSet 0) (fc:=tY) (fe:=fe) (ρ:=none::r) enc (fun _=>true) f l fun a ha=>⟨_,rfl,rfl,fun _=>h a ha⟩
 rw[List.filter_eq_self.mpr (fun _ _=>rfl)]at this
 exact this
theorem Yqa{fc:Ro->Option Bool}{fe:Ro->Option D}{r:Ro}{α:Type}{enc:α->D}(p:α->Bool)(f:α->D){l:List α}(h1:∀a∈l,fc (some (.sh (enc a))::r)=some (p a))(h2:∀a∈l,p a=true->fe (some (.sh (enc a))::r)=some (f a)) :
 Ygm (gSet 0) fc fe (none::r) (l.map enc)=some ((l.filter p).map f):=
 Yfg (gt:=gSet 0) enc p f l fun a ha=>⟨_,rfl,h1 a ha,h2 a ha⟩
theorem y27{fc:Ro->Option Bool}{fe:Ro->Option D}{r:Ro}{α:Type}{e1 e2:α->D}(p:α->Bool)(f:α->D){l:List α}(h1:∀a∈l,fc (some (.sh (e1 a))::some (.sh (e2 a))::r)=some (p a))(h2:∀a∈l,p a=true->fe (some (.sh (e1 a))::some (.sh (e2 a))::r)=some (f a)) :
 Ygm (Ykr 0 1) fc fe (none::none::r) (l.map fun a=>.tup [e1 a,e2 a])=some ((l.filter p).map f):=
 Yfg (gt:=Ykr 0 1) (fun a=>.tup [e1 a,e2 a]) p f l fun a ha=>⟨_,rfl,h1 a ha,h2 a ha⟩
theorem Ym0{α:Type}(enc:α->D)(d:α)(l:List α):Yjc (l.map enc)=(List.range l.length).map fun i=>.tup [.int i,enc (l.getD i d)]:=by
 unfold Yjc
 rw[qe]
 refine List.map_congr_left fun i hi=>?_
 have h:=qz hi
 simp[h]
end M
namespace Bk
open PySem L2 M
abbrev Say:=Nat × Bool
inductive Kd where
 | e | s | i | n
 deriving DecidableEq
inductive Rl where
 | ei (l:List Say)
 | su (b:List Nat) (o:Bool)
 | im (b:List Nat) (h:Option Nat)
 deriving DecidableEq
def kS:Kd->Str
 | .e=>Str.ofString "eithers"
 | .s=>Str.ofString "sums"
 | .i=>Str.ofString "ifs"
 | .n=>Str.ofString "nots"
def kdD(k:Kd):D:=.str (kS k)
abbrev nD(n:Nat):D:=.int n
def sayD(s:Say):D:=.tup [.int s.1,.bl s.2]
def optD:Option Nat->D
 | none=>.non
 | some n=>.int n
def rlD:Rl->D
 | .ei l=>.tup (l.map sayD)
 | .su b o=>.tup [.tup (b.map nD),.bl o]
 | .im b h=>.tup [.tup (b.map nD),optD h]
def Ybl(k:Kd)(R:List Rl):D:=.tup [kdD k,.tup (R.map rlD)]
@[simp] theorem dep_kd(k:Kd):dep (kdD k)=0:=by simp[kdD]
theorem y28:∀{k j:Kd},kS k=kS j->k=j:=by
 intro k j
 cases k<;>cases j<;>first | (intro _;rfl) | (intro h;exact absurd h (by decide +kernel))
@[simp] theorem y29(k j:Kd):eqD (kdD k) (kdD j)=decide (k=j):=by
 rw[kdD,kdD,Yzp]
 by_cases h:k=j
 ·simp[h]
 ·have h':¬kS k=kS j:=fun e=>h (y28 e)
  simp[h,h']
theorem Ytt(neg:Bool)(k j:Kd):eqM neg (kdD k) (kdD j)=some (if neg then !decide (k=j)else decide (k=j)):=by
 rw[Yp7 (by simp) (by simp),y29]
@[simp] theorem eqM_e(neg:Bool)(k:Kd):eqM neg (kdD k) (.str (Str.ofString "eithers"))=some (if neg then !decide (k=.e)else decide (k=.e)):=Ytt neg k .e
@[simp] theorem eqM_s(neg:Bool)(k:Kd):eqM neg (kdD k) (.str (Str.ofString "sums"))=some (if neg then !decide (k=.s)else decide (k=.s)):=Ytt neg k .s
@[simp] theorem eqM_i(neg:Bool)(k:Kd):eqM neg (kdD k) (.str (Str.ofString "ifs"))=some (if neg then !decide (k=.i)else decide (k=.i)):=Ytt neg k .i
theorem Ytu{α:Type} [DecidableEq α] {enc:α->D} (he:∀a b,eqD (enc a) (enc b)=decide (a=b)) (s:α):∀l:List α,inD (enc s) (l.map enc)=decide (s∈l)
 | []=>by simp[inD]
 | t::l=>by
   have ih:=Ytu he s l
   unfold inD at ih ⊢
   rw[Qb,List.any_cons,ih,he]
   by_cases h1:t=s
   ·simp[h1]
   ·have h1':¬s=t:=fun e=>h1 e.symm
    simp[h1,h1']
theorem Ytv{n:Nat}:∀{l:List D},(∀d∈l,dep d<=n)->depL l<=n
 | [],_=>by simp
 | d::l,h=>by
   rw[Ytp]
   exact Nat.max_le.mpr ⟨h d qg,Ytv fun e he=>h e (qf _ he)⟩
theorem Ytw{α:Type} [DecidableEq α] {enc:α->D} (he:∀a b,eqD (enc a) (enc b)=decide (a=b)):∀l m:List α,eqL (l.map enc) (m.map enc)=decide (l=m)
 | [],[]=>by simp
 | [],b::m=>by simp
 | a::l,[]=>by simp
 | a::l,b::m=>by
   rw[Qb,Qb,Ywc,he,Ytw he l m]
   by_cases h1:a=b<;>by_cases h2:l=m<;>simp[h1,h2]
theorem Ytx{α:Type}{enc:α->D}{n:Nat}(h:∀a,dep (enc a)<=n)(l:List α):depL (l.map enc)<=n:=Ytv fun d hd=>by
 obtain⟨x,_,rfl⟩:=qw hd
 exact h x
theorem Yzt(a b:Bool):eqD (.bl a) (.bl b)=decide (a=b):=by
 rw[Yxh]
 cases a<;>cases b<;>rfl
@[simp] theorem ix_say0(s:Say):(Ym (sayD s)).bind (fun l=>atI l 0)=some (.int s.1):=by simp[sayD]
@[simp] theorem ix_say1(s:Say):(Ym (sayD s)).bind (fun l=>atI l 1)=some (.bl s.2):=by simp[sayD]
@[simp] theorem items_ei(l:List Say):Ym (rlD (.ei l))=some (l.map sayD):=nr rfl
@[simp] theorem items_su(b:List Nat)(o:Bool):Ym (rlD (.su b o))=some [.tup (b.map nD),.bl o]:=nr rfl
@[simp] theorem items_im(b:List Nat)(h:Option Nat):Ym (rlD (.im b h))=some [.tup (b.map nD),optD h]:=nr rfl
@[simp] theorem items_book(k:Kd)(R:List Rl):Ym (Ybl k R)=some [kdD k,.tup (R.map rlD)]:=nr rfl
def at'(ev:List Bool)(n:Nat):Bool:=ev.getD n false
theorem Yty{ev:List Bool}{n:Nat}(h:n < ev.length):atI (ev.map D.bl) (n:Int)=some (.bl (at' ev n)):=by
 rw[Yts,Yp8 h]
 simp[at',h]
def In(k:Kd)(n:Nat):Rl->Prop
 | .ei l=>k=.e/\∀s∈l,s.1 < n
 | .su b _=>k=.s/\∀x∈b,x < n
 | .im b h=>(k=.i\/k=.n)/\(∀x∈b,x < n)/\∀x,h=some x->x < n
def slt(s t:Say):Prop:=s.1 < t.1\/(s.1=t.1/\s.2=false/\t.2=true)
def Srt:Rl->Prop
 | .ei l=>l.length<=2/\l.Pairwise slt
 | .su b _=>b.Pairwise (· < ·)
 | .im b _=>b.Pairwise (· < ·)
def hd(ev:List Bool)(w:Bool):Option Nat->Bool
 | none=>false
 | some x=>at' ev x==w
def nth(R:List Rl)(i:Nat):Rl:=R.getD i (.ei [])
theorem Ytz{R:List Rl}{i:Nat}(h:i < R.length):nth R i∈R:=by simp[nth,h]
theorem Yzu(R:List Rl):Yjc (R.map rlD)=(List.range R.length).map fun i:Nat=>.tup [.int (i:Int),rlD (nth R i)]:=Ym0 rlD (.ei []) R
def so(k:Kd)(ev:List Bool):Rl->Bool
 | .ei l=>l.any fun s=>at' ev s.1==s.2
 | .su b o=>decide ((b.filter (at' ev)).length % 2=1)==o
 | .im b h=>(b.any fun x=>at' ev x != decide (k=.i))||hd ev (decide (k=.i)) h
end Bk
namespace Bk
def brk(k:Kd)(ev:List Bool)(R:List Rl):List Nat:=(List.range R.length).filter fun i=>!so k ev (nth R i)
end Bk
namespace Bk
open PySem L2 M
def sz:Rl->Nat
 | .ei l=>l.length
 | .su b _=>b.length
 | .im b _=>b.length
end Bk
namespace Bk
end Bk
namespace Bk
open PySem L2 M
end Bk
namespace M
open PySem PySem.Spec PyProof.Rows L2
section
def Exc(h:Heap)(ea T:Addr)(C fl:Value):Prop:=
 ∃oe vs oT ts,h.get? ea=some oe/\(oe.cls=C/\vs[2]?=some .none)/\oe.data=.fields vs/\vs[1]?=some (.ref T)/\T≠ea/\h.get? T=some oT/\oT.data=.fields ts/\ts[3]?=some fl
structure XStep(h h':Heap)(ea T:Addr)(fr:List Addr):Prop where
 keep:∀b o,h.get? b=some o->b≠ea->b≠T->b∉fr->h'.get? b=some o
 slot:∀b o,h.get? b=some o->b∈fr->∃sl,h'.get? b=some { o with slots:=sl }
section
variable {M:Model} {A:Around} {E:Value->Shared->Prop} {s:Shared} {env:Env} {outer:List Env} {L ea T:Addr} {C:Value} {base h h' h0:Heap} {Q:Unit->Shared->Prop} {P:Program} {w:World} {H H0:Hp} {fr fs ex:List Addr}
theorem Yt0{oe:Obj}{vs:Array Value}{head:Value}{had:Bool}(hfr:A.frames=some (env::outer))(ff:s.heap.FunFrames base (env::outer))(hf:env.frame=some L)(he:s.heap.get? ea=some oe)(hd:oe.data=.fields vs)(h2:vs[2]?=some .none)
 (hQ:∀h' T',Exc h' ea T' oe.cls (rawInt L)->s.heap.get? T'=none->XStep s.heap h' ea T' (frs (env::outer))->Q () { s with heap:=h' }) :
 wpAny M A (do let a <-frameOf env;let pl <-entryPlaceOf L had;let b <-EntryCells.newEntry head a .none (rawInt L) .none pl;setField (.ref ea) 1 b) Q E s:=by
 have hsz:1 < vs.size:=Nat.lt_of_succ_lt (Array.getElem?_eq_some_iff.mp h2).1
 have hne:ea∉frs (env::outer):=fun hm=>by
  obtain⟨_,o,ho,hn⟩:=ff.mem hm
  rw[he]at ho;cases ho;exact hn vs hd
 refine wpAny_bind (wpAny_frameOf_fun hfr ff hf fun h₁ hs=>?_)
 refine wpAny_bind (wpAny_entryPlaceOf fun pl hpl=>?_)
 unfold EntryCells.newEntry newFields
 refine wpAny_bind (wpAny_newObj_type ?_ (hpl.sizeOk5 _ _ _ _ _))
 have he₁:h₁.get? ea=some oe:=(hs.2.1 ea hne).trans he
 generalize hob:({ cls:=.type "traceback",dict:=none,data:=.fields ([head,.ref L,.none,rawInt L,.none]++(if pl.isEmpty then List.replicate 6 Value.none else pl)).toArray }:Obj)=ob
 have hTe:h₁.objs.size≠ea:=Nat.ne_of_gt (qk he₁)
 have he₂:=qd (h:=h₁) ob he₁
 refine wpAny_setField he₂ hd hsz (hQ _ h₁.objs.size ?_ (Heap.get?_none_of_le (by rw[hs.1];exact qt _)) ⟨fun b o e n1 n2 n3=>?_,fun b o e m=>?_⟩)
 ·have hd₃:=Obj.data_mapFields hd (·.setIfInBounds 1 (Value.ref h₁.objs.size))
  have hT:(h₁.push ob).get? h₁.objs.size=some ob:=qo h₁ (by rw[<-hob];rfl)
  refine⟨_,_,ob,_,Heap.get?_update_self _ he₂ (Obj.isFreed_of_fields hd₃),⟨Obj.cls_mapFields _ _,by rw[Array.getElem?_setIfInBounds_ne (by decide)];exact h2⟩,hd₃,by simp[hsz],hTe,(Heap.get?_update_other _ _ (Ne.symm hTe)).trans hT,by rw[<-hob],by first | (simp;done) | (rcases hpl with rfl | ⟨_,_,_,_,_,_,_,rfl⟩<;>simp)⟩
 ·rw[Heap.get?_update_other _ _ (Ne.symm n1)]
  exact qd _ ((hs.2.1 b n3).trans e)
 ·obtain⟨sl,q⟩:=hs.2.2 b o e
  refine⟨sl,?_⟩
  rw[Heap.get?_update_other _ _ (fun z=>hne (by rw[z];exact m))]
  exact qd _ q
theorem Yt1(hfr:A.frames=some (env::outer))(hf:env.frame=some L)(ff:s.heap.FunFrames base (env::outer))(x:Exc s.heap ea T C .none)
 (hQ:∀h' T',Exc h' ea T' C (rawInt L)->(T'=T\/s.heap.get? T'=none)->XStep s.heap h' ea T (frs (env::outer))->Q () { s with heap:=h' }):wpAny M A (noteFrame (.ref ea) env) Q E s:=by
 obtain⟨oe,vs,oT,ts,he,⟨rfl,h2⟩,hd,h1,hne,hT,hdT,h3⟩:=x
 unfold noteFrame
 simp only[hf]
 refine wpAny_bind (wpAny_field he hd h1 ?_)
 rw[if_pos (show(Value.ref T != Value.none)=true from by simp)]
 refine wpAny_bind (wpAny_field hT hdT h3 ?_)
 rw[if_neg (show ¬((Value.none==rawInt L)=true) from by simp[rawInt])]
 refine wpAny_bind (wpAny_setField hT hdT (Array.getElem?_eq_some_iff.mp h3).1 ?_)
 have other:∀b,b≠T->(s.heap.update T (Obj.mapFields (·.setIfInBounds 3 Value.none))).get? b=s.heap.get? b:=fun b hb=>Heap.get?_update_other _ _ (Ne.symm hb)
 have nT:∀b∈frs (env::outer),b≠T:=fun b hb z=>by
  obtain⟨_,o,ho,hn⟩:=ff.mem hb
  rw[z,hT]at ho;cases ho;exact hn ts hdT
 have ff':(s.heap.update T (Obj.mapFields (·.setIfInBounds 3 Value.none))).FunFrames base (env::outer):=ff.of_keeps fun b o hb hn=>⟨o,(other b fun z=>by rw[z,hT]at hb;cases hb;exact hn ts hdT).trans hb,rfl⟩
 refine Yt0 hfr ff' hf ((other ea (Ne.symm hne)).trans he) hd h2 fun h' T' x' n st=>?_
 have nT':T'=T\/s.heap.get? T'=none:=by
  by_cases z:T'=T
  ·exact .inl z
  ·exact .inr ((other T' z).symm.trans n)
 refine hQ h' T' x' nT' ⟨fun b o e n1 n2 n3=>st.keep b o ((other b n2).trans e) n1 (fun z=>?_) n3,fun b o e m=>st.slot b o ((other b (nT b m)).trans e) m⟩
 rcases nT' with q | q
 ·exact n2 (z.trans q)
 ·rw[z,q]at e;cases e
theorem Yic{l:List Env}{fl:Value}(x:Exc s.heap ea T C fl)
 (hQ:∀h',Exc h' ea T C .none->XStep s.heap h' ea T (frs l)->(∀b o,s.heap.get? b=some o->b≠T->h'.get? b=some o)->Q () { s with heap:=h' }) (ff:s.heap.FunFrames base l):wpAny M A (setFlight (.ref ea) none) Q E s:=by
 obtain⟨oe,vs,oT,ts,he,hc,hd,h1,hne,hT,hdT,h3⟩:=x
 have hsz:3 < ts.size:=(Array.getElem?_eq_some_iff.mp h3).1
 unfold setFlight
 refine wpAny_bind (wpAny_field he hd h1 ?_)
 rw[if_pos (show(Value.ref T != Value.none)=true from by simp)]
 have other:∀b,b≠T->(s.heap.update T (Obj.mapFields (·.setIfInBounds 3 ((none:Option Addr).elim Value.none fun f=>rawInt f)))).get? b=s.heap.get? b:=fun b hb=>Heap.get?_update_other _ _ (Ne.symm hb)
 refine wpAny_setField hT hdT hsz (hQ _ ?_ ⟨fun b o e _ n2 _=>(other b n2).trans e,fun b o e m=>⟨o.slots,(other b fun z=>?_).trans e⟩⟩ fun b o e n=>(other b n).trans e)
 ·exact⟨oe,vs,_,_,(other ea (Ne.symm hne)).trans he,hc,hd,h1,hne,Heap.get?_update_self _ hT (Obj.isFreed_of_fields (Obj.data_mapFields hdT _)),Obj.data_mapFields hdT _,by simp[hsz]⟩
 ·obtain⟨_,o',ho,hn⟩:=ff.mem m
  rw[z,hT]at ho;cases ho;exact hn ts hdT
theorem Yid{h h' base:Heap}:∀{l:List Env},h.FunFrames base l->(∀b∈frs l,∀o,h.get? b=some o->∃sl,h'.get? b=some { o with slots:=sl })->h'.FunFrames base l
 | [],_,_=>trivial
 | env::r,⟨hk,⟨L,o,hf,hn,ho,hd⟩,hr⟩,hb=>by
   have e:frs (env::r)=L::frs r:=by unfold frs;rw[List.filterMap_cons,hf]
   obtain⟨sl,q⟩:=hb L (by rw[e];exact .head _) o ho
   exact⟨hk,⟨L,_,hf,hn,q,hd⟩,Yid hr fun b q=>hb b (by rw[e];exact .tail _ q)⟩
theorem Ywd(hfr:A.frames=some (env::outer))(hf:env.frame=some L)(ff:s.heap.FunFrames base (env::outer))(x:Exc s.heap ea T C .none)
 (hQ:∀h' T',Exc h' ea T' C .none->(T'=T\/s.heap.get? T'=none)->XStep s.heap h' ea T (frs (env::outer))->Q () { s with heap:=h' }):wpAny M A (leaving env (.ref ea)) Q E s:=by
 unfold leaving
 refine wpAny_bind (Yt1 hfr hf ff x fun h1 T1 x1 z1 st1=>?_)
 refine Yic (base:=base) (l:=env::outer) x1 (fun h2 x2 st2 _=>hQ h2 T1 x2 z1 ⟨fun b o e n1 n2 n3=>?_,fun b o e m=>?_⟩) (Yid ff fun b hb o e=>st1.slot b o e hb)
 ·refine st2.keep b o (st1.keep b o e n1 n2 n3) n1 (fun z=>?_) n3
  rcases z1 with q | q
  ·exact n2 (z.trans q)
  ·rw[z,q]at e;cases e
 ·obtain⟨sl,q⟩:=st1.slot b o e m
  obtain⟨sl',q'⟩:=st2.slot b _ q m
  exact⟨sl',q'⟩
theorem Yq7{h:Heap}{args:List Value}(hfr:A.frames=some (env::outer))(hf:env.frame=some L)(ff:h.FunFrames base (env::outer))(hx:Heap.MadeExcOf h s.heap ea C args)
 (hQ:∀h' T',Exc h' ea T' C .none->h.get? T'=none->XStep h h' ea T' (frs (env::outer))->Q () { s with heap:=h' }):wpAny M A (leaving env (.ref ea)) Q E s:=by
 obtain⟨t,he,_,_⟩:=hx.there
 have ff':s.heap.FunFrames base (env::outer):=ff.of_keeps fun b o hb _=>⟨o,hx.keeps b o hb,rfl⟩
 unfold leaving
 refine wpAny_bind ?_
 unfold noteFrame
 simp only[hf]
 refine wpAny_bind (wpAny_field he rfl (x:=.none) rfl ?_)
 rw[if_neg (by decide)]
 refine Yt0 hfr ff' hf he rfl rfl fun h1 T1 x1 z1 st1=>?_
 have no:h.get? T1=none:=by
  cases q:h.get? T1 with
  | none=>rfl
  | some o=>rw[hx.keeps _ _ q]at z1;cases z1
 refine Yic (base:=base) (l:=env::outer) x1 (fun h2 x2 st2 _=>hQ h2 T1 x2 no ⟨fun b o e n1 n2 n3=>?_,fun b o e m=>?_⟩) (Yid ff' fun b hb o e=>st1.slot b o e hb)
 ·exact st2.keep b o (st1.keep b o (hx.keeps _ _ e) n1 n2 n3) n1 n2 n3
 ·obtain⟨sl,q⟩:=st1.slot b o (hx.keeps _ _ e) m
  obtain⟨sl',q'⟩:=st2.slot b _ q m
  exact⟨sl',q'⟩
theorem XStep.hok(st:XStep h h' ea T fr)(x:HOk P w H h)(he:H ea=none)(hT:H T=none)(hf:∀b∈fr,H b=none):HOk P w H h':=fun a o e=>by
 refine(x a o e).stay (fun b u hb q=>?_) (fun _ z=>z) fun _ _ z=>z
 have n:H b≠none:=fun z=>by
  rcases hb with rfl | hb
  ·rw[e]at z;cases z
  ·rw[hb]at z;cases z
 exact st.keep b u q (fun z=>n (by rw[z];exact he)) (fun z=>n (by rw[z];exact hT)) fun z=>n (hf b z)
theorem ObjOk.there{a:Addr}{o:HO}(x:ObjOk P w H h a o):∃u,h.get? a=some u:=by
 cases o with
 | lst xs=>obtain⟨_,_,_,_,e⟩:=x;exact⟨_,e⟩
 | tup xs=>obtain⟨_,_,_,u,e,_⟩:=x;exact⟨_,e⟩
 | dK kvs=>obtain⟨_,_,_,_,o,_,_,e,_⟩:=x;exact⟨_,e⟩
 | dT kvs=>obtain⟨_,_,_,_,o,_,_,e,_⟩:=x;exact⟨_,e⟩
 | set S n=>obtain⟨o,_,_,_,e,_⟩:=x;exact⟨_,e⟩
 | ins C dx fs=>obtain⟨_,_,_,e,_⟩:=x;exact⟨_,e⟩
 | own y=>obtain⟨_,e⟩:=x;exact⟨_,e⟩
 | xd fs=>obtain⟨_,⟨_,_,_,e,_⟩,_⟩:=x;exact⟨_,e⟩
 | rng lo hi=>obtain⟨_,_,_,e⟩:=x;exact⟨_,e⟩
 | frz ob u=>obtain⟨e,_⟩:=x;exact⟨_,e⟩
 | tbl ps=>exact⟨_,(show h.get? a=some _ from x)⟩
 | met f y=>exact⟨_,(show h.get? a=some _ from x)⟩
 | ext φ=>obtain⟨_,⟨_,e⟩,_⟩:=x;exact⟨_,e⟩
theorem Ych(x:HOk P w H h){a:Addr}(e:h.get? a=none):H a=none:=by
 cases q:H a with
 | none=>rfl
 | some o=>
   obtain⟨u,z⟩:=ObjOk.there (x a o q)
   rw[e]at z;cases z
theorem XStep.un(st:XStep h h' ea T fr)(u:Un fs ex H0 H h0 h)(he:h0.get? ea=none)(hT:h0.get? T=none)(hf:∀b∈fr,b∈fs\/h0.get? b=none):Un fs ex H0 H h0 h':=by
 have ne:∀b o,h0.get? b=some o->b≠ea/\b≠T:=fun b o e=>⟨fun z=>(by rw[z,he]at e;cases e),fun z=>(by rw[z,hT]at e;cases e)⟩
 refine⟨fun b o e n m1 m2=>?_,fun b o e n m1 m2=>?_,u.free,fun b o e m=>?_,u.tups,u.frzs,u.tbls⟩
 ·refine st.keep b o (u.keep b o e n m1 m2) (ne b o e).1 (ne b o e).2 fun z=>?_
  rcases hf b z with z | z
  ·exact m1 z
  ·rw[z]at e;cases e
 ·obtain⟨sl,e1⟩:=u.slot b o e n m1 m2
  by_cases z:b∈fr
  ·obtain⟨sl',e2⟩:=st.slot b _ e1 z
   exact⟨sl',e2⟩
  ·exact⟨sl,st.keep b _ e1 (ne b o e).1 (ne b o e).2 z⟩
 ·obtain⟨o',e1⟩:=u.there b o e m
  by_cases z:b∈fr
  ·obtain⟨sl',e2⟩:=st.slot b _ e1 z
   exact⟨_,e2⟩
  ·exact⟨o',st.keep b _ e1 (ne b o e).1 (ne b o e).2 z⟩
end
def CXN(P:Program)(w:World):CXT:=fun outer H s E e s'=>
 ∃ea T H' C,e=.ref ea/\s'.os=s.os/\AllBare s'.gens/\Un (frs outer) [] H H' s.heap s'.heap/\HOk P w H' s'.heap/\Exc s'.heap ea T C .none/\s.heap.get? ea=none/\s.heap.get? T=none/\H' ea=none/\H' T=none/\E C none H'
section
variable {P:Program} {w:World} {K:W.Frag} {mg:Str->Option Value} {base:Heap} {N:List Str} {qual:Str} {scope:Scope} {f:Addr} {cd:Value} {A:Around} {outer:List Env} {s0:Shared} {H0:Hp} {E:XK}
theorem Ycc{X:Cx}{pins:List (Addr × Obj)}{σ:L2.St}{H:Hp}{s:Shared}(I:Inv X pins σ H s)(hx:X.ex=[]){a:Addr}(e:s.heap.get? a=none):X.s₀.heap.get? a=none:=by
 cases q:X.s₀.heap.get? a with
 | none=>rfl
 | some o=>
   obtain⟨o',z⟩:=I.base.there a o q (by rw[hx];exact fun z=>nomatch z)
   rw[e]at z;cases z
theorem y4n:Ypg (CXN P w) (cxOf (CXN P w) P w K mg base N qual scope f cd A outer s0 H0 E) E:=by
 rintro pins σ H s e s' I ⟨ea,T,H',C,rfl,os,bare,un,hok,x,n1,n2,n3,n4,hE⟩
 have J:=I.call' os un hok bare (fun b z=>nomatch z)
 have e1:=Ycc I rfl n1
 have e2:=Ycc I rfl n2
 show wpAny _ _ (leaving _ _) _ _ _
 refine Ywd (base:=base) I.ok.frames rfl J.stack x fun h' T' x' hT' st=>?_
 have hT0:s0.heap.get? T'=none:=by
  rcases hT' with rfl | z
  ·exact e2
  ·exact Ycc J rfl z
 have hT1:H' T'=none:=by
  rcases hT' with rfl | z
  ·exact n4
  ·exact Ych J.hok z
 have fr:∀b∈frs (envOfC qual scope s0.heap.objs.size f cd::outer),b∈frs outer\/s0.heap.get? b=none:=fun b hb=>by
  rcases qr (show b∈s0.heap.objs.size::frs outer from hb)with rfl | hb
  ·exact .inr (Heap.get?_none_of_le (qt _))
  ·exact .inl hb
 exact⟨ea,T',H',C,rfl,J.os,J.bare,st.un J.base e1 e2 fr,st.hok J.hok n3 n4 J.stkFree,x',e1,hT0,n3,hT1,hE⟩
end
end
section
def vM:List Value:=[.type "ValueError",.type "Exception",.type "BaseException",.type "object"]
def mroK(K:W.Frag)(C:Addr):List Value:=match K.lookup C with
 | some ⟨_,_,.cls cd,_⟩=>cd.mro
 | _=>[]
abbrev XC(K:W.Frag)(C:Addr):Prop:=W.excIn K C vM "ValueError.__new__"=true
theorem Yj9{K:W.Frag}{h:Heap}{C:Addr}(X:K.In h)(q:XC K C):∃bm N nm q bs hdct sn sub ab col dd k0 k1 k2 k3 k5 mN,
 h.get? C=some (excClassObj nm q C N bs bm hdct sn sub ab col dd k0 k1 k2 k3 k5 "ValueError.__new__")/\h.Ns N mN/\mN "__init__"=none/\OwnTail h vM bm/\mroK K C=.ref C::bm:=by
 unfold XC W.excIn at q
 split at q
 ·rename_i dd cd sl ho
  split at q
  ·rename_i C' bm k0 k1 k2 k3 n k5 hm hs
   simp only[Qf,beq_iff_eq,Bool.not_eq_true']at q
   obtain⟨⟨⟨⟨⟨rfl,rfl⟩,hdel⟩,ht⟩,hok⟩,hni⟩:=q
   obtain⟨nm,bs,mro,ns,qn,hd,sn,sub,ab,col,del⟩:=cd
   dsimp only at hm hdel hok hni
   subst hm hdel
   have hsl:sl=#[k0,k1,k2,k3,some (.builtin "ValueError.__new__"),k5]:=by
    obtain⟨l⟩:=sl
    simp only at hs
    rw[hs]
   subst hsl
   exact⟨bm,ns,nm,qn,bs,hd,sn,sub,ab,col,dd,k0,k1,k2,k3,k5,_,X _ _ ho,.of_isNs (W.isNs_of_in X hok),W.nsMap_none_of_in X hok hni,W.tail_of_in X ht,by unfold mroK;rw[ho]⟩
  ·cases q
 ·cases q
section
variable {P:Program} {w:World} {K:W.Frag} {mg:Str->Option Value} {base:Heap} {N:List Str} {qual:Str} {scope:Scope} {f:Addr} {cd:Value} {A:Around} {outer:List Env} {s0:Shared} {H0:Hp} {E:XK}
theorem Ywe{C:Addr}{x m:Str}{np p1 cpos pos:Pos}{j:Nat}(hm:mg x=some (.ref C))(hc:XC K C)(hg:Gl (cxOf (CXN P w) P w K mg base N qual scope f cd A outer s0 H0 E) x:=by rfl)(hdb:(x==("__debug__":Str))=false:=by decide)
 (hs:starEach [Expr.Constant (.str m) j p1] (envOfC qual scope s0.heap.objs.size f cd)=[(false,eval (Expr.Constant (.str m) j p1) (envOfC qual scope s0.heap.objs.size f cd))]:=by rfl) :
 PS (cxOf (CXN P w) P w K mg base N qual scope f cd A outer s0 H0 E) (.Raise (some (.Call (.Name x np) [.Constant (.str m) j p1] [] cpos)) none pos) (fun _ _ H=>E (.ref C) none H):=by
 intro pins s σ H D I h
 obtain⟨bm,N',nm,q,bs,hdct,sn,sub,ab,col,dd,k0,k1,k2,k3,k5,mN,hC,hN,hni,T,_⟩:=Yj9 I.kIn hc
 refine wpAny_Raise_call_subT (nm:=nm) (q:=q) (N:=N') (bs:=bs) (hdct:=hdct) (sn:=sn) (sub:=sub) (ab:=ab) (col:=col) (dd:=dd) (k0:=k0) (k1:=k1) (k2:=k2) (k3:=k3) (k5:=k5) (bmB:=vM) PySem.F.excBase_ValueError (T.hasType (by decide)) (I.ok.hd rfl) (by show(backTo cpos (starEach _ (envOfC qual scope s0.heap.objs.size f cd))).any _=false;rw[hs];rfl) hni (Yem I hg hm ⟨rfl,?_⟩ hdb)
 show wpAny _ _ (evalArgs _ _ (backTo cpos (starEach _ (envOfC qual scope s0.heap.objs.size f cd))) _) _ _ _
 rw[hs]
 refine PySem.Calls.evalArgs_plain (PySem.Calls.spliced_cons ?_)
 show wpAny _ _ (eval (Expr.Constant (.str m) j p1) _) _ _ _
 refine PySem.Calls.Constant_str (PySem.Calls.spliced_nil ⟨rfl,by show 1<=sizeLine;decide,hC,hN,T,fun h' ea hx=>?_⟩)
 show wpAny _ _ (leaving _ _) _ _ _
 have ff:s.heap.FunFrames base (envOfC qual scope s0.heap.objs.size f cd::outer):=I.stack
 refine Yq7 (base:=base) (h:=s.heap) I.ok.frames rfl ff hx fun h' T' x' n2 st=>?_
 have e1:=Ycc I rfl hx.new
 have e2:=Ycc I rfl n2
 have n3:=Ych I.hok hx.new
 have n4:=Ych I.hok n2
 have fr:∀b∈frs (envOfC qual scope s0.heap.objs.size f cd::outer),b∈frs outer\/s0.heap.get? b=none:=fun b hb=>by
  rcases qr (show b∈s0.heap.objs.size::frs outer from hb)with rfl | hb
  ·exact .inr (Heap.get?_none_of_le (qt _))
  ·exact .inl hb
 exact⟨ea,T',H,.ref C,rfl,I.os,I.bare,st.un I.base e1 e2 fr,st.hok I.hok n3 n4 I.stkFree,x',e1,e2,n3,n4,h⟩
end
end
section
structure Off(X:Cx)(pins:List (Addr × Obj))(H:Hp)(b:Addr):Prop where
 s0:X.s₀.heap.get? b=none
 hp:H b=none
 lo:b≠X.env.locals
 ce:∀x c,X.env.cells.lookup x=some c->c≠b
 pi:∀p∈X.pn++pins,p.1≠b
section
variable {X:Cx} {pins:List (Addr × Obj)} {σ:L2.St} {H H':Hp} {s:Shared} {b ea T:Addr} {h':Heap}
theorem Off.of(I:Inv X pins σ H s)(hx:X.ex=[])(e:s.heap.get? b=none)(hp:H' b=none):Off X pins H' b where
 s0:=Ycc I hx e
 hp:=hp
 lo:=fun z=>by
  obtain⟨m,⟨o,_,_,q,_⟩,_⟩:=I.loc
  rw[z,q]at e;cases e
 ce:=fun x c q z=>by
  obtain⟨v,o,q2,_⟩:=I.cell x c q
  rw[<-z,q2]at e;cases e
 pi:=fun p hp z=>by
  have:=(I.pin p hp).1
  rw[z,e]at this;cases this
theorem Off.none(I:Inv X pins σ H s)(hx:X.ex=[])(e:s.heap.get? b=none):Off X pins H b:=Off.of I hx e (Ych I.hok e)
theorem Ywf(I:Inv X pins σ H s)(st:XStep s.heap h' ea T (frs X.stack))(oe:Off X pins H ea)(oT:Off X pins H T):Inv X pins σ H { s with heap:=h' }:=by
 have fr:∀b∈frs X.stack,b∈X.fs\/X.s₀.heap.get? b=none:=fun b hb=>by
  rcases qr (I.stkSub b hb)with rfl | hb
  ·exact .inr (Heap.get?_none_of_le I.ok.above)
  ·exact .inl hb
 have any:∀b o,s.heap.get? b=some o->b≠ea->b≠T->∃sl,h'.get? b=some { o with slots:=sl }:=fun b o e n1 n2=>by
  by_cases z:b∈frs X.stack
  ·exact st.slot b o e z
  ·exact⟨o.slots,st.keep b o e n1 n2 z⟩
 have cellK:∀x c,X.env.cells.lookup x=some c->∀v,s.heap.IsCell c v->h'.IsCell c v:=fun x c e v ⟨o,ho,hd⟩=>by
  obtain⟨sl,q⟩:=any c o ho (oe.ce x c e) (oT.ce x c e)
  exact⟨_,q,hd⟩
 refine⟨I.ok,I.os,I.bare,st.un I.base oe.s0 oT.s0 fr,?_,fun x c e=>?_,I.free,I.freeC,fun p hp=>?_,st.hok I.hok oe.hp oT.hp I.stkFree,I.len⟩
 ·obtain⟨m,⟨o,es,ep,ho,r⟩,hl⟩:=I.loc
  obtain⟨sl,q⟩:=any _ o ho (Ne.symm oe.lo) (Ne.symm oT.lo)
  refine⟨m,⟨_,es,ep,q,r⟩,fun i x v e1 e2 e3=>?_⟩
  obtain⟨u,r,l⟩:=hl i x v e1 e2 e3
  refine⟨u,r,?_⟩
  rcases l with l | ⟨k,c,e,z⟩
  ·exact .inl l
  ·exact .inr ⟨k,c,e,cellK x c e _ z⟩
 ·obtain⟨v,z⟩:=I.cell x c e
  exact⟨v,cellK x c e v z⟩
 ·obtain⟨e,n,ne,nf,d⟩:=I.pin p hp
  refine⟨st.keep p.1 p.2 e (oe.pi p hp) (oT.pi p hp) fun z=>?_,n,ne,nf,d⟩
  rcases qr (I.stkSub _ z)with q | q
  ·exact ne q
  ·exact nf q
end
abbrev Cx.mk(X:Cx)(ea:Addr)(pn:List (Addr × Obj)):Cx:={ X with A:=X.A.mark (some (.ref ea)),calm:=false,pn:=pn++X.pn,xe:=fun _ _=>False }
section
variable {X:Cx} {pins pn:List (Addr × Obj)} {σ:L2.St} {H:Hp} {s:Shared} {ea:Addr}
theorem Inv.mk(I:Inv X pins σ H s)(hp:∀p∈pn,s.heap.get? p.1=some p.2/\H p.1=none/\p.1≠X.env.locals/\p.1∉X.fs/\∀v,p.2.data≠.cell v):Inv (Cx.mk X ea pn) pins σ H s:=
 ⟨⟨I.ok.mod,I.ok.kind,I.ok.glob,I.ok.blt,I.ok.above,I.ok.inj,I.ok.has,I.ok.cab,(fun z=>nomatch z),I.ok.frames,I.ok.stk,I.ok.exf,I.ok.bs,I.ok.bsz,I.ok.noex,I.ok.exfs,I.ok.funs,I.ok.frf⟩,I.os,I.bare,I.base,I.loc,I.cell,I.free,I.freeC,fun p q=>by
  rcases qu (show p∈(pn++X.pn)++pins from q)with q | q
  ·rcases qu q with q | q
   ·exact hp p q
   ·exact I.pin p (List.mem_append.mpr (.inl q))
  ·exact I.pin p (List.mem_append.mpr (.inr q)),I.hok,I.len⟩
theorem Inv.unmk(ok:X.Ok)(I:Inv (Cx.mk X ea pn) pins σ H s):Inv X pins σ H s:=
 ⟨ok,I.os,I.bare,I.base,I.loc,I.cell,I.free,I.freeC,fun p q=>I.pin p (by
  rcases qu q with q | q
  ·exact List.mem_append.mpr (.inl (List.mem_append.mpr (.inr q)))
  ·exact List.mem_append.mpr (.inr q)),I.hok,I.len⟩
theorem Yt2(ok:X.Ok){D:Ends}{fl:Flow}{s':Shared}(h:SP (Cx.mk X ea pn) pins D fl s'):SP X pins D fl s':=by
 cases fl with
 | next=>obtain⟨σ',H',I,q⟩:=h;exact⟨σ',H',Inv.unmk ok I,q⟩
 | brk=>obtain⟨σ',H',I,q⟩:=h;exact⟨σ',H',Inv.unmk ok I,q⟩
 | cont=>obtain⟨σ',H',I,q⟩:=h;exact⟨σ',H',Inv.unmk ok I,q⟩
 | ret u=>obtain⟨v,σ',H',I,r,q⟩:=h;exact⟨v,σ',H',Inv.unmk ok I,r,q⟩
end
theorem Yie{K:W.Frag}{M:Model}{A:Around}{E:Value->Shared->Prop}{s:Shared}{e B C:Addr}{oe:Obj}{Q:Bool->Shared->Prop}(X:K.In s.heap)(hB:XC K B)(hC:XC K C)(he:s.heap.get? e=some oe)(hcls:oe.cls=.ref C)
 (hq:Q ((mroK K C).contains (.ref B)) s):wpAny M A (excMatches (.ref e) (.ref B)) Q E s:=by
 obtain⟨bm,N,nm,q,bs,hdct,sn,sub,ab,col,dd,k0,k1,k2,k3,k5,mN,oC,_,_,T,em⟩:=Yj9 X hC
 obtain⟨bm',N',nm',q',bs',hdct',sn',sub',ab',col',dd',l0,l1,l2,l3,l5,mN',oB,_,_,T',em'⟩:=Yj9 X hB
 rw[em]at hq
 obtain⟨hp,g,d,t,os⟩:=s
 have hcB:(Value.ref B::bm').contains (.type "BaseException")=true:=by rw[List.contains_cons,T'.hasType (show vM.contains (.type "BaseException")=true by decide),Bool.or_true]
 have f:=tc_notTuple
 unfold excMatches
 repeat (first | (with_reducible refine wpAny_loadPart_at he ?_;rw[hcls]) | with_reducible refine wpAny_loadPart_at oB ?_ | (with_reducible refine wpAny_isSubtype_exc oB ?_;rw[hcB]) | with_reducible refine wpAny_isSubtype_exc oC ?_ | wp_step)
 all_goals (generalize (Value.ref C::bm).contains (.ref B)=z at *;cases z<;>(wp_walk;first | exact hq | done))
end
section
section
variable {X:Cx} {pins:List (Addr × Obj)} {σ:L2.St} {H:Hp} {s:Shared} {ea T:Addr} {C:Value} {M:Model} {E:Value->Shared->Prop} {Q:Flow->Shared->Prop} {hs:List ExceptHandler}
theorem Ywg{h':Heap}{T':Addr}(I:Inv X pins σ H s)(hx:X.ex=[])(oT:Off X pins H T)(z:T'=T\/s.heap.get? T'=none):Off X pins H T':=by
 rcases z with rfl | z
 ·exact oT
 ·exact Off.none I hx z
theorem Yxi(hx:X.ex=[])(hst:X.stack=X.env::X.outer)(hf:X.env.frame=some X.env.locals)(I:Inv X pins σ H s)(x:Exc s.heap ea T C .none)(oe:Off X pins H ea)(oT:Off X pins H T)
 (k:∀h' T',Inv X pins σ H { s with heap:=h' }->Exc h' ea T' C .none->Off X pins H T'->wpAny M X.A (handleBy (.ref ea) X.env hs) Q E { s with heap:=h' }) :
 wpAny M X.A (noteFrame (.ref ea) X.env) (fun _ s₂=>wpAny M X.A (setFlight (.ref ea) none) (fun _ s₃=>wpAny M X.A (handleBy (.ref ea) X.env hs) Q E s₃) E s₂) E s:=by
 have ff:=I.stack
 rw[hst]at ff
 refine Yt1 (by rw[I.ok.frames,hst]) hf ff x fun h1 T1 x1 z1 st1=>?_
 rw[<-hst]at st1
 have I1:=Ywf I st1 oe oT
 have oT1:=Ywg (h':=h1) I hx oT z1
 refine Yic (base:=X.base) (l:=X.stack) x1 (fun h2 x2 st2 _=>?_) I1.stack
 exact k h2 T1 (Ywf (s:={ s with heap:=h1 }) I1 st2 oe oT1) x2 oT1
def Xo(ob:Obj)(C:Value):Prop:=ob.cls=C/\∃vs,ob.data=.fields vs/\vs[2]?=some .none
theorem Yqb(I:Inv X pins σ H s)(x:Exc s.heap ea T C .none)(oe:Off X pins H ea):∃ob,Xo ob C/\∀p∈[(ea,ob)],s.heap.get? p.1=some p.2/\H p.1=none/\p.1≠X.env.locals/\p.1∉X.fs/\∀v,p.2.data≠.cell v:=by
 obtain⟨ob,vs,oT,ts,h1,h2,h3,_⟩:=x
 refine⟨ob,⟨h2.1,vs,h3,h2.2⟩,fun p hp=>?_⟩
 obtain rfl:p=(ea,ob):=by simpa using hp
 refine⟨h1,oe.hp,oe.lo,fun z=>?_,fun v z=>?_⟩
 ·obtain⟨_,o,q,_⟩:=I.ok.funs.mem z
  rw[oe.s0]at q;cases q
 ·rw[h3]at z;cases z
end
section
variable {X:Cx} {pins:List (Addr × Obj)} {σ:L2.St} {H:Hp} {s:Shared} {ea T B C f:Addr} {E:Value->Shared->Prop} {Q:Flow->Shared->Prop} {rest:List ExceptHandler} {y n x:Str} {np hpos p cpos pos1 pos:Pos} {b₀:Stmt} {suite:List Stmt} {k:Nat} {fd:FuncData} {ps:List Str} {sp:Sp} {e:Expr} {es:List Expr} {t:TA} {ts:TS}
theorem Yol(hx:X.ex=[])(I:Inv X pins σ H s)(x:Exc s.heap ea T (.ref C) .none)(oe:Off X pins H ea)(oT:Off X pins H T)(hB:XC X.K B)(hC:XC X.K C)(hy:X.mg y=some (.ref B))(hg:Gl X y)(hin:(mroK X.K C).contains (.ref B)=true)(hdb:(y==("__debug__":Str))=false)
 (k:∀s' ob,Xo ob (.ref C)->Inv (Cx.mk X ea [(ea,ob)]) pins σ H s'->wpAny (model X.prog X.w) (X.A.mark (some (.ref ea))) (execs (b₀::suite) X.env) Q (fun _ _=>False) s') :
 wpAny (model X.prog X.w) X.A (handleBy (.ref ea) X.env (.ExceptHandler (some (.Name y np)) none (b₀::suite) hpos::rest)) Q E s:=by
 obtain⟨ob,hcl,hp⟩:=Yqb I x oe
 have he:=(hp _ (.head _)).1
 have J:=Inv.mk (ea:=ea) I hp
 refine wpAny_handleBy_cons (codeAny_handlers_test (Yem (X:=Cx.mk X ea [(ea,ob)]) J hg hy ?_ hdb)) (by intro q;cases q)
 refine Yie I.kIn hB hC he hcl.1 ?_
 rw[hin]
 refine codeAny_handlers_suite ?_
 refine Yic (base:=X.base) (l:=X.stack) x (fun h2 x2 st2 _=>?_) I.stack
 have I2:=Ywf I st2 oe oT
 obtain⟨ob2,hcl2,hp2⟩:=Yqb I2 x2 oe
 exact wpAny_mono (k _ ob2 hcl2 (Inv.mk I2 hp2)) (fun _ _ z=>z) fun _ _ z=>z.elim
theorem Yt3{i:Nat}(hx:X.ex=[])(I:Inv X pins σ H s)(x:Exc s.heap ea T (.ref C) .none)(oe:Off X pins H ea)(oT:Off X pins H T)(hB:XC X.K B)(hC:XC X.K C)(hy:X.mg y=some (.ref B))(hg:Gl X y)(hin:(mroK X.K C).contains (.ref B)=true)(hdb:(y==("__debug__":Str))=false)
 (hN:X.N.Nodup) (hi:X.N[i]?=some n) (hl:Loc X.env.scope n) (hf:X.fn n=true\/X.env.scope.names.lookup n=some .local)
 (k:∀s' ob,Xo ob (.ref C)->Inv (Cx.mk X ea [(ea,ob)]) pins (σ.set i (some (V.ref ea))) H s'->wpAny (model X.prog X.w) (X.A.mark (some (.ref ea))) (execs (b₀::suite) X.env) (fun f s₄=>wpAny (model X.prog X.w) X.A (do bindName X.env n .none;unbindBehindTheSuite X.env n hpos) (fun _ s₅=>Q f s₅) E s₄) (fun _ _=>False) s') :
 wpAny (model X.prog X.w) X.A (handleBy (.ref ea) X.env (.ExceptHandler (some (.Name y np)) (some n) (b₀::suite) hpos::rest)) Q E s:=by
 obtain⟨ob,hcl,hp⟩:=Yqb I x oe
 have he:=(hp _ (.head _)).1
 have J:=Inv.mk (ea:=ea) I hp
 refine wpAny_handleBy_cons (codeAny_handlers_test (Yem (X:=Cx.mk X ea [(ea,ob)]) J hg hy ?_ hdb)) (by intro q;cases q)
 refine Yie I.kIn hB hC he hcl.1 ?_
 rw[hin]
 refine codeAny_handlers_suite_as ?_
 refine Yic (base:=X.base) (l:=X.stack) x (fun h2 x2 st2 _=>?_) I.stack
 have I2:=Ywf I st2 oe oT
 obtain⟨ob2,hcl2,hp2⟩:=Yqb I2 x2 oe
 refine Ykh (X:=Cx.mk X ea [(ea,ob2)]) (v:=V.ref ea) (Inv.mk I2 hp2) hN hi hl rfl (fun s' I'=>?_) hf
 exact wpAny_mono (k _ ob2 hcl2 I') (fun _ _ z=>z) fun _ _ z=>z.elim
theorem Yt4{i:Nat}{Q:Unit->Shared->Prop}{M:Model}(I:Inv X pins σ H s)(hN:X.N.Nodup)(hi:X.N[i]?=some n)(hl:X.env.kindOf n=some .local)(k:∀s',Inv X pins (σ.set i none) H s'->Q () s') :
 wpAny M X.A (do bindName X.env n .none;unbindBehindTheSuite X.env n hpos) Q E s:=by
 obtain⟨m,hn,hlk⟩:=id I.loc
 refine wpAny_nameGoes_keeps hl hn (by rw[I.ok.kind];rfl) fun h' v hn' sb=>k _ ?_
 have cne:=I.cne
 have hiσ:i < σ.length:=by rw[I.len];exact(qm hi).1
 refine⟨I.ok,I.os,I.bare,⟨fun b o e n hb hx=>?_,fun b o e n hb hx=>?_,I.base.free,fun b o e hx=>?_,I.base.tups,I.base.frzs,I.base.tbls⟩,⟨_,hn',fun j y v' e1 e2 e3=>?_⟩,fun y c e=>?_,I.free,I.freeC,fun p hp=>?_,fun b ob e=>?_,by rw[List.length_set];exact I.len⟩
 ·exact(sb.2 b (ql (Qc (qk e) I.ok.above))).trans (I.base.keep b o e n hb hx)
 ·obtain⟨sl,e1⟩:=I.base.slot b o e n hb hx
  exact⟨sl,(sb.2 b (ql (Qc (qk e) I.ok.above))).trans e1⟩
 ·obtain⟨o',e1⟩:=I.base.there b o e hx
  exact⟨o',(sb.2 b (ql (Qc (qk e) I.ok.above))).trans e1⟩
 ·by_cases hj:j=i
  ·subst hj
   rw[List.getElem?_set_self hiσ]at e2
   cases e2
  ·rw[Qd (Ne.symm hj)]at e2
   obtain⟨u',r',q⟩:=hlk j y v' e1 e2 e3
   refine⟨u',r',?_⟩
   rcases q with⟨k,e⟩ | ⟨k,c,e,z⟩
   ·refine .inl ⟨k,?_⟩
    have:y≠n:=fun e=>hj (Ykg hN e1 (e ▸ hi))
    simp[this,e]
   ·exact .inr ⟨k,c,e,z.sameBut sb (cne y c e)⟩
 ·obtain⟨w',z⟩:=I.cell y c e
  exact⟨w',z.sameBut sb (cne y c e)⟩
 ·obtain⟨e,n,ne,nf,d⟩:=I.pin p hp
  exact⟨(sb.2 p.1 ne).trans e,n,ne,nf,d⟩
 ·refine(I.hok b ob e).stay (fun c w' hc q=>(sb.2 c ?_).trans q) (fun _ q=>q) fun _ _ q=>q
  rintro rfl
  rcases hc with rfl | hc
  ·rw[I.free]at e;cases e
  ·rw[I.free]at hc;cases hc
theorem Yqc{pins:List (Addr × Obj)}{σ:L2.St}{H:Hp}{s:Shared}{Q:VK}{E:XK}{XE:Value->Shared->Prop}(hxe:∀e s,¬X.xe e s)(F:FnOk X.prog X.w X.K X.mg X.base (CXN X.prog X.w) k f fd ps sp)(hr:Room k X.A)(hg:Gl X x)(hm:X.mg x=some (.ref f))(hk:W.keepIn X.K (.ref f)=true)(hb:Binds X.K fd ps [])
 (ha:PA X (e::es) t) (hdb:(x==("__debug__":Str))=false) (he:starEach (e::es) X.env=(false,eval e X.env)::starEach es X.env) (hpl:(backTo cpos (starEach es X.env)).any (·.1)=false)
 (I:Inv X pins σ H s) (h:t σ H fun vs H1=>sp vs H1 Q E) (hE:∀H1 s1 e s',Inv X pins σ H1 s1->CXN X.prog X.w X.stack H1 s1 E e s'->XE e s') :
 wpAny (model X.prog X.w) X.A (eval (.Call (.Name x p) (e::es) [] cpos) X.env) (EP X pins σ Q) XE s:=by
 refine wpAny_Call_Name_kw (Yem I hg hm ?_ hdb)
 refine W.callWith_K (h₀:=X.base) I.ok.mod.kin hk (wpAny_mono (ha cpos pins s σ H _ I h) (fun us s1 ⟨vs,H1,I1,r,q⟩=>⟨I1.kIn,?_⟩) fun e s z=>(hxe e s z).elim) he hpl
 have hl:(us++[]).length=ps.length:=by rw[List.append_nil,<-r.length];exact F.len _ _ _ _ q
 refine wpAny_call (codeAny_mono (F.run X.A X.stack s1 H1 ⟨us,[]⟩ us vs Q E hr I1.env0 (by have:=hb s1 us I1.kIn hl;rwa [List.append_nil]at this) r q) fun r s' hq=>?_)
 cases r with
 | error e=>exact hE H1 s1 e s' I1 hq
 | ok fl=>
   cases fl with
   | ret u=>exact I1.after hq
   | next=>exact False.elim hq
   | brk=>exact False.elim hq
   | cont=>exact False.elim hq
theorem Yzv(hxe:∀e s,¬X.xe e s)(hx:X.ex=[])(hst:X.stack=X.env::X.outer)(hfr:X.env.frame=some X.env.locals)(F:FnOk X.prog X.w X.K X.mg X.base (CXN X.prog X.w) k f fd ps sp)(hr:Room k X.A)(hg:Gl X x)(hm:X.mg x=some (.ref f))(hk:W.keepIn X.K (.ref f)=true)(hb:Binds X.K fd ps [])
 (ha:PA X (e::es) t) (hB:XC X.K B) (hC:XC X.K C) (hy:X.mg y=some (.ref B)) (hgy:Gl X y) (hin:(mroK X.K C).contains (.ref B)=true) (hs:∀ea ob,Xo ob (.ref C)->PSs (Cx.mk X ea [(ea,ob)]) (b₀::suite) ts)
 (hdb:(x==("__debug__":Str))=false:=by decide) (hdy:(y==("__debug__":Str))=false:=by decide) (he:starEach (e::es) X.env=(false,eval e X.env)::starEach es X.env:=by rfl) (hpl:(backTo cpos (starEach es X.env)).any (·.1)=false:=by rfl) (hsw:swapsWith (.Call (.Name x p) (e::es) [] cpos) none pos1.line X.env=pure false:=by rfl) :
 PS X (.Try [.Expr (.Call (.Name x p) (e::es) [] cpos) pos1] [.ExceptHandler (some (.Name y np)) none (b₀::suite) hpos] [] [] pos) (fun D σ H=>t σ H fun vs H1=>sp vs H1 (fun _ H2=>D.nx σ H2) fun C' _ H2=>C'=.ref C/\ts D σ H2):=by
 intro pins s σ H D I h
 refine wpAny_Try_except (wpAny_execs_cons (wpAny_Expr_any (wpAny_mono (Yqc hxe F hr hg hm hk hb ha hdb he hpl I h fun H1 s1 e s' I1 z=>?_) (fun v s1 q=>?_) fun _ _ z=>z) I.quiet hsw))
 ·obtain⟨ea,T,H',C',rfl,os,bare,un,hok,x0,n1,n2,n3,n4,rfl,hts⟩:=z
  have J:=I1.call' os un hok bare (fun b z=>nomatch z)
  refine Yxi hx hst hfr J x0 (Off.of I1 hx n1 n3) (Off.of I1 hx n2 n4) fun h' T' I2 x2 o2=>?_
  refine Yol hx I2 x2 (Off.of I1 hx n1 n3) o2 hB hC hy hgy hin hdy fun s3 ob hc I3=>?_
  exact wpAny_mono (hs ea ob hc pins s3 σ H' D I3 hts) (fun _ _ q=>Yt2 I.ok q) fun _ _ z=>z
 ·obtain⟨v',H1,I1,r1,q1⟩:=q
  exact wpAny_execs_nil (wpAny_execs_nil ⟨σ,H1,I1,q1⟩)
theorem Yzw{i:Nat}(hxe:∀e s,¬X.xe e s)(hx:X.ex=[])(hst:X.stack=X.env::X.outer)(hfr:X.env.frame=some X.env.locals)(F:FnOk X.prog X.w X.K X.mg X.base (CXN X.prog X.w) k f fd ps sp)(hr:Room k X.A)(hg:Gl X x)(hm:X.mg x=some (.ref f))(hk:W.keepIn X.K (.ref f)=true)(hb:Binds X.K fd ps [])
 (ha:PA X (e::es) t) (hB:XC X.K B) (hC:XC X.K C) (hy:X.mg y=some (.ref B)) (hgy:Gl X y) (hin:(mroK X.K C).contains (.ref B)=true) (hN:X.N.Nodup) (hs:∀ea ob,Xo ob (.ref C)->PSs (Cx.mk X ea [(ea,ob)]) (b₀::suite) (fun D σ H=>∃σ',σ=σ'.set i (some (V.ref ea))/\σ'.length=σ.length/\ts { nx:=fun σ2 H2=>D.nx σ2 H2,rt:=fun _ _=>False } σ' H))
 (hi:X.N[i]?=some n:=by rfl) (hl:X.env.kindOf n=some .local:=by rfl) (hdb:(x==("__debug__":Str))=false:=by decide) (hdy:(y==("__debug__":Str))=false:=by decide) (he:starEach (e::es) X.env=(false,eval e X.env)::starEach es X.env:=by rfl) (hpl:(backTo cpos (starEach es X.env)).any (·.1)=false:=by rfl) (hsw:swapsWith (.Call (.Name x p) (e::es) [] cpos) none pos1.line X.env=pure false:=by rfl) :
 PS X (.Try [.Expr (.Call (.Name x p) (e::es) [] cpos) pos1] [.ExceptHandler (some (.Name y np)) (some n) (b₀::suite) hpos] [] [] pos) (fun D σ H=>t σ H fun vs H1=>sp vs H1 (fun _ H2=>D.nx σ H2) fun C' _ H2=>C'=.ref C/\ts { nx:=fun σ2 H3=>D.nx (σ2.set i none) H3,rt:=fun _ _=>False } σ H2):=by
 intro pins s σ H D I h
 refine wpAny_Try_except (wpAny_execs_cons (wpAny_Expr_any (wpAny_mono (Yqc hxe F hr hg hm hk hb ha hdb he hpl I h fun H1 s1 e s' I1 z=>?_) (fun v s1 q=>?_) fun _ _ z=>z) I.quiet hsw))
 ·obtain⟨ea,T,H',C',rfl,os,bare,un,hok,x0,n1,n2,n3,n4,rfl,hts⟩:=z
  have J:=I1.call' os un hok bare (fun b z=>nomatch z)
  refine Yxi hx hst hfr J x0 (Off.of I1 hx n1 n3) (Off.of I1 hx n2 n4) fun h' T' I2 x2 o2=>?_
  refine Yt3 hx I2 x2 (Off.of I1 hx n1 n3) o2 hB hC hy hgy hin hdy hN hi (.inl hl) (.inr hl) fun s3 ob hc I3=>?_
  refine wpAny_mono (hs ea ob hc pins s3 _ H' { nx:=fun σ2 H3=>D.nx (σ2.set i none) H3,rt:=fun _ _=>False } I3 ⟨σ,rfl,by rw[List.length_set],hts⟩) (fun fl s4 q=>?_) fun _ _ z=>z
  have q':=Yt2 I.ok q
  cases fl with
  | next=>
    obtain⟨σ4,H4,I4,q4⟩:=q'
    exact Yt4 I4 hN hi hl fun s5 I5=>⟨_,H4,I5,q4⟩
  | brk=>obtain⟨_,_,_,q4⟩:=q';exact False.elim q4
  | cont=>obtain⟨_,_,_,q4⟩:=q';exact False.elim q4
  | ret u=>obtain⟨_,_,_,_,_,q4⟩:=q';exact False.elim q4
 ·obtain⟨v',H1,I1,r1,q1⟩:=q
  exact wpAny_execs_nil (wpAny_execs_nil ⟨σ,H1,I1,q1⟩)
end
end
section
def qN:List Str:=["__getattribute__","__getattr__","__class__"]
inductive TailN (h:Heap) (bmB:List Value):List Value->Prop
 | base:TailN h bmB bmB
 | own {A:Addr} {c0:Value} {dd:Option Addr} {cd:ClassData} {sl:Array (Option Value)} {mA:Str->Option Value} {tl:List Value} :
  h.get? A=some { cls:=c0,dict:=dd,data:=.cls cd,slots:=sl }->h.Ns cd.ns mA->(∀n∈qN,mA n=none)->TailN h bmB tl->TailN h bmB (.ref A::tl)
def Yt5(K:W.Frag)(bmB:List Value):List Value->Bool
 | []=>bmB==[]
 | v::r=>(v::r)==bmB||match v with
   | .ref A=>(match K.lookup A with
     | some ⟨_,_,.cls cd,_⟩=>W.nsOkIn K cd.ns&&qN.all (fun n=>W.nsIn K cd.ns n==some none)&&Yt5 K bmB r
     | _=>false)
   | _=>false
theorem Yqd{K:W.Frag}{h:Heap}{bmB:List Value}(X:K.In h):∀{l:List Value},Yt5 K bmB l=true->TailN h bmB l
 | [],e=>by rw[<-beq_iff_eq.mp e];exact .base
 | v::r,e=>by
   unfold Yt5 at e
   rcases Bool.or_eq_true_iff.mp e with q | q
   ·rw[beq_iff_eq.mp q];exact .base
   ·split at q
    ·split at q
     ·rename_i ho
      simp only[Qf]at q
      exact .own (X _ _ ho) (.of_isNs (W.isNs_of_in X q.1.1)) (fun n hn=>W.nsMap_none_of_in X q.1.1 (beq_iff_eq.mp (List.all_eq_true.mp q.1.2 n hn))) (Yqd X q.2)
     ·cases q
    ·cases q
abbrev XQ(K:W.Frag)(C:Addr):Prop:=Yt5 K vM (mroK K C)=true
section
variable {prog:Program} {w:World} {A:Around} {E:Value->Shared->Prop} {h:Heap} {g:Array GenState} {d:Drawn} {t:Nat} {os:OsState} {a:Addr} {o:Obj}
 {nm q:Str} {C N:Addr} {bs bm:List Value} {hdct:Bool} {sn:List Str} {sub:List Value} {ab:Bool} {col:Option Bool} {dd:Option Addr} {k0 k1 k2 k3 k5:Option Value} {newId:String}
theorem Yzx{M:Model}{tl bmB:List Value}{n:Str}{y:Option Value}{Q:Option Value->Shared->Prop}(hn:n∈qN)(T:TailN h bmB tl)(hrest:lookupAlong bmB n=pure y)(hq:Q y ⟨h,g,d,t,os⟩):wpAny M A (lookupAlong tl n) Q E ⟨h,g,d,t,os⟩:=by
 induction T with
 | base=>rw[hrest];exact wpAny_pure hq
 | own hA hN hni _ ih=>
   rw[lookupAlong_cons]
   refine wpAny_bind (wpAny_classOwn_cls hA hN ?_)
   rw[hni n hn]
   exact ih
theorem Yt6{M:Model}{n:Str}{y:Option Value}{Q:Option Value->Shared->Prop}(hn:n∈qN)(hC:h.get? C=some (excClassObj nm q C N bs bm hdct sn sub ab col dd k0 k1 k2 k3 k5 newId))(T:TailN h vM (.ref C::bm))(hB:typeLookup (.type "ValueError") n=pure y)(hq:Q y ⟨h,g,d,t,os⟩) :
 wpAny M A (typeLookup (.ref C) n) Q E ⟨h,g,d,t,os⟩:=by
 have hrest:lookupAlong vM n=pure y:=by rw[typeLookup_eq,(show mroOf (.type "ValueError")=pure vM from F.attrBase_ValueError.mro)]at hB;exact hB
 rw[typeLookup_eq]
 exact wpAny_bind (wpAny_mroOf_exc hC (Yzx hn T hrest hq))
theorem Ym1:typeLookup (.type "ValueError") "__class__"=pure (some (.builtin "object.__class__")):=by rw[typeLookup_type,builtinLookup_eq_fast];kernel_rfl
theorem Yzy{R:Result->Shared->Prop}(hC:h.get? C=some (excClassObj nm q C N bs bm hdct sn sub ab col dd k0 k1 k2 k3 k5 newId))(T:OwnTail h vM bm)(hx:h.get? a=some o)(hc:o.cls=.ref C)(hq:R (.ok (.ret (.ref C))) ⟨h,g,d,t,os⟩) :
 codeAny (model prog w) A (.call (.builtin "getset_descriptor.__get__") ⟨[.builtin "object.__class__",.ref a,.ref C],[]⟩) R ⟨h,g,d,t,os⟩:=by
 have hT5:(⟨h,g,d,t,os⟩:Shared).TypeIs (.builtin "object.__class__") "getset_descriptor":=F.typeOf_object_class
 have hcB:(Value.ref C::bm).contains (.type (".".intercalate ("object.__class__".cutAt '.').dropLast))=true:=by
  rw[F.owner_object_class,List.contains_cons,T.hasType (show vM.contains (.type "object")=true by decide)];rfl
 refine codeAny_call_builtin F.slot_gs_get.plain F.entry_gs_get (F.slot_gs_get.check _ _ _ _ _ _ _ _ hT5 (F.args_gs_get _ _ _) ?_)
 repeat (any_goals (first | assumption | (with_reducible refine wpAny_loadPart_at hx ?_;rw[hc]) | (with_reducible refine wpAny_isSubtype_exc hC ?_;rw[hcB]) | wp_step))
 refine⟨Code.quiet_builtin _ (by decide +kernel),codeAny_builtin F.entry_object_class ?_⟩
 repeat (any_goals (first | assumption | (with_reducible refine wpAny_loadPart_at hx ?_;rw[hc]) | wp_step))
theorem Yt7{M:Model}{nameV:Value}{Q:Unit->Shared->Prop}(hC:h.get? C=some (excClassObj nm q C N bs bm hdct sn sub ab col dd k0 k1 k2 k3 k5 newId))(T:OwnTail h vM bm)
 (hx:h.get? a=some o) (hc:o.cls=.ref C) (hq:Q () ⟨h,g,d,t,os⟩):wpAny M A (checkBuiltinCall "BaseException.__getattribute__" ⟨[.ref a,nameV],[]⟩) Q E ⟨h,g,d,t,os⟩:=by
 have hk:builtinKind "BaseException.__getattribute__"=some .slot:=by decide +kernel
 have hsplit:splitId "BaseException.__getattribute__"=some ("BaseException","__getattribute__"):=by decide +kernel
 have hcB:(Value.ref C::bm).contains (.type "BaseException")=true:=by rw[List.contains_cons,T.hasType (show vM.contains (.type "BaseException")=true by decide)];rfl
 have ha:=F.args_bexc_ga (.ref a) nameV
 simp only[checkBuiltinCall,hk,hsplit]
 refine wpAny_bind ?_
 ·unfold isInstance
  repeat (first | (with_reducible refine wpAny_loadPart_at hx ?_;rw[hc]) | (with_reducible refine wpAny_isSubtype_exc hC ?_;rw[hcB]) | wp_step)
  exact hq
theorem Yt8{tk:Tok}{Q:Fin->Shared->Prop}(hC:h.get? C=some (excClassObj nm q C N bs bm hdct sn sub ab col dd k0 k1 k2 k3 k5 newId))(T:OwnTail h vM bm)(TN:TailN h vM (.ref C::bm))(hx:h.get? a=some o)(hc:o.cls=.ref C)(hq:Q (.done (.ret (.ref C))) ⟨h,g,d,t,os⟩) :
 wpAny (model prog w) A (Builtin.«object.__getattribute__» ⟨[.ref a,.str "__class__" tk],[]⟩) Q E ⟨h,g,d,t,os⟩:=by
 have hT5:(⟨h,g,d,t,os⟩:Shared).TypeIs (.builtin "object.__class__") "getset_descriptor":=F.typeOf_object_class
 have f5:=F.typeOf_object_class
 have f6:=F.slot_gs_get.lookup
 have f7:=F.slot_gs_set.lookup
 have hmA:("__class__":Str)∈qN:=.tail _ (.tail _ (.head _))
 repeat (any_goals (first | assumption | (with_reducible refine wpAny_loadPart_at hx ?_;rw[hc]) | with_reducible refine Yt6 hmA hC TN Ym1 ?_ | wp_step))
 refine Yzy hC T hx hc ?_
 repeat (any_goals (first | assumption | wp_step))
theorem Ywh{tk:Tok}{R:Result->Shared->Prop}(hC:h.get? C=some (excClassObj nm q C N bs bm hdct sn sub ab col dd k0 k1 k2 k3 k5 newId))(T:OwnTail h vM bm)(TN:TailN h vM (.ref C::bm))(hx:h.get? a=some o)(hc:o.cls=.ref C)(hq:R (.ok (.ret (.ref C))) ⟨h,g,d,t,os⟩) :
 codeAny (model prog w) A (.call (.builtin "BaseException.__getattribute__") ⟨[.ref a,.str "__class__" tk],[]⟩) R ⟨h,g,d,t,os⟩:=
 codeAny_call_builtin F.attrBase_ValueError.ga.plain F.entry_bexc_ga (Yt7 hC T hx hc (Yt8 hC T TN hx hc hq))
theorem y3a{tk:Tok}{Q:Value->Shared->Prop}(hC:h.get? C=some (excClassObj nm q C N bs bm hdct sn sub ab col dd k0 k1 k2 k3 k5 newId))(T:OwnTail h vM bm)(TN:TailN h vM (.ref C::bm))(hx:h.get? a=some o)(hc:o.cls=.ref C)(hq:Q (.ref C) ⟨h,g,d,t,os⟩) :
 wpAny (model prog w) A (getAttrBy (.ref a) (.str "__class__" tk) false) Q E ⟨h,g,d,t,os⟩:=by
 have f3:=F.attrBase_ValueError.ga.bind (.ref a)
 have hx2:(Value.builtin "BaseException.__getattribute__"==Value.builtin "object.__getattribute__")=false:=by decide +kernel
 have hx1:(onTheHeap (Value.ref C)&&Value.builtin "BaseException.__getattribute__"==Value.builtin "object.__getattribute__")=false:=by rw[hx2];rfl
 have hm1:("__getattribute__":Str)∈qN:=.head _
 have hm2:("__getattr__":Str)∈qN:=.tail _ (.head _)
 repeat (any_goals (first | assumption | (with_reducible refine wpAny_loadPart_at hx ?_;rw[hc]) | with_reducible refine Yt6 hm1 hC TN F.attrBase_ValueError.ga.lookup ?_ | with_reducible refine Yt6 hm2 hC TN F.attrBase_ValueError.noGetattr ?_ | wp_step))
 refine Ywh hC T TN hx hc ?_
 repeat (any_goals (first | assumption | wp_step))
theorem Ywi{Q:Option Value->Shared->Prop}(hC:h.get? C=some (excClassObj nm q C N bs bm hdct sn sub ab col dd k0 k1 k2 k3 k5 newId))(T:OwnTail h vM bm)(TN:TailN h vM (.ref C::bm))(hx:h.get? a=some o)(hc:o.cls=.ref C)(hq:Q (some (.ref C)) ⟨h,g,d,t+1,os⟩) :
 wpAny (model prog w) A (getAttr? (.ref a) "__class__") Q E ⟨h,g,d,t,os⟩:=by
 unfold getAttr? getAttrBy?
 repeat (any_goals (first | assumption | with_reducible apply y3a hC T TN hx hc | wp_step))
end
end
section
section
variable {prog:Program} {w:World} {A:Around} {E:Value->Shared->Prop} {h:Heap} {g:Array GenState} {d:Drawn} {t:Nat} {os:OsState} {a:Addr} {o:Obj}
 {nm q nm' q':Str} {C N B N':Addr} {bs bm bs' bm':List Value} {hdct hdct':Bool} {sn sn':List Str} {sub sub':List Value} {ab ab':Bool} {col col':Option Bool} {dd dd':Option Addr} {k0 k1 k2 k3 k5 l0 l1 l2 l3 l5:Option Value} {newId newId':String}
theorem Ywj{dep:Int}{tk:Tok}{Q:Fin->Shared->Prop}(hC:h.get? C=some (excClassObj nm q C N bs bm hdct sn sub ab col dd k0 k1 k2 k3 k5 newId))(T:OwnTail h vM bm)(TN:TailN h vM (.ref C::bm))
 (hB:h.get? B=some (excClassObj nm' q' B N' bs' bm' hdct' sn' sub' ab' col' dd' l0 l1 l2 l3 l5 newId')) (hx:h.get? a=some o) (hc:o.cls=.ref C) {z:Bool} (hz:(Value.ref C::bm).contains (.ref B)=z)
 (hq:∀t',Q (.done (.ret (.bool z))) ⟨h,g,d,t',os⟩):wpAny (model prog w) A (Builtin.«isinstance.nested» ⟨[.ref a,.ref B,.int dep tk],[]⟩) Q E ⟨h,g,d,t,os⟩:=by
 have q0:=hq t
 have q1:=hq (t+1)
 by_cases e:C=B
 ·subst e
  obtain rfl:true=z:=by rw[<-hz];simp
  have eb:(Value.ref C==Value.ref C)=true:=by simp
  repeat (any_goals (first | assumption | (with_reducible refine wpAny_loadPart_at hx ?_;rw[hc]) | wp_step))
 ·have eb:(Value.ref C==Value.ref B)=false:=by
   cases e2:(Value.ref C==Value.ref B)with
   | false=>rfl
   | true=>exact absurd (by injection eq_of_beq e2) e
  cases z with
  | true=>repeat (any_goals (first | assumption | (with_reducible refine wpAny_loadPart_at hx ?_;rw[hc]) | with_reducible refine wpAny_loadPart_at hB ?_ | with_reducible refine wpAny_loadPart_at hC ?_ | (with_reducible refine wpAny_isSubtype_exc hC ?_;rw[hz]) | wp_step))
  | false=>repeat (any_goals (first | assumption | (with_reducible refine wpAny_loadPart_at hx ?_;rw[hc]) | with_reducible refine wpAny_loadPart_at hB ?_ | with_reducible refine wpAny_loadPart_at hC ?_ | (with_reducible refine wpAny_isSubtype_exc hC ?_;rw[hz]) | with_reducible refine Ywi hC T TN hx hc ?_ | wp_step))
theorem Yt9{dep:Int}{tk:Tok}{Q:Fin->Shared->Prop}(hC:h.get? C=some (excClassObj nm q C N bs bm hdct sn sub ab col dd k0 k1 k2 k3 k5 newId))(T:OwnTail h vM bm)(hx:h.get? a=some o)(hc:o.cls=.ref C)
 (hq:Q (.done (.ret (.bool true))) ⟨h,g,d,t,os⟩):wpAny (model prog w) A (Builtin.«isinstance.nested» ⟨[.ref a,.type "ValueError",.int dep tk],[]⟩) Q E ⟨h,g,d,t,os⟩:=by
 have hz:(Value.ref C::bm).contains (.type "ValueError")=true:=by rw[List.contains_cons,T.hasType (show vM.contains (.type "ValueError")=true by decide)];rfl
 have ht:typeOf (.type "ValueError")=pure (.type "type"):=by kernel_rfl
 have eb:(Value.ref C==Value.type "ValueError")=false:=by rfl
 repeat (any_goals (first | assumption | (with_reducible refine wpAny_loadPart_at hx ?_;rw[hc]) | with_reducible refine wpAny_loadPart_at hC ?_ | (with_reducible refine wpAny_isSubtype_exc hC ?_;rw[hz]) | wp_step))
end
end
section
def Xp(K:W.Frag)(mg:Str->Option Value)(x y:Str)(z:Bool):Prop:=∃C D,mg x=some (.ref C)/\mg y=some (.ref D)/\XC K C/\XQ K C/\XC K D/\(mroK K C).contains (.ref D)=z
def spX(K:W.Frag)(mg:Str->Option Value)(n:Nat)(fr:List D->Option Bool)(xn:Str):Sp:=fun vs H _ E=>vs.length=n/\∃ds G,Same G H/\RpL K G ds vs/\fr ds=some true/\∀C H' G',mg xn=some (.ref C)->Gr H G H' G'->E (.ref C) none H'
def sxOf(K:W.Frag)(mg:Str->Option Value)(E:XK)(xn:Str)(r:Ro->Option Bool):TS:=fun _ σ H=>∃ρ H0 G0 G,r ρ=some true/\SR K H0 G0 σ H G ρ/\∀C H' G',mg xn=some (.ref C)->Gr H0 G0 H' G'->E (.ref C) none H'
structure ZX(X:Cx)(E:XK)(xn:Str)(sts:List Stmt)(r:Ro->Option Bool):Prop where
 un:PSs X sts (sxOf X.K X.mg E xn r)
def Okx(P:Program)(w:World)(K:W.Frag)(mg:Str->Option Value)(base:Heap)(k n:Nat)(x:Str)(ps:List Str)(fr:List D->Option Bool)(xn:Str):Prop:=
 ∃a fd,FnOk P w K mg base (CXN P w) k a fd ps (spX K mg n fr xn)/\Binds K fd ps []/\W.keepIn K (.ref a)=true/\mg x=some (.ref a)
def runX(k n:Nat)(r:Ro->Option Bool)(ds:List D):Option Bool:=if ds.length=k then r (Yq n ds)else none
def xYes:Ro->Option Bool:=fun _=>some true
def xNo:Ro->Option Bool:=fun _=>some false
def xIf(c:Ro->Option Bool)(a b:Ro->Option Bool):Ro->Option Bool:=fun ρ=>(c ρ).bind fun k=>if k=true then a ρ else b ρ
def Yua(ga:Ro->Option (List D))(fr:List D->Option Bool):Ro->Option Bool:=fun ρ=>(ga ρ).bind fr
theorem PA.nox'{X:Cx}{es:List Expr}{t:TA}(h:PA X.nox es t):PA X es t:=fun pos pins s σ H Q I hw=>
 wpAny_mono (h pos pins s σ H Q (I.wish _) hw) (fun _ _ ⟨v,H',I',r,q⟩=>⟨v,H',I'.unwish,r,q⟩) fun _ _ z=>False.elim z
section
variable {P:Program} {w:World} {K:W.Frag} {mg:Str->Option Value} {base:Heap} {N:List Str} {qual xn:Str} {scope:Scope} {f:Addr} {cd:Value} {A:Around} {outer:List Env} {s0:Shared} {H0:Hp} {E:XK} {sts rest:List Stmt}
theorem Yqe{y m:Str}{np p1 cpos pos:Pos}{j:Nat}{z:Bool}(hp:Xp K mg xn y z)(hg:Gl (cxOf (CXN P w) P w K mg base N qual scope f cd A outer s0 H0 E) xn:=by rfl)(hdb:(xn==("__debug__":Str))=false:=by decide)
 (hs:starEach [Expr.Constant (.str m) j p1] (envOfC qual scope s0.heap.objs.size f cd)=[(false,eval (Expr.Constant (.str m) j p1) (envOfC qual scope s0.heap.objs.size f cd))]:=by rfl) :
 ZX (cxOf (CXN P w) P w K mg base N qual scope f cd A outer s0 H0 E) E xn (.Raise (some (.Call (.Name xn np) [.Constant (.str m) j p1] [] cpos)) none pos::rest) xYes:=by
 obtain⟨C,_,hm,_,hc,_⟩:=hp
 exact⟨PSs.imp (Yg0 (Ywe hm hc hg hdb hs) Yhe) fun D σ H ⟨ρ,H0,G0,G,_,s,h⟩=>h C H G hm s.gr⟩
theorem y4o{X:Cx}:ZX X E xn sts xNo:=⟨PSs.imp Yhe fun _ _ _ ⟨_,_,_,_,e,_⟩=>by cases e⟩
theorem y3b{X:Cx}{c:Expr}{a:List Stmt}{fc ra rr:Ro->Option Bool}{pos:Pos}(hc:ZT X.nox c fc)(ha:ZX X E xn a ra)(hr:ZX X E xn rest rr):ZX X E xn (.If c a [] pos::rest) (xIf fc ra rr):=
 ⟨PSs.imp (Yg0 (y0w (PT.nox hc.un) ha.un Yrf) hr.un) fun D σ H ⟨ρ,H0,G0,G,e,s,h⟩=>by
  unfold xIf at e
  obtain⟨k,h1,e⟩:=qa e
  refine tTof.at h1 s fun H1 G1 g1 s1=>?_
  cases k with
  | true=>
    rw[if_pos rfl]at e ⊢
    exact⟨ρ,H0,G0,G1,e,s1,h⟩
  | false=>
    rw[if_neg qh]at e ⊢
    exact⟨ρ,H0,G0,G1,e,s1,h⟩⟩
theorem Yzz{j k n:Nat}{x:Str}{p cpos pos:Pos}{ps:List Str}{fr:List D->Option Bool}{e:Expr}{es:List Expr}{ga:Ro->Option (List D)}(c:Okx P w K mg base j n x ps fr xn)(hr:Room k (cxOf (CXN P w) P w K mg base N qual scope f cd A outer s0 H0 E).A)
 (hg:Gl (cxOf (CXN P w) P w K mg base N qual scope f cd A outer s0 H0 E) x) (ha:ZA (cxOf (CXN P w) P w K mg base N qual scope f cd A outer s0 H0 E).nox (e::es) ga) (hl:∀ρ l,ga ρ=some l->l.length=n) (hj:j<=k:=by first | exact qt _ | lia) (hdb:(x==("__debug__":Str))=false:=by decide)
 (he:starEach (e::es) (envOfC qual scope s0.heap.objs.size f cd)=(false,eval e (envOfC qual scope s0.heap.objs.size f cd))::starEach es (envOfC qual scope s0.heap.objs.size f cd):=by rfl) (hpl:(backTo cpos (starEach es (envOfC qual scope s0.heap.objs.size f cd))).any (·.1)=false:=by rfl)
 (hsw:swapsWith (.Call (.Name x p) (e::es) [] cpos) none pos.line (envOfC qual scope s0.heap.objs.size f cd)=pure false:=by rfl) :
 ZX (cxOf (CXN P w) P w K mg base N qual scope f cd A outer s0 H0 E) E xn (.Expr (.Call (.Name x p) (e::es) [] cpos) pos::rest) (Yua ga fr):=by
 obtain⟨a,fd,F,hb,hk,hm⟩:=c
 refine⟨PSs.imp (Yg0 (Yhd (Yrn (X:=cxOf (CXN P w) P w K mg base N qual scope f cd A outer s0 H0 E) (E:=E) (F.mono hj) hr hg hm hk hb .nil y4n (PA.nox' ha.un) hdb he hpl) hsw) Yhe) fun D σ H ⟨ρ,H0,G0,G,e,s,h⟩=>?_⟩
 unfold Yua at e
 obtain⟨l,h1,e⟩:=qa e
 refine tAof.at h1 s fun vs H1 G1 g1 r1 s1=>?_
 show spX K mg n fr xn (vs++[]) H1 _ E
 rw[List.append_nil]
 exact⟨by rw[r1.length];exact hl ρ l h1,l,G1,s1.seen,r1,e,fun C H' G' hC g'=>h C H' G' hC (s1.gr.trans g')⟩
theorem Yq8{x:Str}{st:Stmt}{fd:FuncData}{ps:List Str}{k n m:Nat}{r:Ro->Option Bool}(F:Fun K x qual st f fd)(S:FnScope N ps (defScope st))(hn:N.length=n)(hm:ps.length=m)
 (hb:∀(cdv:Value) (A:Around) (outer:List Env) (s:Shared) (H:Hp) (E:XK),Room k (A.deeper (envOfC qual (defScope st) s.heap.objs.size f cdv))->ZX (cxOf (CXN P w) P w K mg base N qual (defScope st) f cdv A outer s H E) E xn (defBody st) r) :
 FnOk P w K mg base (CXN P w) (k+1) f fd ps (spX K mg m (runX m n r) xn):=by
 obtain⟨oc,od,kV,doc,pm,an,cdv,ct,osl,rfl,lk,hcd⟩:=F.ex
 refine y1e lk hcd S (fun vs H Q E h=>by rw[h.1,hm]) fun A outer s H vs Q E hr h=>?_
 obtain⟨hl,ds,G,sm,rr,e,q⟩:=h
 refine⟨_,(hb cdv A outer s H E hr).un,?_⟩
 unfold runX at e
 split at e
 ·exact⟨Yq n ds,H,G,G,e,by rw[<-hn];exact SR.start sm rr,fun C H' G' hC g=>q C H' G' hC g⟩
 ·cases e
end
def tryF(ga:Ro->Option (List D))(fr:List D->Option Bool)(g:Ro->Option Out):Ro->Option Out:=fun ρ=>(ga ρ).bind fun l=>(fr l).bind fun b=>if b=true then g ρ else none
section
variable {X:Cx} {j k n:Nat} {x y nm xn:Str} {ps:List Str} {fr:List D->Option Bool} {p cpos pos1 np hpos pos:Pos} {e:Expr} {es:List Expr} {ga:Ro->Option (List D)} {b₀:Stmt} {suite:List Stmt} {g:Ro->Option Out}
theorem Ywk(c:Okx X.prog X.w X.K X.mg X.base j n x ps fr xn)(hp:Xp X.K X.mg xn y true)(hr:Room k X.A)(hg:Gl X x)(hgy:Gl X y)(ha:ZA X (e::es) ga)(hl:∀ρ l,ga ρ=some l->l.length=n)(hs:∀ea ob,(∀C,X.mg xn=some (.ref C)->Xo ob (.ref C))->ZB (Cx.mk X ea [(ea,ob)]) (b₀::suite) g)
 (hxe:∀e s,¬X.xe e s:=by exact fun _ _ h=>h) (hx:X.ex=[]:=by rfl) (hst:X.stack=X.env::X.outer:=by rfl) (hfr:X.env.frame=some X.env.locals:=by rfl) (hj:j<=k:=by first | exact qt _ | lia)
 (hdb:(x==("__debug__":Str))=false:=by decide) (hdy:(y==("__debug__":Str))=false:=by decide) (he:starEach (e::es) X.env=(false,eval e X.env)::starEach es X.env:=by rfl) (hpl:(backTo cpos (starEach es X.env)).any (·.1)=false:=by rfl) (hsw:swapsWith (.Call (.Name x p) (e::es) [] cpos) none pos1.line X.env=pure false:=by rfl) :
 ZS X (.Try [.Expr (.Call (.Name x p) (e::es) [] cpos) pos1] [.ExceptHandler (some (.Name y np)) none (b₀::suite) hpos] [] [] pos) (tryF ga fr g):=by
 obtain⟨a,fd,F,hb,hk,hm⟩:=c
 obtain⟨C,B,mC,mB,hC,_,hB,hin⟩:=hp
 refine⟨PS.imp (Yzv (ts:=sOf X.K g) hxe hx hst hfr (F.mono hj) hr hg hm hk hb ha.un hB hC mB hgy hin (fun ea ob hob=>(hs ea ob fun C' q=>by rw[mC]at q;cases q;exact hob).un) hdb hdy he hpl hsw) fun D σ H ⟨ρ,out,H0,G0,G,e,s,h⟩=>?_⟩
 unfold tryF at e
 obtain⟨l,h1,e⟩:=qa e
 obtain⟨b,h2,e⟩:=qa e
 cases b with
 | false=>rw[if_neg qh]at e;cases e
 | true=>
   rw[if_pos rfl]at e
   refine tAof.at h1 s fun vs H1 G1 g1 r1 s1=>⟨by rw[r1.length];exact hl ρ l h1,l,G1,s1.seen,r1,h2,fun C' H' G' hC' g'=>?_⟩
   rw[mC]at hC'
   cases hC'
   exact⟨rfl,ρ,out,H0,G0,G',e,s1.grow g',h⟩
theorem SR.drop{K:W.Frag}{H0 G0 H G:Hp}{σ:L2.St}{ρ:Ro}(s:SR K H0 G0 σ H G ρ)(i:Nat):SR K H0 G0 (σ.set i none) H G (ρ.set i none):=by
 have get:∀(m:Nat) (o:B),(ρ.set i none)[m]?=some (some o)->m≠i/\ρ[m]?=some (some o):=fun m o e=>by
  by_cases z:m=i
  ·subst z
   rw[List.getElem?_set,if_pos rfl]at e
   split at e<;>cases e
  ·rw[Qd (Ne.symm z)]at e
   exact⟨z,e⟩
 have gs:∀m,m≠i->(σ.set i none)[m]?=σ[m]?:=fun m z=>Qd (Ne.symm z)
 refine⟨s.gr,by rw[List.length_set,List.length_set];exact s.len,fun m d e=>?_,fun m l e=>?_,fun m m' l l' a b e e' ne q q'=>?_,fun m t ks vs e=>?_,fun m m' t ks vs t' ks' vs' a b e e' ne q q'=>?_⟩
 ·obtain⟨z,e⟩:=get _ _ e
  rw[gs m z];exact s.sh m d e
 ·obtain⟨z,e⟩:=get _ _ e
  rw[gs m z];exact s.ow m l e
 ·obtain⟨z,e⟩:=get _ _ e
  obtain⟨z',e'⟩:=get _ _ e'
  rw[gs m z]at q;rw[gs m' z']at q'
  exact s.ap m m' l l' a b e e' ne q q'
 ·obtain⟨z,e⟩:=get _ _ e
  rw[gs m z];exact s.od m t ks vs e
 ·obtain⟨z,e⟩:=get _ _ e
  obtain⟨z',e'⟩:=get _ _ e'
  rw[gs m z]at q;rw[gs m' z']at q'
  exact s.apd m m' t ks vs t' ks' vs' a b e e' ne q q'
theorem Ywl(i:Nat){gs:Addr->Ro->Option Out}(c:Okx X.prog X.w X.K X.mg X.base j n x ps fr xn)(hp:Xp X.K X.mg xn y true)(hr:Room k X.A)(hg:Gl X x)(hgy:Gl X y)(ha:ZA X (e::es) ga)(hl:∀ρ l,ga ρ=some l->l.length=n)(hN:X.N.Nodup)
 (hs:∀ea ob,(∀C,X.mg xn=some (.ref C)->Xo ob (.ref C))->ZB (Cx.mk X ea [(ea,ob)]) (b₀::suite) (gs ea)) (hgs:∀ea ρ out,g ρ=some out->∃ρ3,gs ea (ρ.set i (some (.sh (.adr ea))))=some (.nx ρ3)/\out=.nx (ρ3.set i none))
 (hxe:∀e s,¬X.xe e s:=by exact fun _ _ h=>h) (hx:X.ex=[]:=by rfl) (hst:X.stack=X.env::X.outer:=by rfl) (hfr:X.env.frame=some X.env.locals:=by rfl) (hj:j<=k:=by first | exact qt _ | lia) (hi:X.N[i]?=some nm:=by rfl) (hlo:X.env.kindOf nm=some .local:=by rfl)
 (hdb:(x==("__debug__":Str))=false:=by decide) (hdy:(y==("__debug__":Str))=false:=by decide) (he:starEach (e::es) X.env=(false,eval e X.env)::starEach es X.env:=by rfl) (hpl:(backTo cpos (starEach es X.env)).any (·.1)=false:=by rfl) (hsw:swapsWith (.Call (.Name x p) (e::es) [] cpos) none pos1.line X.env=pure false:=by rfl) :
 ZS X (.Try [.Expr (.Call (.Name x p) (e::es) [] cpos) pos1] [.ExceptHandler (some (.Name y np)) (some nm) (b₀::suite) hpos] [] [] pos) (tryF ga fr g):=by
 obtain⟨a,fd,F,hb,hk,hm⟩:=c
 obtain⟨C,B,mC,mB,hC,_,hB,hin⟩:=hp
 refine⟨PS.imp (Yzw (i:=i) (ts:=fun D σ H=>∃ρ ρ2 H0 G0 G,g ρ=some (.nx ρ2)/\SR X.K H0 G0 σ H G ρ/\∀σ' H' G' ρ3,ρ3.set i none=ρ2->SR X.K H0 G0 σ' H' G' ρ3->D.nx σ' H') hxe hx hst hfr (F.mono hj) hr hg hm hk hb ha.un hB hC mB hgy hin hN (fun ea ob hob=>?_) hi hlo hdb hdy he hpl hsw) fun D σ H ⟨ρ,out,H0,G0,G,e,s,h⟩=>?_⟩
 ·refine PSs.imp (hs ea ob fun C' q=>by rw[mC]at q;cases q;exact hob).un fun D σ H ⟨σ',e1,e2,ρ,ρ2,H0,G0,G,e,s,h⟩=>?_
  obtain⟨ρ3,e3,e4⟩:=hgs ea ρ _ e
  cases e4
  subst e1
  exact⟨_,_,H0,G0,G,e3,s.set_sh i (by rw[Rp]),fun σ2 H2 G2 s2=>h σ2 H2 G2 ρ3 rfl s2⟩
 ·unfold tryF at e
  obtain⟨l,h1,e⟩:=qa e
  obtain⟨b,h2,e⟩:=qa e
  cases b with
  | false=>rw[if_neg qh]at e;cases e
  | true=>
    rw[if_pos rfl]at e
    refine tAof.at h1 s fun vs H1 G1 g1 r1 s1=>⟨by rw[r1.length];exact hl ρ l h1,l,G1,s1.seen,r1,h2,fun C' H' G' hC' g'=>?_⟩
    rw[mC]at hC'
    cases hC'
    obtain⟨ρ3,_,rfl⟩:=hgs 0 ρ _ e
    refine⟨rfl,ρ,_,H0,G0,G',e,s1.grow g',fun σ2 H2 G2 ρ4 e4 s2=>h _ H2 G2 ?_⟩
    rw[<-e4]
    exact s2.drop i
end
def isX(i:Nat)(ea:Addr)(z:Bool):Ro->Option D:=fun ρ=>(getV i ρ).bind fun d=>match d with
 | .adr b=>if b=ea then some (.bl z)else none
 | _=>none
section
variable {X:Cx} {ea:Addr} {ob:Obj} {x xn y:Str} {p p1 p2 pos:Pos} {z:Bool}
theorem Yub{C B:Addr}(hob:Xo ob (.ref C))(hC:XC X.K C)(hQ:XQ X.K C)(hB:XC X.K B)(hz:(mroK X.K C).contains (.ref B)=z):Yb5 (Cx.mk X ea [(ea,ob)]) (.builtin "isinstance") (fun xs H Q=>xs=[.ref ea,.ref B]/\Q (.bl z) H):=by
 intro pins s σ H xs us Q I r h
 obtain⟨rfl,q⟩:=h
 obtain⟨u,u',rfl,r1,r2⟩:=Ynx r
 cases (show u=Value.ref ea from r1)
 cases (show u'=Value.ref B from r2)
 have he:=(I.pin (ea,ob) (List.mem_append.mpr (.inl (List.mem_append.mpr (.inl (.head _)))))).1
 have X':X.K.In s.heap:=I.kIn
 obtain⟨bm,N,nm,q0,bs,hdct,sn,sub,ab,col,dd,k0,k1,k2,k3,k5,mN,oC,_,_,T,em⟩:=Yj9 X' hC
 obtain⟨bm',N',nm',q',bs',hdct',sn',sub',ab',col',dd',l0,l1,l2,l3,l5,mN',oB,_,_,T',em'⟩:=Yj9 X' hB
 have TN:=Yqd X' hQ
 rw[em]at hz TN
 refine call_isinstance (S:=fun _ R s'=>s'=s/\∀t',R (.ok (.ret (.bool z))) { s' with toks:=t' }) (fun _ _ _ _ s' hs=>?_) ⟨rfl,fun t'=>⟨.bl z,H,I.tok t',rfl,q⟩⟩
 obtain⟨rfl,hs⟩:=hs
 obtain⟨hp,g,d,t,os⟩:=s'
 exact isinstance_outer (Ywj oC T TN oB he hob.1 hz fun t'=>hs t') (by intro e;cases e)
theorem Yci(i:Nat)(hp:Xp X.K X.mg xn y z)(hob:∀C,X.mg xn=some (.ref C)->Xo ob (.ref C))(hm:X.mg "isinstance"=none)(hg:Gl X "isinstance":=by rfl)(hgy:Gl X y:=by rfl)(hi:X.N[i]?=some x:=by rfl)(hv:Vis X.env.scope x:=by first | exact Or.inl rfl | exact Or.inr (Or.inl rfl) | exact Or.inr (Or.inr rfl))
 (hb:bootBuiltins "isinstance"=some (.builtin "isinstance"):=by decide +kernel) (hd:(x==("__debug__":Str))=false:=by decide) (hcd:(x==("__classdict__":Str))=false:=by decide) (hdy:(y==("__debug__":Str))=false:=by decide)
 (hs:starEach [.Name x p1,.Name y p2] X.env=(false,eval (.Name x p1) X.env)::starEach [.Name y p2] X.env:=by rfl) (hs2:starEach [.Name y p2] X.env=(false,eval (.Name y p2) X.env)::starEach [] X.env:=by rfl) (hpl:(backTo pos (starEach [.Name y p2] X.env)).any (·.1)=false:=by rfl) :
 ZE (Cx.mk X ea [(ea,ob)]) (.Call (.Name "isinstance" p) [.Name x p1,.Name y p2] [] pos) (isX i ea z):=by
 obtain⟨C,B,mC,mB,hC,hQ,hB,hz⟩:=hp
 refine⟨PE.imp (Yc3 (X:=Cx.mk X ea [(ea,ob)]) (Yub (hob C mC) hC hQ hB hz) hg hm hb (Ybd (Yhb (i:=i) hi hv hd hcd) (Ybd (Ynv hgy mB (v:=.ref B) rfl hdy) Yeb hs2) hs) (by decide) (by decide) hs hpl) fun σ H Q ⟨ρ,d,H0,G0,G,e,s,h⟩=>?_⟩
 obtain⟨d',h1,e2⟩:=qa (show(getV i ρ).bind _=some d from e)
 clear e
 cases d' with
 | adr b=>
   dsimp only at e2
   split at e2
   ·rename_i hb
    subst hb
    cases e2
    obtain⟨v,hv,rv⟩:=s.sh i _ (Yhm h1)
    rw[Rp]at rv
    subst rv
    exact⟨_,hv,rfl,h _ H G (.refl s.seen) (by rw[Rp])⟩
   ·cases e2
 | _=>cases e2
theorem Yuc{C:Addr}(hob:Xo ob (.ref C))(hC:XC X.K C):Yb5 (Cx.mk X ea [(ea,ob)]) (.builtin "isinstance") (fun xs H Q=>xs=[.ref ea,.ty "ValueError"]/\Q (.bl true) H):=by
 intro pins s σ H xs us Q I r h
 obtain⟨rfl,q⟩:=h
 obtain⟨u,u',rfl,r1,r2⟩:=Ynx r
 cases (show u=Value.ref ea from r1)
 cases (show u'=Value.type "ValueError" from r2)
 have he:=(I.pin (ea,ob) (List.mem_append.mpr (.inl (List.mem_append.mpr (.inl (.head _)))))).1
 obtain⟨bm,N,nm,q0,bs,hdct,sn,sub,ab,col,dd,k0,k1,k2,k3,k5,mN,oC,_,_,T,em⟩:=Yj9 (show X.K.In s.heap from I.kIn) hC
 refine call_isinstance (S:=fun _ R s'=>s'=s/\R (.ok (.ret (.bool true))) s') (fun _ _ _ _ s' hs=>?_) ⟨rfl,⟨.bl true,H,I,rfl,q⟩⟩
 obtain⟨rfl,hs⟩:=hs
 obtain⟨hp,g,d,t,os⟩:=s'
 exact isinstance_outer (Yt9 oC T he hob.1 hs) (by intro e;cases e)
theorem Ywm(i:Nat){z':Bool}(hp:Xp X.K X.mg xn y z')(hob:∀C,X.mg xn=some (.ref C)->Xo ob (.ref C))(hm:X.mg "isinstance"=none)(hm2:X.mg "ValueError"=none)(hg:Gl X "isinstance":=by rfl)(hgy:Gl X "ValueError":=by rfl)(hi:X.N[i]?=some x:=by rfl)(hv:Vis X.env.scope x:=by first | exact Or.inl rfl | exact Or.inr (Or.inl rfl) | exact Or.inr (Or.inr rfl))
 (hb:bootBuiltins "isinstance"=some (.builtin "isinstance"):=by decide +kernel) (hb2:bootBuiltins "ValueError"=some (.type "ValueError"):=by decide +kernel) (hd:(x==("__debug__":Str))=false:=by decide) (hcd:(x==("__classdict__":Str))=false:=by decide)
 (hs:starEach [.Name x p1,.Name "ValueError" p2] X.env=(false,eval (.Name x p1) X.env)::starEach [.Name "ValueError" p2] X.env:=by rfl) (hs2:starEach [.Name "ValueError" p2] X.env=(false,eval (.Name "ValueError" p2) X.env)::starEach [] X.env:=by rfl) (hpl:(backTo pos (starEach [.Name "ValueError" p2] X.env)).any (·.1)=false:=by rfl) :
 ZE (Cx.mk X ea [(ea,ob)]) (.Call (.Name "isinstance" p) [.Name x p1,.Name "ValueError" p2] [] pos) (isX i ea true):=by
 obtain⟨C,B,mC,mB,hC,_⟩:=hp
 refine⟨PE.imp (Yc3 (X:=Cx.mk X ea [(ea,ob)]) (Yuc (hob C mC) hC) hg hm hb (Ybd (Yhb (i:=i) hi hv hd hcd) (Ybd (Yre hgy hm2 hb2 (v:=.ty "ValueError") rfl (by decide) (by decide)) Yeb hs2) hs) (by decide) (by decide) hs hpl) fun σ H Q ⟨ρ,d,H0,G0,G,e,s,h⟩=>?_⟩
 obtain⟨d',h1,e2⟩:=qa (show(getV i ρ).bind _=some d from e)
 clear e
 cases d' with
 | adr b=>
   dsimp only at e2
   split at e2
   ·rename_i hb
    subst hb
    cases e2
    obtain⟨v,hv,rv⟩:=s.sh i _ (Yhm h1)
    rw[Rp]at rv
    subst rv
    exact⟨_,hv,rfl,h _ H G (.refl s.seen) (by rw[Rp])⟩
   ·cases e2
 | _=>cases e2
end
end
section
theorem Yk2:entryFor table "proto.unchain"=some Builtin.«proto.unchain»:=entryFor_of_tree (by kernel_rfl)
section
variable {prog:Program} {w:World} {A:Around} {E:Value->Shared->Prop} {s:Shared} {ea:Addr} {ob:Obj} {ws:Array Value} {X:Cx} {C:Value}
theorem Yud{α:Type}{n:Addr}{o:Obj}{vs:Array Value}{Q:α->Shared->Prop}(hh:A.handled=some (.ref ea))(he:s.heap.get? ea=some ob)(hd:ob.data=.fields ws)(h2:ws[2]?=some .none)(hn:s.heap.get? n=some o)(hnd:o.data=.fields vs)(hsz:2 < vs.size)(hne:ea≠n)
 (h:E (.ref n) { s with heap:=s.heap.update n (Obj.mapFields (·.setIfInBounds 2 (.ref ea))) }):wpAny (model prog w) A (raiseNew (.ref n):Sem α) Q E s:=by
 unfold raiseNew
 refine wpAny_bind (wpAny_handled ?_)
 rw[hh]
 show wpAny _ _ (if (Value.ref ea != Value.ref n)=true then _ else _) _ _ _
 rw[if_pos (show(Value.ref ea != Value.ref n)=true from by simpa using hne)]
 refine wpAny_bind (wpAny_holding (wpAny_runValue (codeAny_builtin Yk2 ?_)))
 unfold Builtin.«proto.unchain»
 refine wpAny_bind (wpAny_field he hd h2 ?_)
 rw[if_pos (by decide)]
 refine wpAny_bind (wpAny_pure (wpAny_pure ?_))
 refine wpAny_bind ?_
 unfold updateField
 refine wpAny_bind (wpAny_load hn ?_)
 rw[hnd]
 show wpAny _ _ (if 2 < vs.size then _ else _) _ _ _
 rw[if_pos hsz]
 exact wpAny_update hn (wpAny_throw h)
theorem Yue{it l:Addr}{i:Nat}{items:Array Value}{Q:Option Value->Shared->Prop}(hh:A.handled=some (.ref ea))(he:s.heap.get? ea=some ob)(hob:ob.data=.fields ws)(h2:ws[2]?=some .none)(hne:ea≠it)
 (hit:s.heap.IsListIter it l i) (hl:s.heap.IsList l items) (hx:items[i]?=none) (hQ:∀h',Heap.ExtBut it s.heap h'->Q none { s with heap:=h' }):wpAny (model prog w) A (pyNext (.ref it)) Q E s:=by
 obtain⟨o,ho,hc,hd⟩:=id hit
 obtain⟨ol,hol,_,nl,hdl⟩:=hl
 unfold pyNext
 refine wpAny_bind (wpAny_attempt (wpAny_callSpecial?_slot (name:=Str.ofString "__next__") hit.typeIs slot_listiter_next (wpAny_call_entry slot_listiter_next hit.typeIs entry_listiter_next ?_ (args_listiter_next _))))
 show wpAny _ _ (field (.ref it) 0 >>= _) _ _ s
 refine wpAny_bind (wpAny_field ho hd (x:=.ref l) rfl ?_)
 show wpAny _ _ (if (Value.ref l==Value.none)=true then _ else _) _ _ s
 rw[if_neg (show ¬((Value.ref l==Value.none)=true) from qh)]
 show wpAny _ _ (field (.ref it) 1 >>= _) _ _ s
 refine wpAny_bind (wpAny_field ho hd (x:=.int i 0) rfl ?_)
 show wpAny _ _ (seqItems? (.ref l) >>= _) _ _ s
 refine wpAny_bind (wpAny_seqItems hol hdl ?_)
 simp only[Int.toNat_natCast,hx]
 refine wpAny_bind (wpAny_rule (wpAny_bind (wpAny_setField ho hd (by simp) ?_)))
 show wpAny _ _ (newExc (.type "StopIteration") [] >>= _) _ _ _
 refine wpAny_bind ?_
 simp only[newExc,newTuple]
 refine wpAny_bind (wpAny_newObj_type ?_ (by size_fits))
 refine wpAny_bind (m:=firstArgMember _ _) (wpAny_of_eq (a:=Value.none) (by first | rfl | (simp only[firstArgMember];rfl)) ?_)
 refine wpAny_newObj_type ?_ (by size_fits)
 have hlt:=qk he
 refine Yud (show A.in1.handled=some (.ref ea) from hh) (qd _ (qd _ ((Heap.get?_update_other _ _ (Ne.symm hne)).trans he))) hob h2 (qo _ rfl) rfl (by simp[ownMembersOf]) (ql (by rw[Heap.size_push,Heap.size_update];exact qv hlt)) ?_
 refine wpAny_bind (wpAny_isInstance (T:="StopIteration") (b:=true) ⟨_,Heap.get?_update_self _ (qo _ rfl) rfl,rfl⟩ isSubtype_stop ?_)
 refine wpAny_pure (hQ _ fun b u hb e=>?_)
 have:=qk e
 rw[Heap.get?_update_other _ _ (Nat.ne_of_gt (by rw[Heap.size_push,Heap.size_update];exact qv this))]
 exact qd _ (qd _ ((Heap.get?_update_other _ _ (Ne.symm hb)).trans e))
theorem Yom(hh:A.handled=some (.ref ea))(hob:ob.data=.fields ws)(h2:ws[2]?=some .none)(I ax:Addr)(hne:ax≠I)(hei:ea≠I)(items:Array Value) :
 Walks prog w A I [I,ax,ea] [I] items.size (fun i v=>items[i]?=some v) (fun i h=>(h.IsListIter I ax i/\h.IsList ax items)/\h.get? ea=some ob) where
 sub:=fun b hb=>by simp at hb;simp[hb]
 frame:=fun _ _ _ st hk=>⟨⟨st.1.1.at fun o e=>hk I (by simp) o e,st.1.2.at fun o e=>hk ax (by simp) o e⟩,hk ea (by simp) _ st.2⟩
 item:=fun i s Q E hi st hQ=>by
  refine wpAny_pyNext_list_item st.1.1 st.1.2 (x:=items[i]) (by simp[hi]) fun h' hit' hs'=>?_
  exact hQ _ h' s.toks (by simp[hi]) ⟨⟨hit',st.1.2.extBut hs'.extBut hne⟩,hs'.extBut ea _ hei st.2⟩ fun b o hb e=>hs'.extBut b o (fun h=>hb (by simp[h])) e
 done:=fun s Q E st hQ=>Yue hh st.2 hob h2 hei st.1.1 st.1.2 (by simp) fun h' he'=>hQ h' s.toks fun b o hb e=>he' b o (fun h=>hb (by simp[h])) e
 self:=fun _ _ _ _ st hQ=>wpAny_pyIter_listiter st.1.1 hQ
theorem Yuf(hob:Xo ob C):Yb5 (Cx.mk X ea [(ea,ob)]) (.builtin "any") (rBls fun bs=>.bl (bs.any id)):=by
 intro pins s σ H xs us Q I r h
 obtain⟨a,bs,rfl,hr,q⟩:=h
 obtain⟨u,rfl,ru⟩:=Ygl r
 cases ru
 obtain⟨its,rv,pl,hz⟩:=I.list (.inl hr)
 cases Ye9 rv
 obtain⟨hcl,ws,hd,h2⟩:=hob
 have he:=(I.pin (ea,ob) (List.mem_append.mpr (.inl (List.mem_append.mpr (.inl (.head _)))))).1
 have hl:=pl.isList
 have hne:a≠s.heap.objs.size:=by
  obtain⟨o,ho,_⟩:=hl
  exact ql (qk ho)
 have hei:ea≠s.heap.objs.size:=ql (qk he)
 have hhm:(Cx.mk X ea [(ea,ob)]).A.in1.handled=some (.ref ea):=rfl
 refine call_any_walk (wpAny_pyIter_list hl ?_)
 refine⟨_,_,_,_,_,_,fun i=>bs.getD i false,rfl,Yom hhm hd h2 s.heap.objs.size a hne hei _,⟨⟨⟨_,qo _ rfl,rfl,rfl⟩,?_⟩,qd _ he⟩,Yhw _ _ _ bs,fun h' tk k=>⟨.bl _,H,(show Inv (Cx.mk X ea [(ea,ob)]) pins σ H { s with heap:=h',toks:=tk } from Ydp I k),?_,q⟩⟩
 ·obtain⟨o,ho,r⟩:=hl
  exact⟨o,qd _ ho,r⟩
 ·show Value.bool _=Value.bool _
  rw[qj,qe,Ymc]
end
end
section
section
variable {X:Cx} {ea:Addr} {ob:Obj} {xn y:Str} {z:Bool}
theorem Yka(hp:Xp X.K X.mg xn y z)(hob:∀C,X.mg xn=some (.ref C)->Xo ob (.ref C)):Yb5 (Cx.mk X ea [(ea,ob)]) (.builtin "any") (rBls fun bs=>.bl (bs.any id)):=by
 obtain⟨C,_,hC,_⟩:=hp
 exact Yuf (hob C hC)
end
def powI:D->D->Option D:=i2 (fun i j=>decide (0<=j/\j<=1000000/\i.natAbs < 2 ^ 64)) fun i j=>i ^ j.toNat
section
variable {X:Cx} {a b:Expr} {fa fb:Ro->Option D} {pos:Pos}
theorem y3c(ha:MC X a fa)(hb:MC X b fb):ME X (.BinOp a .Pow b pos) (b2 fa fb powI):=Yj1 y04 (Ypm (fun i j h=>(show 0<=j/\j<=1000000/\i.natAbs < 2 ^ 64 from of_decide_eq_true h))) ha hb
theorem Yz0(ha:ZC X a fa)(hb:ZC X b fb):ZE X (.BinOp a .Pow b pos) (b2 fa fb powI):=⟨y3c ha.un hb.un⟩
end
def Xk(K:W.Frag)(x y:Str)(z:Bool):Prop:=∃C D,W.nsIn K mainGlobals x=some (some (.ref C))/\W.nsIn K mainGlobals y=some (some (.ref D))/\XC K C/\XQ K C/\XC K D/\(mroK K C).contains (.ref D)=z
theorem Xk.on{K:W.Frag}{h:Heap}{mg:Str->Option Value}{x y:Str}{z:Bool}(F:Xk K x y z)(X:K.In h)(G:h.Ns mainGlobals mg):Xp K mg x y z:=by
 obtain⟨C,D,a,b,r⟩:=F
 exact⟨C,D,W.mg_of X G a,W.mg_of X G b,r⟩
theorem xk_mk{K:W.Frag}{x y:Str}{z:Bool}{C D:Addr}(a:W.nsIn K mainGlobals x=some (some (.ref C)))(b:W.nsIn K mainGlobals y=some (some (.ref D)))(c:W.excIn K C vM "ValueError.__new__"=true)(d:Yt5 K vM (mroK K C)=true)(e:W.excIn K D vM "ValueError.__new__"=true)(f:(mroK K C).contains (.ref D)=z):Xk K x y z:=⟨C,D,a,b,c,d,e,f⟩
end
end M
namespace Lw
open PySem PySem.Spec PyProof.Rows L2 M
def top(i:Nat):Stmt:=PySem.Challenge.pw_duskbook_k54_tables_refused.main.body.getD i (.Pass ⟨0,0,0,0⟩)
def gt_BLENDED_COUNTS:List (Str × Int):=[((Str.ofString "eithers"),3),((Str.ofString "sums"),3),((Str.ofString "ifs"),2),((Str.ofString "nots"),2)]
def Yg7:List Str:=[(Str.ofString "eithers"),(Str.ofString "sums"),(Str.ofString "ifs"),(Str.ofString "nots")]
set_option maxHeartbeats 4000000
def Fq(K:W.Frag)(mg:Str->Option Value)(x:Str)(i:Nat):Prop:=∃a fd,Fun K x x (top i) a fd/\mg x=some (.ref a)
def Fk(K:W.Frag)(x:Str)(i:Nat):Prop:=∃a fd,W.nsIn K mainGlobals x=some (some (.ref a))/\Fun K x x (top i) a fd
theorem Fk.on{K:W.Frag}{h:Heap}{mg:Str->Option Value}{x:Str}{i:Nat}(F:Fk K x i)(X:K.In h)(G:h.Ns mainGlobals mg):Fq K mg x i:=by
 obtain⟨a,fd,n,f⟩:=F
 exact⟨a,fd,f,W.mg_of X G n⟩
theorem fk_mk{K:W.Frag}{x:Str}{i:Nat}{f:Addr}{oc:Value}{od an:Option Addr}{osl:Array (Option Value)}{kV doc pm cdv ct:Value}(a:W.nsIn K mainGlobals x=some (some (.ref f)))(l:K.lookup f=some ⟨oc,od,.func (W.fnOf x x (defArgs (top i)) (defBody (top i)) (defScope (top i)) .none kV doc pm an cdv ct),osl⟩)(c:W.codeIn K cdv x=true)(k:W.keepIn K (.ref f)=true):Fk K x i:=⟨_,_,a,Yww l c k⟩
theorem fns{N ps:List Str}{sc:Scope}(a:sc.kind=.function:=by rfl)(b:sc.isCoroutine=false:=by rfl)(c:sc.isGenerator=false:=by rfl)(d:N.Nodup:=by decide +kernel)(e:N.take ps.length=ps:=by rfl)(f:∀x∈ps,sc.names.lookup x=some .local\/sc.names.lookup x=some .cell:=by decide +kernel)(g:∀y∈sc.names,y.2≠.free:=by decide +kernel):FnScope N ps sc:=⟨a,b,c,d,e,f,g⟩
def Bnd(x:Str)(i:Nat)(ps:List Str):Prop:=∀(kV doc pm:Value) (an:Option Addr) (cdv ct:Value) (us:List Value),us.length=ps.length->bindArgs (W.fnOf x x (defArgs (top i)) (defBody (top i)) (defScope (top i)) .none kV doc pm an cdv ct) ⟨us,[]⟩=pure (ps.zip us)
theorem okfn{P:Program}{w:World}{K:W.Frag}{mg:Str->Option Value}{base:Heap}{x:Str}{i k n m:Nat}{N ps:List Str}{fb:Ro->Option Out}(F:Fq K mg x i)(S:FnScope N ps (defScope (top i)))(hb:∀{f:Addr} {cdv:Value} {A:Around} {outer:List Env} {s:Shared} {H:Hp} {E:XK},Room k (A.deeper (envOfC x (defScope (top i)) s.heap.objs.size f cdv))->ZB (cxOf CX0 P w K mg base N x (defScope (top i)) f cdv A outer s H E).nox (defBody (top i)) fb)(hn:N.length=n:=by rfl)(hm:ps.length=m:=by rfl)(B:Bnd x i ps:=by(intro _ _ _ _ _ _ us hl;first | (obtain⟨_,rfl⟩:=len1 hl;rfl) | (obtain⟨_,_,rfl⟩:=len2 hl;rfl) | (obtain⟨_,_,_,rfl⟩:=len3 hl;rfl) | (obtain⟨_,_,_,_,rfl⟩:=len4 hl;rfl) | (obtain⟨_,_,_,_,_,rfl⟩:=len5 hl;rfl) | (obtain⟨_,_,_,_,_,_,rfl⟩:=len6 hl;rfl) | (obtain⟨_,_,_,_,_,_,_,rfl⟩:=len7 hl;rfl))):Okf P w K mg base (k+1) m x ps (runB m n fb):=by
 obtain⟨a,fd,f,h⟩:=F
 exact y2k f (f.binds B) h (Yj7 (k:=k) f S hn hm fun _ _ _ _ _ _ hr=>hb hr)
theorem okfx{P:Program}{w:World}{K:W.Frag}{mg:Str->Option Value}{base:Heap}{x xn:Str}{i k n m:Nat}{N ps:List Str}{r:Ro->Option Bool}(F:Fq K mg x i)(S:FnScope N ps (defScope (top i)))(hb:∀{f:Addr} {cdv:Value} {A:Around} {outer:List Env} {s:Shared} {H:Hp} {E:XK},Room k (A.deeper (envOfC x (defScope (top i)) s.heap.objs.size f cdv))->ZX (cxOf (CXN P w) P w K mg base N x (defScope (top i)) f cdv A outer s H E) E xn (defBody (top i)) r)(hn:N.length=n:=by rfl)(hm:ps.length=m:=by rfl)(B:Bnd x i ps:=by(intro _ _ _ _ _ _ us hl;first | (obtain⟨_,rfl⟩:=len1 hl;rfl) | (obtain⟨_,_,rfl⟩:=len2 hl;rfl) | (obtain⟨_,_,_,rfl⟩:=len3 hl;rfl) | (obtain⟨_,_,_,_,rfl⟩:=len4 hl;rfl) | (obtain⟨_,_,_,_,_,rfl⟩:=len5 hl;rfl) | (obtain⟨_,_,_,_,_,_,rfl⟩:=len6 hl;rfl) | (obtain⟨_,_,_,_,_,_,_,rfl⟩:=len7 hl;rfl))):Okx P w K mg base (k+1) m x ps (runX m n r) xn:=by
 obtain⟨a,fd,f,h⟩:=F
 exact⟨a,fd,Yq8 (k:=k) f S hn hm fun _ _ _ _ _ _ hr=>hb hr,f.binds B,f.kp,h⟩
theorem okfr{P:Program}{w:World}{K:W.Frag}{mg:Str->Option Value}{base:Heap}{x:Str}{i m L:Nat}{ps:List Str}{mr:Nat->List D->Option D}(F:Fq K mg x i)(h0:mr 0=fun _=>none)(hs:∀{k j:Nat},Okf P w K mg base k m x ps (mr j)->L<=k->Okf P w K mg base (k+1) m x ps (mr (j+1)))(hm:ps.length=m:=by rfl)(B:Bnd x i ps:=by(intro _ _ _ _ _ _ us hl;first | (obtain⟨_,rfl⟩:=len1 hl;rfl) | (obtain⟨_,_,rfl⟩:=len2 hl;rfl) | (obtain⟨_,_,_,rfl⟩:=len3 hl;rfl) | (obtain⟨_,_,_,_,rfl⟩:=len4 hl;rfl) | (obtain⟨_,_,_,_,_,rfl⟩:=len5 hl;rfl) | (obtain⟨_,_,_,_,_,_,rfl⟩:=len6 hl;rfl) | (obtain⟨_,_,_,_,_,_,_,rfl⟩:=len7 hl;rfl))):∀j,Okf P w K mg base (L+j) m x ps (mr j)
 | 0=>by
   obtain⟨a,fd,f,h⟩:=F
   rw[h0]
   exact Yvo f (f.binds B) h hm
 | j+1=>hs (okfr F h0 hs hm B j) (Nat.le_add_right _ _)
theorem aL1{f0:Ro->Option D}:∀ρ l,Ye f0 aNil ρ=some l->l.length=1:=Yhp fun _ _ h=>Yvg h
theorem aL2{f0 f1:Ro->Option D}:∀ρ l,Ye f0 (Ye f1 aNil) ρ=some l->l.length=2:=Yhp aL1
theorem aL3{f0 f1 f2:Ro->Option D}:∀ρ l,Ye f0 (Ye f1 (Ye f2 aNil)) ρ=some l->l.length=3:=Yhp aL2
structure Bl(K:W.Frag)(w:World)(mg:Str->Option Value):Prop where
 Len:mg "len"=none
 Range:mg "range"=none
 List:mg "list"=none
 Tuple:mg "tuple"=none
 Int:mg "int"=none
 Bool:mg "bool"=none
 Str:mg "str"=none
 Sorted:mg "sorted"=none
 Any:mg "any"=none
 All:mg "all"=none
 Isinstance:mg "isinstance"=none
 Enumerate:mg "enumerate"=none
 Set:mg "set"=none
 Valueerror:mg "ValueError"=none
 g_BEACON_COUNT:GI mg "BEACON_COUNT" 60
 g_BLENDED_COUNTS:GDI K w mg "BLENDED_COUNTS" gt_BLENDED_COUNTS
 g_KINDS:GT K mg "KINDS" Yg7
 g_MOST_LENGTH:GI mg "MOST_LENGTH" 4
 g_MOST_RULES:GI mg "MOST_RULES" 60
 g_MOST_SAYINGS:GI mg "MOST_SAYINGS" 2
 f1:Fq K mg "blended_light" 1
 f2:Fq K mg "lit_count_at" 2
 f3:Fq K mg "blended" 3
 f19:Fq K mg "is_beacon" 19
 f20:Fq K mg "checked_beacon" 20
 f21:Fq K mg "checked_truth" 21
 f22:Fq K mg "checked_beacons" 22
 f23:Fq K mg "either_made" 23
 f24:Fq K mg "sum_made" 24
 f25:Fq K mg "if_made" 25
 f26:Fq K mg "rule_made" 26
 f27:Fq K mg "book_made" 27
 f28:Fq K mg "either_holds" 28
 f29:Fq K mg "sum_holds" 29
 f30:Fq K mg "if_holds" 30
 f31:Fq K mg "rule_holds" 31
 f32:Fq K mg "broken_rules" 32
 f33:Fq K mg "holds" 33
 f37:Fq K mg "is_length" 37
 f38:Fq K mg "check_table" 38
 f39:Fq K mg "all_evenings" 39
 f40:Fq K mg "groups_of" 40
 f41:Fq K mg "small_groups" 41
 f42:Fq K mg "eithers_over" 42
 f43:Fq K mg "rules_over" 43
 f44:Fq K mg "holds_on_all" 44
 f45:Fq K mg "book_of" 45
 f46:Fq K mg "lacking_blend" 46
 f47:Fq K mg "table_told" 47
 f49:Fq K mg "_law_cell" 49
 f50:Fq K mg "_law_mixed" 50
 f51:Fq K mg "_law_kind" 51
 f52:Fq K mg "_law_bits" 52
 f53:Fq K mg "_law_all" 53
 f54:Fq K mg "_law_kinds" 54
 f55:Fq K mg "_law_no_length" 55
 f56:Fq K mg "_law_book_of" 56
 x_NoTable_NoTable:Xp K mg "NoTable" "NoTable" true
 x_NoTable_DuskError:Xp K mg "NoTable" "DuskError" true
 x_NoTable_NoPage:Xp K mg "NoTable" "NoPage" false
 x_NoTable_NoneSettled:Xp K mg "NoTable" "NoneSettled" false
 x_NoTable_NoLight:Xp K mg "NoTable" "NoLight" false
 x_NoTable_NoHands:Xp K mg "NoTable" "NoHands" false
 x_NoTable_Over:Xp K mg "NoTable" "Over" false
 x_NoTable_NoBook:Xp K mg "NoTable" "NoBook" false
 x_NoTable_NoPaper:Xp K mg "NoTable" "NoPaper" false
section
variable {P:Program} {w:World} {K:W.Frag} {mg:Str->Option Value} {base:Heap}
theorem Ygp:FnScope ["kind","lit_count"] ["kind","lit_count"] (defScope (top 1)):=fns
@[simp] def Yfx:Ro->Option Out:=(sRet (mB (b2 (getC 1) (kD (.int 1)) geI)))
@[simp] def Yfy:Ro->Option Out:=(sSeq (sIf (b2 (getC 0) (kD (.str "ifs")) (eqM false)) (sRet (mB (b2 (getC 1) (kD (.int 2)) (eqM false)))) sNil) Yfx)
@[simp] def Yfz:Ro->Option Out:=(sSeq (sIf (b2 (getC 0) (kD (.str "sums")) (eqM false)) (sRet (mB (b2 (b2 (getC 1) (kD (.int 2)) modI) (kD (.int 1)) (eqM false)))) sNil) Yfy)
def Ydr:Ro->Option Out:=(sSeq (sIf (b2 (getC 0) (kD (.str "eithers")) (eqM false)) (sRet (mB (b2 (getC 1) (kD (.int 2)) geI))) sNil) Yfz)
def Ybg:List D->Option D:=runB 2 2 Ydr
theorem Ygq(bl:Bl K w mg):Okf P w K mg base 1 2 "blended_light" ["kind","lit_count"] Ybg:=by
 refine okfn bl.f1 Ygp fun hr=>?_
 exact(Yi (Yag (Yed hr.units (Yg 0) (Yd Yao)) (Yk (Yo (Yxg (Yg 1) (Yd Yl)))) y7) (Yi (Yag (Yed hr.units (Yg 0) (Yd Yao)) (Yk (Yo (Ydq hr.units (Yd (Ybo (Yg 1) (Yd Yl))) (Yd Yl)))) y7) (Yi (Yag (Yed hr.units (Yg 0) (Yd Yao)) (Yk (Yo (Ydq hr.units (Yg 1) (Yd Yl)))) y7) (Yk (Yo (Yxg (Yg 1) (Yd Yl)))))))
theorem Yif:FnScope ["evenings","beacon"] ["evenings","beacon"] (defScope (top 2)):=fns
theorem cs_lit_count_at_0:CompSc ["evenings","beacon"] (defScope (top 2)) ["evening","beacon"] [none,some 1] (fsc [(".0",.local),("evening",.local),("beacon",.free)]):=Yw (by decide +kernel)
def Ybq:Ro->Option Bool:=(b1 (b2 (getC 0) (getC 1) ixD) truD)
def Ybr:Ro->Option D:=(getV 0)
def Yee:Ro->Option Out:=(sRet (cC (Ye (lF (Ya0 (b1 (getV 0) Ym) [none,some 1] (gSet 0) (Ybq) (Ybr))) aNil) lenC))
def Ybz:List D->Option D:=runB 2 2 Yee
theorem Yig(bl:Bl K w mg):Okf P w K mg base 1 2 "lit_count_at" ["evenings","beacon"] Ybz:=by
 refine okfn bl.f2 Yif fun hr=>?_
 exact(Yk (Yo (y0 Yz Ya8 rfl bl.Len PySem.boot_len (Yp (Yd (Yab (Yaj cs_lit_count_at_0 rfl (Yac (Yc 0)) (fun _ _ _ _ _=>(Yu 0 cs_lit_count_at_0.nd)) (fun _ _ _ _ _=>(Yff (Yba (Yd (Yy (Yg 0) (Yg 1)))))) (fun _ _ _ _ _=>(Yc 0)) (Yae (i:=0) rfl)))) Yr))))
theorem sc_blended:FnScope ["kind","evenings","lit_counts"] ["kind","evenings"] (defScope (top 3)):=fns
theorem cs_blended_0:CompSc ["kind","evenings","lit_counts"] (defScope (top 3)) ["beacon","evenings"] [none,some 1] (fsc [(".0",.local),("beacon",.local),("lit_count_at",.globalImplicit),("evenings",.free)]):=Yw (by decide +kernel)
theorem cs_blended_1:CompSc ["kind","evenings","lit_counts"] (defScope (top 3)) ["lit_count","kind"] [none,some 0] (fsc [(".0",.local),("lit_count",.local),("blended_light",.globalImplicit),("kind",.free)]):=Yw (by decide +kernel)
def Yds:Ro->Option D:=(cC (Ye (getV 1) (Ye (getV 0) aNil)) Ybz)
def Ydt:Ro->Option D:=(cC (Ye (getV 1) (Ye (getV 0) aNil)) Ybg)
def Ym2:Ro->Option Out:=(sSeq (sOwn 2 (Ya0 (cF (Ye (cC (Ye (b2 (getC 1) (kD (.int 0)) ixD) aNil) lenC) aNil) rng1) [none,some 1] (gSet 0) tY (Yds))) (wF [2] (sRet (cC (Ye (lF (Ya0 (b1 (getV 2) Ym) [none,some 0] (gSet 0) tY (Ydt))) aNil) tupC))))
def Ydu:List D->Option D:=runB 2 3 Ym2
theorem Yq9(bl:Bl K w mg):Okf P w K mg base 2 2 "blended" ["kind","evenings"] Ydu:=by
 refine okfn bl.f3 sc_blended fun hr=>?_
 exact(Yi (Ydb 2 sc_blended.nd cs_blended_0 rfl (Yc0 rfl bl.Range (Yb (y0 Yz Ya8 rfl bl.Len PySem.boot_len (Yp (Yd (Yy (Yg 1) (Yd Yl))) Yr)) Yh)) (fun _ _ _ _ _=>(Yu 0 cs_blended_0.nd)) (fun _ _ _ _ _=>Yaq) (fun _ _ _ _ _=>(Yj (Yig bl) hr rfl (Yb (Yc 1) (Yb (Yc 0) Yh)) aL2)) (Yae (i:=0) rfl)) (Yk (Yap [2] (Yo (Ybp Yau Yer rfl bl.Tuple boot_tuple (Yp (Yd (Yab (Yaj cs_blended_1 rfl (Yac (Yc 2)) (fun _ _ _ _ _=>(Yu 0 cs_blended_1.nd)) (fun _ _ _ _ _=>Yaq) (fun _ _ _ _ _=>(Yj (Ygq bl) hr rfl (Yb (Yc 1) (Yb (Yc 0) Yh)) aL2)) (Yae (i:=0) rfl)))) Yr))))))
theorem Ym3:FnScope ["thing"] ["thing"] (defScope (top 19)):=fns
def Yon:Ro->Option Out:=(sRet (andV (mB (b1 (getC 0) (isiD "int"))) (andV (notV (mB (b1 (getC 0) (isiD "bool")))) (mB (ch3 (kD (.int 0)) (getC 0) (kD (.int 60)) leI ltI)))))
def Yih:List D->Option D:=runB 1 1 Yon
theorem Ym4(bl:Bl K w mg):Okf P w K mg base 1 1 "is_beacon" ["thing"] Yih:=by
 refine okfn bl.f19 Ym3 fun hr=>?_
 exact(Yk (Yo (Yh9 (Yev (Yg 0) rfl rfl bl.Isinstance bl.Int boot_int (Yr9)) (Yh9 (Ytk (Yev (Yg 0) rfl rfl bl.Isinstance bl.Bool boot_bool (Ypq))) (Yk0 (Ymy Yxt Yep y06 Yep (Yd Yl) (Yg 0) (Yd (Yg4 bl.g_BEACON_COUNT rfl))))))))
theorem Yf0:FnScope ["thing"] ["thing"] (defScope (top 20)):=fns
def Ygr:Ro->Option Out:=(sSeq (sIf (notT (b1 (cC (Ye (getV 0) aNil) Yih) truD)) nS sNil) (sRet (getV 0)))
def Ya7:List D->Option D:=runB 1 1 Ygr
theorem Ybs(bl:Bl K w mg):Okf P w K mg base 2 1 "checked_beacon" ["thing"] Ya7:=by
 refine okfn bl.f20 Yf0 fun hr=>?_
 exact(Yi (Yag (Ycr (Yba (Yd (Yj (Ym4 bl) hr rfl (Yb (Yc 0) Yh) aL1)))) (Yk Ybf) y7) (Yk (Yo (Yc 0))))
theorem Ygs:FnScope ["thing"] ["thing"] (defScope (top 21)):=fns
def Yii:Ro->Option Out:=(sSeq (sIf (orT (b2 (getC 0) (kD (.bl true)) (isB false)) (b2 (getC 0) (kD (.bl false)) (isB false))) (sRet (getV 0)) sNil) nS)
def Yce:List D->Option D:=runB 1 1 Yii
theorem Ydm(bl:Bl K w mg):Okf P w K mg base 1 1 "checked_truth" ["thing"] Yce:=by
 refine okfn bl.f21 Ygs fun hr=>?_
 exact(Yi (Yag (Ygh (Ygg (Ytn (Yg 0) (Yd Yay)) (Yeu (Ytn (Yg 0) (Yd Yay))))) (Yk (Yo (Yc 0))) y7) (Yk Ybf))
theorem sc_checked_beacons:FnScope ["beacons","checked"] ["beacons"] (defScope (top 22)):=fns
theorem cs_checked_beacons_0:CompSc ["beacons","checked"] (defScope (top 22)) ["beacon"] [none] (fsc [(".0",.local),("beacon",.local),("checked_beacon",.globalImplicit)]):=Yw (by decide +kernel)
def Yea:Ro->Option D:=(cC (Ye (getV 0) aNil) Ya7)
@[simp] def Yew:Ro->Option Out:=(sRet (cC (Ye (lF (cF (Ye (getC 1) aNil) Yvn)) aNil) tupC))
@[simp] def Yex:Ro->Option Out:=(sSeq (sIf (b2 (cC (Ye (getC 1) aNil) Yh4) (cC (Ye (getC 1) aNil) lenC) ltI) nS sNil) Yew)
def Yf1:Ro->Option Out:=(sSeq (sOwn 1 (Ya0 (b1 (getV 0) Ym) [none] (gSet 0) tY (Yea))) Yex)
def Ybt:List D->Option D:=runB 1 2 Yf1
theorem Ycj(bl:Bl K w mg):Okf P w K mg base 3 1 "checked_beacons" ["beacons"] Ybt:=by
 refine okfn bl.f22 sc_checked_beacons fun hr=>?_
 exact(Yi (Ydb 1 sc_checked_beacons.nd cs_checked_beacons_0 rfl (Yac (Yc 0)) (fun _ _ _ _ _=>(Yu 0 cs_checked_beacons_0.nd)) (fun _ _ _ _ _=>Yaq) (fun _ _ _ _ _=>(Yj (Ybs bl) hr rfl (Yb (Yc 0) Yh) aL1)) (Yae (i:=0) rfl)) (Yi (Yag (Yj5 (Yd (Yj8 rfl hr.units bl.Len bl.Set rfl rfl (Yp (Yg 1) Yr))) (Yd (y0 Yz Ya8 rfl bl.Len PySem.boot_len (Yp (Yg 1) Yr)))) (Yk Ybf) y7) (Yk (Yo (Ybp Yau Yer rfl bl.Tuple boot_tuple (Yp (Yd (Yab (Ymx Yge Yhu rfl bl.Sorted boot_sorted (Yp (Yg 1) Yr)))) Yr))))))
theorem sc_either_made:FnScope ["sayings","checked"] ["sayings"] (defScope (top 23)):=fns
theorem cs_either_made_0:CompSc ["sayings","checked"] (defScope (top 23)) ["saying"] [none] (fsc [(".0",.local),("saying",.local),("checked_beacon",.globalImplicit),("checked_truth",.globalImplicit)]):=Yw (by decide +kernel)
def Ygt:Ro->Option D:=(dTup (Ye (cC (Ye (b2 (getC 0) (kD (.int 0)) ixD) aNil) Ya7) (Ye (cC (Ye (b2 (getC 0) (kD (.int 1)) ixD) aNil) Yce) aNil)))
@[simp] def Yij:Ro->Option Out:=(sRet (cC (Ye (lF (cF (Ye (getC 1) aNil) Yvn)) aNil) tupC))
@[simp] def Yik:Ro->Option Out:=(sSeq (sIf (b2 (cC (Ye (getC 1) aNil) Yh4) (cC (Ye (getC 1) aNil) lenC) ltI) nS sNil) Yij)
@[simp] def Yil:Ro->Option Out:=(sSeq (sOwn 1 (Ya0 (b1 (getV 0) Ym) [none] (gSet 0) tY (Ygt))) Yik)
def Yk3:Ro->Option Out:=(sSeq (sIf (b2 (cC (Ye (getC 0) aNil) lenC) (kD (.int 2)) gtI) nS sNil) Yil)
def Yfh:List D->Option D:=runB 1 2 Yk3
theorem Yjf(bl:Bl K w mg):Okf P w K mg base 3 1 "either_made" ["sayings"] Yfh:=by
 refine okfn bl.f23 sc_either_made fun hr=>?_
 exact(Yi (Yag (Yti (Yd (y0 Yz Ya8 rfl bl.Len PySem.boot_len (Yp (Yg 0) Yr))) (Yd (Yg4 bl.g_MOST_SAYINGS rfl))) (Yk Ybf) y7) (Yi (Ydb 1 sc_either_made.nd cs_either_made_0 rfl (Yac (Yc 0)) (fun _ _ _ _ _=>(Yu 0 cs_either_made_0.nd)) (fun _ _ _ _ _=>Yaq) (fun _ _ _ _ _=>(Ya5 (Yb (Yj (Ybs bl) hr rfl (Yb (Yy (Yg 0) (Yd Yl)) Yh) aL1) (Yb (Yj (Ydm bl) hr rfl (Yb (Yy (Yg 0) (Yd Yl)) Yh) aL1) Yh)))) (Yae (i:=0) rfl)) (Yi (Yag (Yj5 (Yd (Yj8 rfl hr.units bl.Len bl.Set rfl rfl (Yp (Yg 1) Yr))) (Yd (y0 Yz Ya8 rfl bl.Len PySem.boot_len (Yp (Yg 1) Yr)))) (Yk Ybf) y7) (Yk (Yo (Ybp Yau Yer rfl bl.Tuple boot_tuple (Yp (Yd (Yab (Ymx Yge Yhu rfl bl.Sorted boot_sorted (Yp (Yg 1) Yr)))) Yr)))))))
theorem Yoo:FnScope ["rule"] ["rule"] (defScope (top 24)):=fns
def Yra:Ro->Option Out:=(sRet (dTup (Ye (cC (Ye (b2 (getC 0) (kD (.int 0)) ixD) aNil) Ybt) (Ye (cC (Ye (b2 (getC 0) (kD (.int 1)) ixD) aNil) Yce) aNil))))
def Ykb:List D->Option D:=runB 1 1 Yra
theorem Yop(bl:Bl K w mg):Okf P w K mg base 4 1 "sum_made" ["rule"] Ykb:=by
 refine okfn bl.f24 Yoo fun hr=>?_
 exact(Yk (Yo (Ya5 (Yb (Yj (Ycj bl) hr rfl (Yb (Yy (Yg 0) (Yd Yl)) Yh) aL1) (Yb (Yj (Ydm bl) hr rfl (Yb (Yy (Yg 0) (Yd Yl)) Yh) aL1) Yh)))))
theorem sc_if_made:FnScope ["rule","head"] ["rule"] (defScope (top 25)):=fns
@[simp] def Yoq:Ro->Option Out:=(sRet (dTup (Ye (cC (Ye (b2 (getC 0) (kD (.int 0)) ixD) aNil) Ybt) (Ye (getV 1) aNil))))
@[simp] def Yor:Ro->Option Out:=(sSeq (sIf (b2 (getC 1) (kD .non) (isN true)) (sSet 1 (cC (Ye (getV 1) aNil) Ya7)) sNil) Yoq)
def Yug:Ro->Option Out:=(sSeq (sSet 1 (b2 (getC 0) (kD (.int 1)) ixD)) Yor)
def Ym5:List D->Option D:=runB 1 2 Yug
theorem Yrb(bl:Bl K w mg):Okf P w K mg base 4 1 "if_made" ["rule"] Ym5:=by
 refine okfn bl.f25 sc_if_made fun hr=>?_
 exact(Yi (Yam 1 sc_if_made.nd (Yy (Yg 0) (Yd Yl))) (Yi (Yag (Yp4 (Yg 1) (Yd Yc9)) (Yk (Yam 1 sc_if_made.nd (Yj (Ybs bl) hr rfl (Yb (Yc 1) Yh) aL1))) y7) (Yk (Yo (Ya5 (Yb (Yj (Ycj bl) hr rfl (Yb (Yy (Yg 0) (Yd Yl)) Yh) aL1) (Yb (Yc 1) Yh)))))))
theorem Ym6:FnScope ["kind","rule"] ["kind","rule"] (defScope (top 26)):=fns
@[simp] def Yk4:Ro->Option Out:=(sRet (cC (Ye (getV 1) aNil) Ym5))
@[simp] def Yk5:Ro->Option Out:=(sSeq (sIf (b2 (getC 0) (kD (.str "sums")) (eqM false)) (sRet (cC (Ye (getV 1) aNil) Ykb)) sNil) Yk4)
def Yos:Ro->Option Out:=(sSeq (sIf (b2 (getC 0) (kD (.str "eithers")) (eqM false)) (sRet (cC (Ye (getV 1) aNil) Yfh)) sNil) Yk5)
def Ybb:List D->Option D:=runB 2 2 Yos
theorem Ym7(bl:Bl K w mg):Okf P w K mg base 5 2 "rule_made" ["kind","rule"] Ybb:=by
 refine okfn bl.f26 Ym6 fun hr=>?_
 exact(Yi (Yag (Yed hr.units (Yg 0) (Yd Yao)) (Yk (Yo (Yj (Yjf bl) hr rfl (Yb (Yc 1) Yh) aL1))) y7) (Yi (Yag (Yed hr.units (Yg 0) (Yd Yao)) (Yk (Yo (Yj (Yop bl) hr rfl (Yb (Yc 1) Yh) aL1))) y7) (Yk (Yo (Yj (Yrb bl) hr rfl (Yb (Yc 1) Yh) aL1)))))
theorem Ym8:FnScope ["kind","rules"] ["kind","rules"] (defScope (top 27)):=fns
theorem cs_book_made_0:CompSc ["kind","rules"] (defScope (top 27)) ["rule","kind"] [none,some 0] (fsc [(".0",.local),("rule",.local),("rule_made",.globalImplicit),("kind",.free)]):=Yw (by decide +kernel)
def Ycs:Ro->Option D:=(cC (Ye (getV 1) (Ye (getV 0) aNil)) Ybb)
@[simp] def Yk6:Ro->Option Out:=(sRet (dTup (Ye (getV 0) (Ye (cC (Ye (lF (Ya0 (b1 (getV 1) Ym) [none,some 0] (gSet 0) tY (Ycs))) aNil) tupC) aNil))))
@[simp] def Yk7:Ro->Option Out:=(sSeq (sIf (b2 (cC (Ye (getC 1) aNil) lenC) (kD (.int 60)) gtI) nS sNil) Yk6)
def Yim:Ro->Option Out:=(sSeq (sIf (orT (notT (b1 (mB (b1 (getC 0) (isiD "str"))) truD)) (b1 (getC 0) (inG true Yg7))) nS sNil) Yk7)
def Ydc:List D->Option D:=runB 2 2 Yim
theorem Ym9(bl:Bl K w mg):Okf P w K mg base 6 2 "book_made" ["kind","rules"] Ydc:=by
 refine okfn bl.f27 Ym8 fun hr=>?_
 exact(Yi (Yag (Ygh (Ygg (Ycr (Yba (Yd (Yev (Yg 0) rfl rfl bl.Isinstance bl.Str boot_str (Yyx))))) (Yeu (Yv7 hr.units bl.g_KINDS rfl (Yg 0))))) (Yk Ybf) y7) (Yi (Yag (Yti (Yd (y0 Yz Ya8 rfl bl.Len PySem.boot_len (Yp (Yg 1) Yr))) (Yd (Yg4 bl.g_MOST_RULES rfl))) (Yk Ybf) y7) (Yk (Yo (Ya5 (Yb (Yc 0) (Yb (Ybp Yau Yer rfl bl.Tuple boot_tuple (Yp (Yd (Yab (Yaj cs_book_made_0 rfl (Yac (Yc 1)) (fun _ _ _ _ _=>(Yu 0 cs_book_made_0.nd)) (fun _ _ _ _ _=>Yaq) (fun _ _ _ _ _=>(Yj (Ym7 bl) hr rfl (Yb (Yc 1) (Yb (Yc 0) Yh)) aL2)) (Yae (i:=0) rfl)))) Yr)) Yh)))))))
theorem Yin:FnScope ["rule","evening"] ["rule","evening"] (defScope (top 28)):=fns
theorem cs_either_holds_0:CompSc ["rule","evening"] (defScope (top 28)) ["saying","evening"] [none,some 1] (fsc [(".0",.local),("saying",.local),("evening",.free)]):=Yw (by decide +kernel)
def Ybu:Ro->Option D:=(mB (b2 (b2 (getC 1) (b2 (getC 0) (kD (.int 0)) ixD) ixD) (b2 (getC 0) (kD (.int 1)) ixD) (eqM false)))
def Yef:Ro->Option Out:=(sRet (cC (Ye (lF (Ya0 (b1 (getV 0) Ym) [none,some 1] (gSet 0) tY (Ybu))) aNil) anyC))
def Yb0:List D->Option D:=runB 2 2 Yef
theorem Yio(bl:Bl K w mg):Okf P w K mg base 1 2 "either_holds" ["rule","evening"] Yb0:=by
 refine okfn bl.f28 Yin fun hr=>?_
 exact(Yk (Yo (y0 (Yme rfl) Yku rfl bl.Any boot_any (Yp (Yd (Yab (Yaj cs_either_holds_0 rfl (Yac (Yc 0)) (fun _ _ _ _ _=>(Yu 0 cs_either_holds_0.nd)) (fun _ _ _ _ _=>Yaq) (fun _ _ _ _ _=>(Ydq hr.units (Yd (Yy (Yg 1) (Yd (Yy (Yg 0) (Yd Yl))))) (Yd (Yy (Yg 0) (Yd Yl))))) (Yae (i:=0) rfl)))) Yr))))
theorem sc_sum_holds:FnScope ["rule","evening","lit_ones"] ["rule","evening"] (defScope (top 29)):=fns
theorem cs_sum_holds_0:CompSc ["rule","evening","lit_ones"] (defScope (top 29)) ["beacon","evening"] [none,some 1] (fsc [(".0",.local),("beacon",.local),("evening",.free)]):=Yw (by decide +kernel)
def Yct:Ro->Option Bool:=(b1 (b2 (getC 1) (getC 0) ixD) truD)
def Ycu:Ro->Option D:=(getV 0)
def Yip:Ro->Option Out:=(sSeq (sOwn 2 (Ya0 (b1 (b2 (getC 0) (kD (.int 0)) ixD) Ym) [none,some 1] (gSet 0) (Yct) (Ycu))) (sRet (mB (b2 (mB (b2 (b2 (cC (Ye (getC 2) aNil) lenC) (kD (.int 2)) modI) (kD (.int 1)) (eqM false))) (b2 (getC 0) (kD (.int 1)) ixD) (eqM false)))))
def Ydd:List D->Option D:=runB 2 3 Yip
theorem Yna(bl:Bl K w mg):Okf P w K mg base 1 2 "sum_holds" ["rule","evening"] Ydd:=by
 refine okfn bl.f29 sc_sum_holds fun hr=>?_
 exact(Yi (Ydb 2 sc_sum_holds.nd cs_sum_holds_0 rfl (Yac (Yy (Yg 0) (Yd Yl))) (fun _ _ _ _ _=>(Yu 0 cs_sum_holds_0.nd)) (fun _ _ _ _ _=>(Yff (Yba (Yd (Yy (Yg 1) (Yg 0)))))) (fun _ _ _ _ _=>(Yc 0)) (Yae (i:=0) rfl)) (Yk (Yo (Ydq hr.units (Yd (Ydq hr.units (Yd (Ybo (Yd (y0 Yz Ya8 rfl bl.Len PySem.boot_len (Yp (Yg 2) Yr))) (Yd Yl))) (Yd Yl))) (Yd (Yy (Yg 0) (Yd Yl)))))))
theorem Yot:FnScope ["rule","evening","lit"] ["rule","evening","lit"] (defScope (top 30)):=fns
theorem cs_if_holds_0:CompSc ["rule","evening","lit"] (defScope (top 30)) ["beacon","evening","lit"] [none,some 1,some 2] (fsc [(".0",.local),("beacon",.local),("evening",.free),("lit",.free)]):=Yw (by decide +kernel)
def Yde:Ro->Option D:=(mB (b2 (b2 (getC 1) (getC 0) ixD) (getC 2) (eqM true)))
def Yd4:Ro->Option Out:=(sSeq (sIf (b1 (cC (Ye (lF (Ya0 (b1 (b2 (getC 0) (kD (.int 0)) ixD) Ym) [none,some 1,some 2] (gSet 0) tY (Yde))) aNil) anyC) truD) (sRet (kD (.bl true))) sNil) (sRet (andV (mB (b2 (b2 (getC 0) (kD (.int 1)) ixD) (kD .non) (isN true))) (mB (b2 (b2 (getC 1) (b2 (getC 0) (kD (.int 1)) ixD) ixD) (getC 2) (eqM false))))))
def Yd5:List D->Option D:=runB 3 3 Yd4
theorem You(bl:Bl K w mg):Okf P w K mg base 1 3 "if_holds" ["rule","evening","lit"] Yd5:=by
 refine okfn bl.f30 Yot fun hr=>?_
 exact(Yi (Yag (Yba (Yd (y0 (Yme rfl) Yku rfl bl.Any boot_any (Yp (Yd (Yab (Yaj cs_if_holds_0 rfl (Yac (Yy (Yg 0) (Yd Yl))) (fun _ _ _ _ _=>(Yu 0 cs_if_holds_0.nd)) (fun _ _ _ _ _=>Yaq) (fun _ _ _ _ _=>(y21 hr.units (Yd (Yy (Yg 1) (Yg 0))) (Yg 2))) (Yae (i:=0) rfl)))) Yr)))) (Yk (Yo Yay)) y7) (Yk (Yo (Yh9 (Yv6 (Yd (Yy (Yg 0) (Yd Yl))) (Yd Yc9)) (Yk0 (Ydq hr.units (Yd (Yy (Yg 1) (Yd (Yy (Yg 0) (Yd Yl))))) (Yg 2)))))))
theorem Yk8:FnScope ["kind","rule","evening"] ["kind","rule","evening"] (defScope (top 31)):=fns
@[simp] def Yjg:Ro->Option Out:=(sRet (cC (Ye (getV 1) (Ye (getV 2) (Ye (mB (b2 (getC 0) (kD (.str "ifs")) (eqM false))) aNil))) Yd5))
@[simp] def Yjh:Ro->Option Out:=(sSeq (sIf (b2 (getC 0) (kD (.str "sums")) (eqM false)) (sRet (cC (Ye (getV 1) (Ye (getV 2) aNil)) Ydd)) sNil) Yjg)
def Yb4:Ro->Option Out:=(sSeq (sIf (b2 (getC 0) (kD (.str "eithers")) (eqM false)) (sRet (cC (Ye (getV 1) (Ye (getV 2) aNil)) Yb0)) sNil) Yjh)
def Yaa:List D->Option D:=runB 3 3 Yb4
theorem Ydf(bl:Bl K w mg):Okf P w K mg base 2 3 "rule_holds" ["kind","rule","evening"] Yaa:=by
 refine okfn bl.f31 Yk8 fun hr=>?_
 exact(Yi (Yag (Yed hr.units (Yg 0) (Yd Yao)) (Yk (Yo (Yj (Yio bl) hr rfl (Yb (Yc 1) (Yb (Yc 2) Yh)) aL2))) y7) (Yi (Yag (Yed hr.units (Yg 0) (Yd Yao)) (Yk (Yo (Yj (Yna bl) hr rfl (Yb (Yc 1) (Yb (Yc 2) Yh)) aL2))) y7) (Yk (Yo (Yj (You bl) hr rfl (Yb (Yc 1) (Yb (Yc 2) (Yb (Ydq hr.units (Yg 0) (Yd Yao)) Yh))) aL3)))))
theorem Yiq:FnScope ["book","evening"] ["book","evening"] (defScope (top 32)):=fns
theorem cs_broken_rules_0:CompSc ["book","evening"] (defScope (top 32)) ["place","rule","book","evening"] [none,none,some 0,some 1] (fsc [(".0",.local),("place",.local),("rule",.local),("rule_holds",.globalImplicit),("book",.free),("evening",.free)]):=Yw (by decide +kernel)
def Ybv:Ro->Option Bool:=(notT (b1 (cC (Ye (b2 (getC 2) (kD (.int 0)) ixD) (Ye (getV 1) (Ye (getV 3) aNil))) Yaa) truD))
def Ybw:Ro->Option D:=(getV 0)
def Yeg:Ro->Option Out:=(sRet (lF (Ya0 (b1 (b2 (getC 0) (kD (.int 1)) ixD) Yse) [none,none,some 0,some 1] (Ykr 0 1) (Ybv) (Ybw))))
def Yb1:List D->Option D:=runB 2 2 Yeg
theorem Yir(bl:Bl K w mg):Okf P w K mg base 3 2 "broken_rules" ["book","evening"] Yb1:=by
 refine okfn bl.f32 Yiq fun hr=>?_
 exact(Yk (Yo (Yab (Yaj cs_broken_rules_0 rfl (Yfe rfl bl.Enumerate (Yy (Yg 0) (Yd Yl))) (fun _ _ _ _ _=>(Yp5 0 1 rfl cs_broken_rules_0.nd)) (fun _ _ _ _ _=>(Yff (Ycr (Yba (Yd (Yj (Ydf bl) hr rfl (Yb (Yy (Yg 2) (Yd Yl)) (Yb (Yc 1) (Yb (Yc 3) Yh))) aL3)))))) (fun _ _ _ _ _=>(Yc 0)) (Yvj (i:=0) (k:=1) rfl rfl)))))
theorem Ywn:FnScope ["book","evening"] ["book","evening"] (defScope (top 33)):=fns
def Yuh:Ro->Option Out:=(sRet (mB (b2 (cC (Ye (cC (Ye (getV 0) (Ye (getV 1) aNil)) Yb1) aNil) lenC) (kD (.int 0)) (eqM false))))
def Yf2:List D->Option D:=runB 2 2 Yuh
theorem Yqf(bl:Bl K w mg):Okf P w K mg base 4 2 "holds" ["book","evening"] Yf2:=by
 refine okfn bl.f33 Ywn fun hr=>?_
 exact(Yk (Yo (Ydq hr.units (Yd (y0 Yz Ya8 rfl bl.Len PySem.boot_len (Yp (Yd (Yj (Yir bl) hr rfl (Yb (Yc 0) (Yb (Yc 1) Yh)) aL2)) Yr))) (Yd Yl))))
theorem Ynb:FnScope ["thing"] ["thing"] (defScope (top 37)):=fns
def Ydg:Ro->Option Out:=(sRet (andV (mB (b1 (getC 0) (isiD "int"))) (andV (notV (mB (b1 (getC 0) (isiD "bool")))) (mB (ch3 (kD (.int 0)) (getC 0) (kD (.int 4)) leI leI)))))
def Yax:List D->Option D:=runB 1 1 Ydg
theorem Ygi(bl:Bl K w mg):Okf P w K mg base 1 1 "is_length" ["thing"] Yax:=by
 refine okfn bl.f37 Ynb fun hr=>?_
 exact(Yk (Yo (Yh9 (Yev (Yg 0) rfl rfl bl.Isinstance bl.Int boot_int (Yr9)) (Yh9 (Ytk (Yev (Yg 0) rfl rfl bl.Isinstance bl.Bool boot_bool (Ypq))) (Yk0 (Ymy Yxt Yep Yxt Yep (Yd Yl) (Yg 0) (Yd (Yg4 bl.g_MOST_LENGTH rfl))))))))
theorem Yeh:FnScope ["length","evenings"] ["length","evenings"] (defScope (top 38)):=fns
theorem cs_check_table_0:CompSc ["length","evenings"] (defScope (top 38)) ["evening","length"] [none,some 0] (fsc [(".0",.local),("evening",.local),("len",.globalImplicit),("length",.free)]):=Yw (by decide +kernel)
theorem cs_check_table_1:CompSc ["length","evenings"] (defScope (top 38)) ["evening","length"] [none,some 0] (fsc [(".0",.local),("evening",.local),("len",.globalImplicit),("length",.free)]):=Yw (by decide +kernel)
def Yb7:Ro->Option D:=(mB (b2 (cC (Ye (getC 0) aNil) lenC) (getC 1) (eqM false)))
def Yb8:Ro->Option D:=(mB (b2 (cC (Ye (getC 0) aNil) lenC) (getC 1) (eqM false)))
def Yfi:Ro->Option Out:=(sSeq (sIf (notT (b1 (cC (Ye (getV 0) aNil) Yax) truD)) nS sNil) (sIf (notT (b1 (cC (Ye (lF (Ya0 (b1 (getV 1) Ym) [none,some 0] (gSet 0) tY (Yb7))) aNil) allC) truD)) nS sNil))
def Ya3:List D->Option D:=runB 2 2 Yfi
theorem Yji(bl:Bl K w mg):Okf P w K mg base 2 2 "check_table" ["length","evenings"] Ya3:=by
 refine okfn bl.f38 Yeh fun hr=>?_
 exact(Yi (Yag (Ycr (Yba (Yd (Yj (Ygi bl) hr rfl (Yb (Yc 0) Yh) aL1)))) (Yk Ybf) y7) (Yk (Yag (Ycr (Yba (Yd (y0 (Yhx rfl) Yn6 rfl bl.All boot_all (Yp (Yd (Yab (Yaj cs_check_table_0 rfl (Yac (Yc 1)) (fun _ _ _ _ _=>(Yu 0 cs_check_table_0.nd)) (fun _ _ _ _ _=>Yaq) (fun _ _ _ _ _=>(Ydq hr.units (Yd (y0 Yz Ya8 rfl bl.Len PySem.boot_len (Yp (Yg 0) Yr))) (Yg 1))) (Yae (i:=0) rfl)))) Yr))))) (Yk Ybf) y7)))
def Ycv:Ro->Option Bool:=(xIf (notT (b1 (cC (Ye (getV 0) aNil) Yax) truD)) xYes (xIf (notT (b1 (cC (Ye (lF (Ya0 (b1 (getV 1) Ym) [none,some 0] (gSet 0) tY (Yb8))) aNil) allC) truD)) xYes xNo))
def Ya4:List D->Option Bool:=runX 2 2 Ycv
theorem Yis(bl:Bl K w mg):Okx P w K mg base 2 2 "check_table" ["length","evenings"] Ya4 "NoTable":=by
 refine okfx bl.f38 Yeh fun hr=>?_
 exact(y3b (Ycr (Yba (Yd (Yj (Ygi bl) hr rfl (Yb (Yc 0) Yh) aL1)))) (Yqe bl.x_NoTable_NoTable) (y3b (Ycr (Yba (Yd (y0 (Yhx rfl) Yn6 rfl bl.All boot_all (Yp (Yd (Yab (Yaj cs_check_table_1 rfl (Yac (Yc 1)) (fun _ _ _ _ _=>(Yu 0 cs_check_table_1.nd)) (fun _ _ _ _ _=>Yaq) (fun _ _ _ _ _=>(Ydq hr.units (Yd (y0 Yz Ya8 rfl bl.Len PySem.boot_len (Yp (Yg 0) Yr))) (Yg 1))) (Yae (i:=0) rfl)))) Yr))))) (Yqe bl.x_NoTable_NoTable) y4o))
theorem sc_all_evenings:FnScope ["length","evenings","beacon"] ["length"] (defScope (top 39)):=fns
theorem cs_all_evenings_0:CompSc ["length","evenings","beacon"] (defScope (top 39)) ["evening"] [none] (fsc [(".0",.local),("evening",.local)]):=Yw (by decide +kernel)
theorem cs_all_evenings_1:CompSc ["length","evenings","beacon"] (defScope (top 39)) ["evening"] [none] (fsc [(".0",.local),("evening",.local)]):=Yw (by decide +kernel)
def Yf3:Ro->Option D:=(b2 (getC 0) (dTup (Ye (kD (.bl false)) aNil)) Yoh)
def Yf4:Ro->Option D:=(b2 (getC 0) (dTup (Ye (kD (.bl true)) aNil)) Yoh)
def Yf5:Ro->Option Out:=(wF [1] (sOwn 1 (b2 (lF (Ya0 (b1 (getV 1) Ym) [none] (gSet 0) tY (Yf3))) (lF (Ya0 (b1 (getV 1) Ym) [none] (gSet 0) tY (Yf4))) catD)))
@[simp] def Ygu:Ro->Option Out:=(wF [1] (sRet (getV 1)))
@[simp] def Ygv:Ro->Option Out:=(sSeq (sFor (cF (Ye (getV 0) aNil) rng1) (gSet 2) Yf5) Ygu)
def Yjj:Ro->Option Out:=(sSeq (sOwn 1 (dLst (Ye (dTup aNil) aNil))) Ygv)
def Ya6:List D->Option D:=runB 1 3 Yjj
theorem Yit(bl:Bl K w mg):Okf P w K mg base 1 1 "all_evenings" ["length"] Ya6:=by
 refine okfn bl.f39 sc_all_evenings fun hr=>?_
 exact(Yi (Ya1 1 sc_all_evenings.nd (Yaf (Yb (Ya5 Yh) Yh))) (Yi (Yda PassesOwn.never rfl (Yc0 rfl bl.Range (Yb (Yc 0) Yh)) (Yu 2 sc_all_evenings.nd) (Yk (Yap [1] (Ya1 1 sc_all_evenings.nd (Yia (Yd (Yab (Yaj cs_all_evenings_0 rfl (Yac (Yc 1)) (fun _ _ _ _ _=>(Yu 0 cs_all_evenings_0.nd)) (fun _ _ _ _ _=>Yaq) (fun _ _ _ _ _=>(Yg5 (Yg 0) (Yd (Ya5 (Yb Yay Yh))))) (Yae (i:=0) rfl)))) (Yd (Yab (Yaj cs_all_evenings_1 rfl (Yac (Yc 1)) (fun _ _ _ _ _=>(Yu 0 cs_all_evenings_1.nd)) (fun _ _ _ _ _=>Yaq) (fun _ _ _ _ _=>(Yg5 (Yg 0) (Yd (Ya5 (Yb Yay Yh))))) (Yae (i:=0) rfl))))))))) (Yk (Yap [1] (Yo (Yc 1))))))
theorem sc_groups_of:FnScope ["things","count","groups","place","thing"] ["things","count"] (defScope (top 40)):=fns
theorem cs_groups_of_0:CompSc ["things","count","groups","place","thing"] (defScope (top 40)) ["group","thing"] [none,some 4] (fsc [(".0",.local),("group",.local),("thing",.free)]):=Yw (by decide +kernel)
def Yb2(rec:List D->Option D):Ro->Option D:=(lF (b2 (lF (dLst (Ye (getV 1) aNil))) (getC 0) catD))
def Ycw(rec:List D->Option D):Ro->Option Out:=(sMut 2 (lF (Ya0 (b1 (cC (Ye (lF (slF (getC 0) (some (b2 (getC 3) (kD (.int 1)) addI)) none)) (Ye (b2 (getC 1) (kD (.int 1)) subI) aNil)) rec) Ym) [none,some 4] (gSet 0) tY (Yb2 rec))) extD)
def Yey(rec:List D->Option D):Ro->Option Out:=(sSeq (sIf (b2 (getC 1) (kD (.int 0)) (eqM false)) (sRet (lF (dLst (Ye (lF (dLst aNil)) aNil)))) sNil) (sSeq (sOwn 2 (dLst aNil)) (sSeq (sFor (b1 (getV 0) Yse) (Ykr 3 4) (Ycw rec)) (wF [2] (sRet (getV 2))))))
def Yah:Nat->List D->Option D
 | 0=>fun _=>none
 | k+1=>runB 2 5 (Yey (Yah k))
def Ycf:List D->Option D:=Yah 12
theorem Yk9(bl:Bl K w mg){k j:Nat}(rc:Okf P w K mg base k 2 "groups_of" ["things","count"] (Yah j))(hk:0<=k):Okf P w K mg base (k+1) 2 "groups_of" ["things","count"] (Yah (j+1)):=by
 refine okfn bl.f40 sc_groups_of fun hr=>?_
 exact(Yi (Yag (Yed hr.units (Yg 1) (Yd Yl)) (Yk (Yo (Yab (Yaf (Yb (Yab (Yaf Yh)) Yh))))) y7) (Yi (Ya1 2 sc_groups_of.nd (Yaf Yh)) (Yi (Yda PassesOwn.never rfl (Yfe rfl bl.Enumerate (Yc 0)) (Yp5 3 4 rfl sc_groups_of.nd) (Yk (Yfw 2 (Yab (Yaj cs_groups_of_0 rfl (Yac (Yj rc hr rfl (Yb (Yab (Ymw (fl:=(some (b2 (getC 3) (kD (.int 1)) addI))) (fh:=none) (Yg 0) (Ytm (Yd (Yfv (Yg 3) (Yd Yl)))) y24)) (Yb (Yth (Yg 1) (Yd Yl)) Yh)) aL2)) (fun _ _ _ _ _=>(Yu 0 cs_groups_of_0.nd)) (fun _ _ _ _ _=>Yaq) (fun _ _ _ _ _=>(Yab (Yia (Yd (Yab (Yaf (Yb (Yc 1) Yh)))) (Yg 0)))) (Yae (i:=0) rfl)))))) (Yk (Yap [2] (Yo (Yc 2)))))))
theorem Ygj(bl:Bl K w mg):Okf P w K mg base 12 2 "groups_of" ["things","count"] Ycf:=okfr (L:=0) (mr:=Yah) bl.f40 rfl (Yk9 bl) (j:=12)
theorem sc_small_groups:FnScope ["things","most","groups","count"] ["things","most"] (defScope (top 41)):=fns
def Yf6:Ro->Option Out:=(sMut 2 (cC (Ye (getV 0) (Ye (getV 3) aNil)) Ycf) extD)
@[simp] def Ygw:Ro->Option Out:=(wF [2] (sRet (getV 2)))
@[simp] def Ygx:Ro->Option Out:=(sSeq (sFor (cF (Ye (b2 (getC 1) (kD (.int 1)) addI) aNil) rng1) (gSet 3) Yf6) Ygw)
def Yjk:Ro->Option Out:=(sSeq (sOwn 2 (dLst aNil)) Ygx)
def Ycx:List D->Option D:=runB 2 4 Yjk
theorem Ydv(bl:Bl K w mg):Okf P w K mg base 13 2 "small_groups" ["things","most"] Ycx:=by
 refine okfn bl.f41 sc_small_groups fun hr=>?_
 exact(Yi (Ya1 2 sc_small_groups.nd (Yaf Yh)) (Yi (Yda PassesOwn.never rfl (Yc0 rfl bl.Range (Yb (Yfv (Yg 1) (Yd Yl)) Yh)) (Yu 3 sc_small_groups.nd) (Yk (Yfw 2 (Yj (Ygj bl) hr rfl (Yb (Yc 0) (Yb (Yc 3) Yh)) aL2)))) (Yk (Yap [2] (Yo (Yc 2))))))
theorem sc_eithers_over:FnScope ["beacons","sayings"] ["beacons"] (defScope (top 42)):=fns
theorem cs_eithers_over_0:CompSc ["beacons","sayings"] (defScope (top 42)) ["beacon"] [none] (fsc [(".0",.local),("beacon",.local)]):=Yw (by decide +kernel)
theorem cs_eithers_over_1:CompSc ["beacons","sayings"] (defScope (top 42)) ["beacon"] [none] (fsc [(".0",.local),("beacon",.local)]):=Yw (by decide +kernel)
def Yf7:Ro->Option D:=(dTup (Ye (getV 0) (Ye (kD (.bl false)) aNil)))
def Yf8:Ro->Option D:=(dTup (Ye (getV 0) (Ye (kD (.bl true)) aNil)))
def Yjl:Ro->Option Out:=(sSeq (sOwn 1 (b2 (lF (Ya0 (b1 (getV 0) Ym) [none] (gSet 0) tY (Yf7))) (lF (Ya0 (b1 (getV 0) Ym) [none] (gSet 0) tY (Yf8))) catD)) (wF [1] (sRet (cC (Ye (getV 1) (Ye (kD (.int 2)) aNil)) Ycx))))
def Yei:List D->Option D:=runB 1 2 Yjl
theorem Yiu(bl:Bl K w mg):Okf P w K mg base 14 1 "eithers_over" ["beacons"] Yei:=by
 refine okfn bl.f42 sc_eithers_over fun hr=>?_
 exact(Yi (Ya1 1 sc_eithers_over.nd (Yia (Yd (Yab (Yaj cs_eithers_over_0 rfl (Yac (Yc 0)) (fun _ _ _ _ _=>(Yu 0 cs_eithers_over_0.nd)) (fun _ _ _ _ _=>Yaq) (fun _ _ _ _ _=>(Ya5 (Yb (Yc 0) (Yb Yay Yh)))) (Yae (i:=0) rfl)))) (Yd (Yab (Yaj cs_eithers_over_1 rfl (Yac (Yc 0)) (fun _ _ _ _ _=>(Yu 0 cs_eithers_over_1.nd)) (fun _ _ _ _ _=>Yaq) (fun _ _ _ _ _=>(Ya5 (Yb (Yc 0) (Yb Yay Yh)))) (Yae (i:=0) rfl)))))) (Yk (Yap [1] (Yo (Yj (Ydv bl) hr rfl (Yb (Yc 1) (Yb Yl Yh)) aL2)))))
theorem sc_rules_over:FnScope ["kind","length","beacons","ends","rules","body"] ["kind","length"] (defScope (top 43)):=fns
theorem cs_rules_over_0:CompSc ["kind","length","beacons","ends","rules","body"] (defScope (top 43)) ["end","body"] [none,some 5] (fsc [(".0",.local),("end",.local),("body",.free)]):=Yw (by decide +kernel)
def Yiv:Ro->Option D:=(dTup (Ye (getV 1) (Ye (getV 0) aNil)))
def Yiw:Ro->Option Out:=(sMut 4 (lF (Ya0 (b1 (getV 3) Ym) [none,some 5] (gSet 0) tY (Yiv))) extD)
@[simp] def Yjm:Ro->Option Out:=(wF [4] (sRet (getV 4)))
@[simp] def Yjn:Ro->Option Out:=(sSeq (wF [2] (sFor (b1 (cC (Ye (getV 2) (Ye (getV 1) aNil)) Ycx) Ym) (gSet 5) Yiw)) Yjm)
@[simp] def Yjo:Ro->Option Out:=(sSeq (sOwn 4 (dLst aNil)) Yjn)
@[simp] def Yjp:Ro->Option Out:=(sSeq (sSet 3 (ifV (b2 (getC 0) (kD (.str "sums")) (eqM false)) (lF (dLst (Ye (kD (.bl false)) (Ye (kD (.bl true)) aNil)))) (lF (b2 (lF (dLst (Ye (kD .non) aNil))) (getC 2) catD)))) Yjo)
@[simp] def Yjq:Ro->Option Out:=(sSeq (sIf (b2 (getC 0) (kD (.str "eithers")) (eqM false)) (wF [2] (sRet (cC (Ye (getV 2) aNil) Yei))) sNil) Yjp)
def Ync:Ro->Option Out:=(sSeq (sOwn 2 (cF (Ye (getV 1) aNil) rng1)) Yjq)
def Yas:List D->Option D:=runB 2 6 Ync
theorem Yla(bl:Bl K w mg):Okf P w K mg base 15 2 "rules_over" ["kind","length"] Yas:=by
 refine okfn bl.f43 sc_rules_over fun hr=>?_
 exact(Yi (Ya1 2 sc_rules_over.nd (Yk1 rfl rfl bl.List rfl bl.Range (Yb (Yc 1) Yh))) (Yi (Yag (Yed hr.units (Yg 0) (Yd Yao)) (Yk (Yap [2] (Yo (Yj (Yiu bl) hr rfl (Yb (Yc 2) Yh) aL1)))) y7) (Yi (Yam 3 sc_rules_over.nd (y23 (Yed hr.units (Yg 0) (Yd Yao)) (Yab (Yaf (Yb Yay (Yb Yay Yh)))) (Yab (Yia (Yd (Yab (Yaf (Yb Yc9 Yh)))) (Yg 2))))) (Yi (Ya1 4 sc_rules_over.nd (Yaf Yh)) (Yi (Yap [2] (Yda PassesOwn.never rfl (Yac (Yj (Ydv bl) hr rfl (Yb (Yc 2) (Yb (Yc 1) Yh)) aL2)) (Yu 5 sc_rules_over.nd) (Yk (Yfw 4 (Yab (Yaj cs_rules_over_0 rfl (Yac (Yc 3)) (fun _ _ _ _ _=>(Yu 0 cs_rules_over_0.nd)) (fun _ _ _ _ _=>Yaq) (fun _ _ _ _ _=>(Ya5 (Yb (Yc 1) (Yb (Yc 0) Yh)))) (Yae (i:=0) rfl))))))) (Yk (Yap [4] (Yo (Yc 4)))))))))
theorem Yix:FnScope ["kind","rule","evenings"] ["kind","rule","evenings"] (defScope (top 44)):=fns
theorem cs_holds_on_all_0:CompSc ["kind","rule","evenings"] (defScope (top 44)) ["evening","kind","rule"] [none,some 0,some 1] (fsc [(".0",.local),("evening",.local),("rule_holds",.globalImplicit),("kind",.free),("rule",.free)]):=Yw (by decide +kernel)
def Ybx:Ro->Option D:=(cC (Ye (getV 1) (Ye (getV 2) (Ye (getV 0) aNil))) Yaa)
def Yej:Ro->Option Out:=(sRet (cC (Ye (lF (Ya0 (b1 (getV 2) Ym) [none,some 0,some 1] (gSet 0) tY (Ybx))) aNil) allC))
def Yb3:List D->Option D:=runB 3 3 Yej
theorem Yiy(bl:Bl K w mg):Okf P w K mg base 3 3 "holds_on_all" ["kind","rule","evenings"] Yb3:=by
 refine okfn bl.f44 Yix fun hr=>?_
 exact(Yk (Yo (y0 (Yhx rfl) Yn6 rfl bl.All boot_all (Yp (Yd (Yab (Yaj cs_holds_on_all_0 rfl (Yac (Yc 2)) (fun _ _ _ _ _=>(Yu 0 cs_holds_on_all_0.nd)) (fun _ _ _ _ _=>Yaq) (fun _ _ _ _ _=>(Yj (Ydf bl) hr rfl (Yb (Yc 1) (Yb (Yc 2) (Yb (Yc 0) Yh))) aL3)) (Yae (i:=0) rfl)))) Yr))))
theorem sc_book_of:FnScope ["kind","length","table","lacking","rules","rule","still"] ["kind","length","table"] (defScope (top 45)):=fns
theorem cs_book_of_0:CompSc ["kind","length","table","lacking","rules","rule","still"] (defScope (top 45)) ["evening","table"] [none,some 2] (fsc [(".0",.local),("evening",.local),("table",.free)]):=Yw (by decide +kernel)
theorem cs_book_of_1:CompSc ["kind","length","table","lacking","rules","rule","still"] (defScope (top 45)) ["evening","kind","rule"] [none,some 0,some 5] (fsc [(".0",.local),("evening",.local),("rule_holds",.globalImplicit),("kind",.free),("rule",.free)]):=Yw (by decide +kernel)
def Yck:Ro->Option Bool:=(b2 (getC 0) (getC 1) (inM true))
def Ycl:Ro->Option D:=(getV 0)
def Ycm:Ro->Option Bool:=(b1 (cC (Ye (getV 1) (Ye (getV 2) (Ye (getV 0) aNil))) Yaa) truD)
def Ycn:Ro->Option D:=(getV 0)
def Yco:Ro->Option Out:=(sSeq (wF [3] (sOwn 6 (Ya0 (b1 (getV 3) Ym) [none,some 0,some 5] (gSet 0) (Ycm) (Ycn)))) (sIf (andT (b2 (cC (Ye (getC 6) aNil) lenC) (cC (Ye (getC 3) aNil) lenC) ltI) (b1 (cC (Ye (getV 0) (Ye (getV 5) (Ye (getV 2) aNil))) Yb3) truD)) (sSeq (sMut 4 (getV 5) appD) (wF [6] (sSet 3 (getV 6)))) sNil))
@[simp] def Yiz:Ro->Option Out:=(wF [4] (sRet (cC (Ye (getV 0) (Ye (getV 4) aNil)) Ydc)))
@[simp] def Yi0:Ro->Option Out:=(sSeq (sFor (b1 (cC (Ye (getV 0) (Ye (getV 1) aNil)) Yas) Ym) (gSet 5) Yco) Yiz)
@[simp] def Yi1:Ro->Option Out:=(sSeq (sOwn 4 (dLst aNil)) Yi0)
def Ynd:Ro->Option Out:=(sSeq (sOwn 3 (Ya0 (b1 (cC (Ye (getV 1) aNil) Ya6) Ym) [none,some 2] (gSet 0) (Yck) (Ycl))) Yi1)
def Yfj:List D->Option D:=runB 3 7 Ynd
theorem Yrc(bl:Bl K w mg):Okf P w K mg base 16 3 "book_of" ["kind","length","table"] Yfj:=by
 refine okfn bl.f45 sc_book_of fun hr=>?_
 exact(Yi (Ydb 3 sc_book_of.nd cs_book_of_0 rfl (Yac (Yj (Yit bl) hr rfl (Yb (Yc 1) Yh) aL1)) (fun _ _ _ _ _=>(Yu 0 cs_book_of_0.nd)) (fun _ _ _ _ _=>(Yff (Yoi hr.units (Yg 0) (Yg 1)))) (fun _ _ _ _ _=>(Yc 0)) (Yae (i:=0) rfl)) (Yi (Ya1 4 sc_book_of.nd (Yaf Yh)) (Yi (Yda PassesOwn.never rfl (Yac (Yj (Yla bl) hr rfl (Yb (Yc 0) (Yb (Yc 1) Yh)) aL2)) (Yu 5 sc_book_of.nd) (Yi (Yap [3] (Ydb 6 sc_book_of.nd cs_book_of_1 rfl (Yac (Yc 3)) (fun _ _ _ _ _=>(Yu 0 cs_book_of_1.nd)) (fun _ _ _ _ _=>(Yff (Yba (Yd (Yj (Ydf bl) hr rfl (Yb (Yc 1) (Yb (Yc 2) (Yb (Yc 0) Yh))) aL3))))) (fun _ _ _ _ _=>(Yc 0)) (Yae (i:=0) rfl))) (Yk (Yag (Ygh (Yzj (Yj5 (Yd (y0 Yz Ya8 rfl bl.Len PySem.boot_len (Yp (Yg 6) Yr))) (Yd (y0 Yz Ya8 rfl bl.Len PySem.boot_len (Yp (Yg 3) Yr)))) (Yv5 (Yba (Yd (Yj (Yiy bl) hr rfl (Yb (Yc 0) (Yb (Yc 5) (Yb (Yc 2) Yh))) aL3)))))) (Yi (Yj6 4 (Yc 5)) (Yk (Yap [6] (Yam 3 sc_book_of.nd (Yc 6))))) y7)))) (Yk (Yap [4] (Yo (Yj (Ym9 bl) hr rfl (Yb (Yc 0) (Yb (Yc 4) Yh)) aL2)))))))
theorem sc_lacking_blend:FnScope ["kind","table","group"] ["kind","table"] (defScope (top 46)):=fns
def y8:Ro->Option Out:=(sIf (b2 (cC (Ye (getV 0) (Ye (getV 2) aNil)) Ydu) (getC 1) (inM true)) (sRet (getV 2)) sNil)
def Ydw:Ro->Option Out:=(sSeq (sFor (b1 (cC (Ye (getV 1) (Ye (b1 (getC 0) (Ygf gt_BLENDED_COUNTS)) aNil)) Ycf) Ym) (gSet 2) y8) (sRet (kD .non)))
def Ybh:List D->Option D:=runB 2 3 Ydw
theorem Ygy(bl:Bl K w mg):Okf P w K mg base 13 2 "lacking_blend" ["kind","table"] Ybh:=by
 refine okfn bl.f46 sc_lacking_blend fun hr=>?_
 exact(Yi (Yda PassesOwn.never rfl (Yac (Yj (Ygj bl) hr rfl (Yb (Yc 1) (Yb (Yq6 bl.g_BLENDED_COUNTS rfl (Yg 0)) Yh)) aL2)) (Yu 2 sc_lacking_blend.nd) (Yk (Yag (Yoi hr.units (Yd (Yj (Yq9 bl) hr rfl (Yb (Yc 0) (Yb (Yc 2) Yh)) aL2)) (Yg 1)) (Yk (Yo (Yc 2))) y7))) (Yk (Yo Yc9)))
theorem sc_table_told:FnScope ["kind","length","evenings","table","blend"] ["kind","length","evenings"] (defScope (top 47)):=fns
theorem cs_table_told_0:CompSc ["kind","length","evenings","table","blend"] (defScope (top 47)) ["evening"] [none] (fsc [(".0",.local),("evening",.local),("tuple",.globalImplicit)]):=Yw (by decide +kernel)
def Ybi:Ro->Option D:=(cC (Ye (getC 0) aNil) tupC)
@[simp] def Yjr:Ro->Option Out:=(wF [3] (sRet (dTup (Ye (kD (.str "book")) (Ye (cC (Ye (getV 0) (Ye (getV 1) (Ye (getV 3) aNil))) Yfj) aNil)))))
@[simp] def Yjs:Ro->Option Out:=(sSeq (sIf (b2 (getC 4) (kD .non) (isN true)) (sRet (dTup (Ye (kD (.str "blend")) (Ye (getV 4) aNil)))) sNil) Yjr)
@[simp] def Yjt:Ro->Option Out:=(sSeq (wF [3] (sSet 4 (cC (Ye (getV 0) (Ye (getV 3) aNil)) Ybh))) Yjs)
@[simp] def Ycy:Ro->Option Out:=(sSeq (sOwn 3 (Yd3 (lF (Ya0 (b1 (getV 2) Ym) [none] (gSet 0) tY (Ybi))))) Yjt)
def Ydx:Ro->Option Out:=(sSeq (sExp (cC (Ye (getV 1) (Ye (getV 2) aNil)) Ya3)) Ycy)
def Yai:List D->Option D:=runB 3 5 Ydx
theorem Yfk(bl:Bl K w mg):Okf P w K mg base 17 3 "table_told" ["kind","length","evenings"] Yai:=by
 refine okfn bl.f47 sc_table_told fun hr=>?_
 exact(Yi (Yv8 (Yj (Yji bl) hr rfl (Yb (Yc 1) (Yb (Yc 2) Yh)) aL2)) (Yi (Ya1 3 sc_table_told.nd (Ymz rfl hr.units rfl bl.Sorted rfl bl.Set (Yd (Yab (Yaj cs_table_told_0 rfl (Yac (Yc 2)) (fun _ _ _ _ _=>(Yu 0 cs_table_told_0.nd)) (fun _ _ _ _ _=>Yaq) (fun _ _ _ _ _=>(Ybp Yau Yer rfl bl.Tuple boot_tuple (Yp (Yg 0) Yr))) (Yae (i:=0) rfl)))))) (Yi (Yap [3] (Yam 4 sc_table_told.nd (Yj (Ygy bl) hr rfl (Yb (Yc 0) (Yb (Yc 3) Yh)) aL2))) (Yi (Yag (Yp4 (Yg 4) (Yd Yc9)) (Yk (Yo (Ya5 (Yb Yao (Yb (Yc 4) Yh))))) y7) (Yk (Yap [3] (Yo (Ya5 (Yb Yao (Yb (Yj (Yrc bl) hr rfl (Yb (Yc 0) (Yb (Yc 1) (Yb (Yc 3) Yh))) aL3) Yh))))))))))
def Ydh:Ro->Option Bool:=(Yua (Ye (getV 1) (Ye (getV 2) aNil)) Ya4)
def Yal:List D->Option Bool:=runX 3 5 Ydh
theorem Yek(bl:Bl K w mg):Okx P w K mg base 17 3 "table_told" ["kind","length","evenings"] Yal "NoTable":=by
 refine okfx bl.f47 sc_table_told fun hr=>?_
 exact(Yzz (Yis bl) hr rfl (Yb (Yc 1) (Yb (Yc 2) Yh)) aL2)
theorem Yov:FnScope ["script","k"] ["script","k"] (defScope (top 49)):=fns
def Yf9:Ro->Option Out:=(sSeq (sIf (b2 (getC 1) (cC (Ye (getC 0) aNil) lenC) ltI) (sRet (b2 (getC 0) (getC 1) ixD)) sNil) (sRet (kD (.int 0))))
def Yar:List D->Option D:=runB 2 2 Yf9
theorem Ya2(bl:Bl K w mg):Okf P w K mg base 1 2 "_law_cell" ["script","k"] Yar:=by
 refine okfn bl.f49 Yov fun hr=>?_
 exact(Yi (Yag (Yj5 (Yg 1) (Yd (y0 Yz Ya8 rfl bl.Len PySem.boot_len (Yp (Yg 0) Yr)))) (Yk (Yo (Yy (Yg 0) (Yg 1)))) y7) (Yk (Yo Yl)))
theorem Yne:FnScope ["cell","by"] ["cell","by"] (defScope (top 50)):=fns
def Yi2:Ro->Option Out:=(sRet (b2 (b2 (b2 (getC 0) (kD (.int 2305843009213693951)) modI) (getC 1) mulI) (kD (.int 2305843009213693951)) modI))
def Ydi:List D->Option D:=runB 2 2 Yi2
theorem Ynf(bl:Bl K w mg):Okf P w K mg base 1 2 "_law_mixed" ["cell","by"] Ydi:=by
 refine okfn bl.f50 Yne fun hr=>?_
 exact(Yk (Yo (Ybo (Yd (Yzi (Yd (Ybo (Yg 0) (Yd Yl))) (Yg 1))) (Yd Yl))))
theorem Yow:FnScope ["cell"] ["cell"] (defScope (top 51)):=fns
def Yc1:Ro->Option Out:=(sRet (b2 (lF (dLst (Ye (kD (.str "eithers")) (Ye (kD (.str "sums")) (Ye (kD (.str "ifs")) (Ye (kD (.str "nots")) aNil)))))) (b2 (getC 0) (kD (.int 4)) modI) ixD))
def Yd6:List D->Option D:=runB 1 1 Yc1
theorem Yox(bl:Bl K w mg):Okf P w K mg base 1 1 "_law_kind" ["cell"] Yd6:=by
 refine okfn bl.f51 Yow fun hr=>?_
 exact(Yk (Yo (Yy (Yd (Yab (Yaf (Yb Yao (Yb Yao (Yb Yao (Yb Yao Yh))))))) (Yd (Ybo (Yg 0) (Yd Yl))))))
theorem sc_law_bits:FnScope ["cell","many","left","bits","k"] ["cell","many"] (defScope (top 52)):=fns
def Ydj:Ro->Option Out:=(sSeq (sMut 3 (mB (b2 (b2 (getC 2) (kD (.int 2)) modI) (kD (.int 1)) (eqM false))) appD) (sSet 2 (b2 (getC 2) (kD (.int 2)) divI)))
@[simp] def Yng:Ro->Option Out:=(wF [3] (sRet (getV 3)))
@[simp] def Ynh:Ro->Option Out:=(sSeq (sFor (cF (Ye (getV 1) aNil) rng1) (gSet 4) Ydj) Yng)
@[simp] def Yni:Ro->Option Out:=(sSeq (sOwn 3 (dLst aNil)) Ynh)
def Ykc:Ro->Option Out:=(sSeq (sSet 2 (cC (Ye (getV 0) (Ye (kD (.int 1442695040888963407)) aNil)) Ydi)) Yni)
def Yc2:List D->Option D:=runB 2 5 Ykc
theorem Yi3(bl:Bl K w mg):Okf P w K mg base 2 2 "_law_bits" ["cell","many"] Yc2:=by
 refine okfn bl.f52 sc_law_bits fun hr=>?_
 exact(Yi (Yam 2 sc_law_bits.nd (Yj (Ynf bl) hr rfl (Yb (Yc 0) (Yb Yl Yh)) aL2)) (Yi (Ya1 3 sc_law_bits.nd (Yaf Yh)) (Yi (Yda PassesOwn.never rfl (Yc0 rfl bl.Range (Yb (Yc 1) Yh)) (Yu 4 sc_law_bits.nd) (Yi (Yj6 3 (Ydq hr.units (Yd (Ybo (Yg 2) (Yd Yl))) (Yd Yl))) (Yk (Yam 2 sc_law_bits.nd (Yh8 (Yg 2) (Yd Yl)))))) (Yk (Yap [3] (Yo (Yc 3)))))))
theorem sc_law_all:FnScope ["length","evenings","k"] ["length"] (defScope (top 53)):=fns
theorem cs_law_all_0:CompSc ["length","evenings","k"] (defScope (top 53)) ["evening"] [none] (fsc [(".0",.local),("evening",.local)]):=Yw (by decide +kernel)
theorem cs_law_all_1:CompSc ["length","evenings","k"] (defScope (top 53)) ["evening"] [none] (fsc [(".0",.local),("evening",.local)]):=Yw (by decide +kernel)
def Ynj:Ro->Option D:=(b2 (getC 0) (dTup (Ye (kD (.bl false)) aNil)) Yoh)
def Ynk:Ro->Option D:=(b2 (getC 0) (dTup (Ye (kD (.bl true)) aNil)) Yoh)
def Ynl:Ro->Option Out:=(wF [1] (sOwn 1 (b2 (lF (Ya0 (b1 (getV 1) Ym) [none] (gSet 0) tY (Ynj))) (lF (Ya0 (b1 (getV 1) Ym) [none] (gSet 0) tY (Ynk))) catD)))
@[simp] def Yoy:Ro->Option Out:=(wF [1] (sRet (getV 1)))
@[simp] def Yoz:Ro->Option Out:=(sSeq (sFor (cF (Ye (getV 0) aNil) rng1) (gSet 2) Ynl) Yoy)
def Yui:Ro->Option Out:=(sSeq (sOwn 1 (dLst (Ye (dTup aNil) aNil))) Yoz)
def Ydy:List D->Option D:=runB 1 3 Yui
theorem Ykd(bl:Bl K w mg):Okf P w K mg base 1 1 "_law_all" ["length"] Ydy:=by
 refine okfn bl.f53 sc_law_all fun hr=>?_
 exact(Yi (Ya1 1 sc_law_all.nd (Yaf (Yb (Ya5 Yh) Yh))) (Yi (Yda PassesOwn.never rfl (Yc0 rfl bl.Range (Yb (Yc 0) Yh)) (Yu 2 sc_law_all.nd) (Yk (Yap [1] (Ya1 1 sc_law_all.nd (Yia (Yd (Yab (Yaj cs_law_all_0 rfl (Yac (Yc 1)) (fun _ _ _ _ _=>(Yu 0 cs_law_all_0.nd)) (fun _ _ _ _ _=>Yaq) (fun _ _ _ _ _=>(Yg5 (Yg 0) (Yd (Ya5 (Yb Yay Yh))))) (Yae (i:=0) rfl)))) (Yd (Yab (Yaj cs_law_all_1 rfl (Yac (Yc 1)) (fun _ _ _ _ _=>(Yu 0 cs_law_all_1.nd)) (fun _ _ _ _ _=>Yaq) (fun _ _ _ _ _=>(Yg5 (Yg 0) (Yd (Ya5 (Yb Yay Yh))))) (Yae (i:=0) rfl))))))))) (Yk (Yap [1] (Yo (Yc 1))))))
theorem sc_law_kinds:FnScope ["kind","length","evenings","kinds","e","some","more"] ["kind","length","evenings"] (defScope (top 54)):=fns
def Ydz(ea:Addr):Ro->Option Out:=(sSeq (sOwn 5 (dLst (Ye (isX 4 ea false) (Ye (isX 4 ea false) (Ye (isX 4 ea false) (Ye (isX 4 ea false) aNil)))))) (sSeq (sOwn 6 (dLst (Ye (isX 4 ea false) (Ye (isX 4 ea false) (Ye (isX 4 ea false) aNil))))) (sOwn 3 (dLst (Ye (isX 4 ea true) (Ye (isX 4 ea true) (Ye (orV (cC (Ye (getC 5) aNil) anyC) (cC (Ye (getC 6) aNil) anyC)) aNil)))))))
def Ycp:Ro->Option Out
 | [a0,a1,a2,_,_,_,_]=>some (.nx [a0,a1,a2,some (.ow [.bl true,.bl true,.bl false]),none,some (.ow [.bl false,.bl false,.bl false,.bl false]),some (.ow [.bl false,.bl false,.bl false])])
 | _=>none
theorem Ylb:∀ea ρ out,Ycp ρ=some out->∃ρ3,Ydz ea (ρ.set 4 (some (.sh (.adr ea))))=some (.nx ρ3)/\out=.nx (ρ3.set 4 none):=by
 intro ea ρ out h
 unfold Ycp at h
 split at h
 ·cases h
  exact⟨_,by simp[Ydz,isX];rfl,rfl⟩
 ·cases h
@[simp] def Ylc:Ro->Option Out:=(wF [3] (sRet (getV 3)))
@[simp] def Yld:Ro->Option Out:=(sSeq (tryF (Ye (getV 0) (Ye (getV 1) (Ye (getV 2) aNil))) Yal Ycp) Ylc)
def Yi4:Ro->Option Out:=(sSeq (sOwn 3 (dLst aNil)) Yld)
def Ydk:List D->Option D:=runB 3 7 Yi4
theorem Ynm(bl:Bl K w mg):Okf P w K mg base 18 3 "_law_kinds" ["kind","length","evenings"] Ydk:=by
 refine okfn bl.f54 sc_law_kinds fun hr=>?_
 exact(Yi (Ya1 3 sc_law_kinds.nd (Yaf Yh)) (Yi (Ywl 4 (gs:=Ydz) (Yek bl) bl.x_NoTable_DuskError hr rfl rfl (Yb (Yc 0) (Yb (Yc 1) (Yb (Yc 2) Yh))) aL3 sc_law_kinds.nd (fun ea ob hob=>(Yi (Ya1 5 sc_law_kinds.nd (Yaf (Yb (Yci 4 bl.x_NoTable_NoHands hob bl.Isinstance) (Yb (Yci 4 bl.x_NoTable_NoLight hob bl.Isinstance) (Yb (Yci 4 bl.x_NoTable_NoneSettled hob bl.Isinstance) (Yb (Yci 4 bl.x_NoTable_NoPage hob bl.Isinstance) Yh)))))) (Yi (Ya1 6 sc_law_kinds.nd (Yaf (Yb (Yci 4 bl.x_NoTable_NoPaper hob bl.Isinstance) (Yb (Yci 4 bl.x_NoTable_NoBook hob bl.Isinstance) (Yb (Yci 4 bl.x_NoTable_Over hob bl.Isinstance) Yh))))) (Yk (Ya1 3 sc_law_kinds.nd (Yaf (Yb (Ywm 4 bl.x_NoTable_NoTable hob bl.Isinstance bl.Valueerror) (Yb (Yci 4 bl.x_NoTable_NoTable hob bl.Isinstance) (Yb (y22 (y0 (Yka bl.x_NoTable_NoTable hob) Yku rfl bl.Any boot_any (Yp (Yg 5) Yr)) (Yzk (y0 (Yka bl.x_NoTable_NoTable hob) Yku rfl bl.Any boot_any (Yp (Yg 6) Yr)))) Yh))))))))) Ylb) (Yk (Yap [3] (Yo (Yc 3))))))
theorem sc_law_no_length:FnScope ["cell","far"] ["cell"] (defScope (top 55)):=fns
def y9:Ro->Option Out:=(sSeq (sSet 1 (b2 (b2 (getC 0) (kD (.int 8)) divI) (b2 (kD (.int 10)) (kD (.int 60)) powI) modI)) (sRet (b2 (lF (dLst (Ye (b2 (b1 (kD (.int 1)) negI) (getC 1) subI) (Ye (b2 (kD (.int 5)) (getC 1) addI) (Ye (kD (.bl true)) (Ye (kD (.bl false)) (Ye (kD .non) (Ye (kD (.str "2")) (Ye (lF (dLst (Ye (kD (.int 1)) aNil))) (Ye (kD (.int 5)) aNil)))))))))) (b2 (getC 0) (kD (.int 8)) modI) ixD)))
def Ybj:List D->Option D:=runB 1 2 y9
theorem Ygz(bl:Bl K w mg):Okf P w K mg base 1 1 "_law_no_length" ["cell"] Ybj:=by
 refine okfn bl.f55 sc_law_no_length fun hr=>?_
 exact(Yi (Yam 1 sc_law_no_length.nd (Ybo (Yd (Yh8 (Yg 0) (Yd Yl))) (Yd (Yz0 (Yd Yl) (Yd Yl))))) (Yk (Yo (Yy (Yd (Yab (Yaf (Yb (Yth (Yd (Yoj (Yd Yl))) (Yg 1)) (Yb (Yfv (Yd Yl) (Yg 1)) (Yb Yay (Yb Yay (Yb Yc9 (Yb Yao (Yb (Yab (Yaf (Yb Yl Yh))) (Yb Yl Yh))))))))))) (Yd (Ybo (Yg 0) (Yd Yl)))))))
theorem sc_law_book_of:FnScope ["kind","length","evenings","found"] ["kind","length","evenings"] (defScope (top 56)):=fns
@[simp] def Yi5:Ro->Option Out:=(sRet (b2 (getC 3) (kD (.int 1)) ixD))
@[simp] def Yi6:Ro->Option Out:=(sSeq (sIf (orT (notT (b1 (mB (b1 (getC 3) (isiD "tuple"))) truD)) (orT (b2 (cC (Ye (getC 3) aNil) lenC) (kD (.int 2)) (eqM true)) (b2 (b2 (getC 3) (kD (.int 0)) ixD) (kD (.str "book")) (eqM true)))) (sRet (kD .non)) sNil) Yi5)
def Yfl:Ro->Option Out:=(sSeq (sSet 3 (cC (Ye (getV 0) (Ye (getV 1) (Ye (getV 2) aNil))) Yai)) Yi6)
def Ybk:List D->Option D:=runB 3 4 Yfl
theorem Yel(bl:Bl K w mg):Okf P w K mg base 18 3 "_law_book_of" ["kind","length","evenings"] Ybk:=by
 refine okfn bl.f56 sc_law_book_of fun hr=>?_
 exact(Yi (Yam 3 sc_law_book_of.nd (Yj (Yfk bl) hr rfl (Yb (Yc 0) (Yb (Yc 1) (Yb (Yc 2) Yh))) aL3)) (Yi (Yag (Ygh (Ygg (Ycr (Yba (Yd (Yev (Yg 3) rfl rfl bl.Isinstance bl.Tuple boot_tuple (Yma))))) (Ygg (Ytj hr.units (Yd (y0 Yz Ya8 rfl bl.Len PySem.boot_len (Yp (Yg 3) Yr))) (Yd Yl)) (Yeu (Ytj hr.units (Yd (Yy (Yg 3) (Yd Yl))) (Yd Yao)))))) (Yk (Yo Yc9)) y7) (Yk (Yo (Yy (Yg 3) (Yd Yl))))))
theorem sc_law:FnScope ["script","kind","length","evenings","way","spoilt","other","wrong","refused","good_ones","none","full","evening"] ["script"] (defScope (top 57)):=fns
theorem cs_law_0:CompSc ["script","kind","length","evenings","way","spoilt","other","wrong","refused","good_ones","none","full","evening"] (defScope (top 57)) ["cell","length"] [none,some 2] (fsc [(".0",.local),("cell",.local),("tuple",.globalImplicit),("_law_bits",.globalImplicit),("length",.free)]):=Yw (by decide +kernel)
def Yle:Ro->Option D:=(cC (Ye (cC (Ye (getV 0) (Ye (getV 1) aNil)) Yc2) aNil) tupC)
def Ylf:Ro->Option Out:=(sIf (orT (b2 (cC (Ye (getV 10) (Ye (getV 12) aNil)) Yf2) (kD (.bl false)) (isB true)) (b2 (cC (Ye (getV 11) (Ye (getV 12) aNil)) Yf2) (kD (.bl true)) (isB true))) (sRet (kD (.bl false))) sNil)
def Ywo:Ro->Option Out:=(sRet (kD (.bl true)))
def Ylg:Ro->Option Out:=(sSeq (sFor (b1 (cC (Ye (getV 2) aNil) Ydy) Ym) (gSet 12) Ylf) Ywo)
def Ylh:Ro->Option Out:=(sSeq (sIf (orT (b2 (getC 10) (kD .non) (isN false)) (b2 (getC 11) (kD .non) (isN false))) (sRet (kD (.bl false))) sNil) Ylg)
def Yli:Ro->Option Out:=(sSeq (sSet 11 (cC (Ye (getV 1) (Ye (getV 2) (Ye (cC (Ye (getV 2) aNil) Ydy) aNil))) Ybk)) Ylh)
def Ylj:Ro->Option Out:=(sSeq (sSet 10 (cC (Ye (getV 1) (Ye (getV 2) (Ye (b2 (lF (dLst (Ye (lF (dLst aNil)) (Ye (dTup aNil) aNil)))) (b2 (b2 (cC (Ye (getV 0) (Ye (kD (.int 1)) aNil)) Yar) (kD (.int 3)) divI) (kD (.int 2)) modI) ixD) aNil))) Ybk)) Yli)
def Ylk:Ro->Option Out:=(sSeq (sIf (orT (notT (b1 (mB (b1 (getC 9) (isiD "tuple"))) truD)) (b2 (b2 (getC 9) (kD (.int 0)) ixD) (lF (dLst (Ye (kD (.str "book")) (Ye (kD (.str "blend")) aNil)))) (inM true))) (sRet (kD (.bl false))) sNil) Ylj)
def Yll:Ro->Option Out:=(sSeq (sSet 9 (cC (Ye (getV 1) (Ye (getV 2) (Ye (cC (Ye (getC 3) aNil) tupC) aNil))) Yai)) Ylk)
def Ylm:Ro->Option Out:=(sSeq (wF [5] (sIf (orT (notT (b1 (getC 8) truD)) (b2 (cC (Ye (getV 1) (Ye (getV 7) (Ye (getV 5) aNil))) Ydk) (lF (dLst (Ye (kD (.bl true)) (Ye (kD (.bl true)) (Ye (kD (.bl false)) aNil))))) (eqM true))) (sRet (kD (.bl false))) sNil)) Yll)
def Yo0:Ro->Option Out:=(sSeq (wF [5] (tryF (Ye (getV 1) (Ye (getV 7) (Ye (getV 5) aNil))) Yal (sSet 8 (kD (.bl true))))) Ylm)
def Yo1:Ro->Option Out:=(sSeq (sSet 8 (kD (.bl false))) Yo0)
def Yo2:Ro->Option Out:=(sSeq (sIf (b2 (getC 4) (kD (.int 2)) ltI) (sSet 7 (cC (Ye (cC (Ye (getV 0) (Ye (kD (.int 3)) aNil)) Yar) aNil) Ybj)) sNil) Yo1)
def Yln:Ro->Option Out:=(sSeq (sSet 7 (getV 2)) Yo2)
def Ylo:Ro->Option Out:=(sSeq (sIf (b2 (getC 4) (kD (.int 0)) gtI) (sSeq (sSet 6 (b2 (getC 2) (b2 (lF (dLst (Ye (kD (.int 1)) (Ye (kD (.int 2)) (Ye (b1 (kD (.int 1)) negI) (Ye (b1 (kD (.int 2)) negI) aNil)))))) (b2 (cC (Ye (getV 0) (Ye (kD (.int 2)) aNil)) Yar) (kD (.int 4)) modI) ixD) addI)) (sSeq (sIf (b2 (getC 6) (kD (.int 0)) ltI) (sSet 6 (b2 (getC 2) (kD (.int 1)) addI)) sNil) (Ysd 5 (b2 (b2 (cC (Ye (getV 0) (Ye (kD (.int 2)) aNil)) Yar) (kD (.int 4)) divI) (b2 (cC (Ye (getC 3) aNil) lenC) (kD (.int 1)) addI) modI) (cC (Ye (cC (Ye (getV 0) (Ye (kD (.int 3)) aNil)) Yar) (Ye (getV 6) aNil)) Yc2) insD))) sNil) Yln)
def Yo3:Ro->Option Out:=(sSeq (sOwn 5 (cF (Ye (getC 3) aNil) Yyo)) Ylo)
def Yo4:Ro->Option Out:=(sSeq (sSet 4 (b2 (cC (Ye (getV 0) (Ye (kD (.int 1)) aNil)) Yar) (kD (.int 3)) modI)) Yo3)
def Yo5:Ro->Option Out:=(sSeq (sOwn 3 (Ya0 (b1 (lF (slF (getC 0) (some (kD (.int 4))) (some (kD (.int 20))))) Ym) [none,some 2] (gSet 0) tY (Yle))) Yo4)
def Yo6:Ro->Option Out:=(sSeq (sSet 2 (b2 (b2 (cC (Ye (getV 0) (Ye (kD (.int 0)) aNil)) Yar) (kD (.int 4)) divI) (kD (.int 5)) modI)) Yo5)
def y3d:Ro->Option Out:=(sSeq (sSet 1 (cC (Ye (cC (Ye (getV 0) (Ye (kD (.int 0)) aNil)) Yar) aNil) Yd6)) Yo6)
def Yo7:List D->Option D:=runB 1 13 y3d
theorem y3e(bl:Bl K w mg){a:Addr}{fd:FuncData}(F:Fun K "law" "law" (top 57) a fd):FnOk P w K mg base CX0 19 a fd ["script"] (spOf K 1 Yo7):=by
 refine Yj7 (k:=18) F sc_law rfl rfl fun cdv A outer s H E hr=>?_
 exact(Yi (Yam 1 sc_law.nd (Yj (Yox bl) hr rfl (Yb (Yj (Ya2 bl) hr rfl (Yb (Yc 0) (Yb Yl Yh)) aL2) Yh) aL1)) (Yi (Yam 2 sc_law.nd (Ybo (Yd (Yh8 (Yd (Yj (Ya2 bl) hr rfl (Yb (Yc 0) (Yb Yl Yh)) aL2)) (Yd Yl))) (Yd Yl))) (Yi (Ydb 3 sc_law.nd cs_law_0 rfl (Yac (Yab (Ymw (fl:=(some (kD (.int 4)))) (fh:=(some (kD (.int 20)))) (Yg 0) (Ytm (Yd Yl)) (Ytm (Yd Yl))))) (fun _ _ _ _ _=>(Yu 0 cs_law_0.nd)) (fun _ _ _ _ _=>Yaq) (fun _ _ _ _ _=>(Ybp Yau Yer rfl bl.Tuple boot_tuple (Yp (Yd (Yj (Yi3 bl) hr rfl (Yb (Yc 0) (Yb (Yc 1) Yh)) aL2)) Yr))) (Yae (i:=0) rfl)) (Yi (Yam 4 sc_law.nd (Ybo (Yd (Yj (Ya2 bl) hr rfl (Yb (Yc 0) (Yb Yl Yh)) aL2)) (Yd Yl))) (Yi (Ya1 5 sc_law.nd (Yq4 Yl0 Yvh rfl bl.List boot_list (Yp (Yg 3) Yr))) (Yi (Yag (Yti (Yg 4) (Yd Yl)) (Yi (Yam 6 sc_law.nd (Yfv (Yg 2) (Yd (Yy (Yd (Yab (Yaf (Yb Yl (Yb Yl (Yb (Yoj (Yd Yl)) (Yb (Yoj (Yd Yl)) Yh))))))) (Yd (Ybo (Yd (Yj (Ya2 bl) hr rfl (Yb (Yc 0) (Yb Yl Yh)) aL2)) (Yd Yl))))))) (Yi (Yag (Yj5 (Yg 6) (Yd Yl)) (Yk (Yam 6 sc_law.nd (Yfv (Yg 2) (Yd Yl)))) y7) (Yk (Yq5 5 (Ybo (Yd (Yh8 (Yd (Yj (Ya2 bl) hr rfl (Yb (Yc 0) (Yb Yl Yh)) aL2)) (Yd Yl))) (Yd (Yfv (Yd (y0 Yz Ya8 rfl bl.Len PySem.boot_len (Yp (Yg 3) Yr))) (Yd Yl)))) (Yj (Yi3 bl) hr rfl (Yb (Yj (Ya2 bl) hr rfl (Yb (Yc 0) (Yb Yl Yh)) aL2) (Yb (Yc 6) Yh)) aL2))))) y7) (Yi (Yam 7 sc_law.nd (Yc 2)) (Yi (Yag (Yj5 (Yg 4) (Yd Yl)) (Yk (Yam 7 sc_law.nd (Yj (Ygz bl) hr rfl (Yb (Yj (Ya2 bl) hr rfl (Yb (Yc 0) (Yb Yl Yh)) aL2) Yh) aL1))) y7) (Yi (Yam 8 sc_law.nd Yay) (Yi (Yap [5] (Ywk (Yek bl) bl.x_NoTable_NoTable hr rfl rfl (Yb (Yc 1) (Yb (Yc 7) (Yb (Yc 5) Yh))) aL3 (fun ea ob hob=>(Yk (Yam 8 sc_law.nd Yay))))) (Yi (Yap [5] (Yag (Ygh (Ygg (Ycr (Yba (Yg 8))) (Yeu (Ytj hr.units (Yd (Yj (Ynm bl) hr rfl (Yb (Yc 1) (Yb (Yc 7) (Yb (Yc 5) Yh))) aL3)) (Yd (Yab (Yaf (Yb Yay (Yb Yay (Yb Yay Yh)))))))))) (Yk (Yo Yay)) y7)) (Yi (Yam 9 sc_law.nd (Yj (Yfk bl) hr rfl (Yb (Yc 1) (Yb (Yc 2) (Yb (Ybp Yau Yer rfl bl.Tuple boot_tuple (Yp (Yg 3) Yr)) Yh))) aL3)) (Yi (Yag (Ygh (Ygg (Ycr (Yba (Yd (Yev (Yg 9) rfl rfl bl.Isinstance bl.Tuple boot_tuple (Yma))))) (Yeu (Yoi hr.units (Yd (Yy (Yg 9) (Yd Yl))) (Yd (Yab (Yaf (Yb Yao (Yb Yao Yh))))))))) (Yk (Yo Yay)) y7) (Yi (Yam 10 sc_law.nd (Yj (Yel bl) hr rfl (Yb (Yc 1) (Yb (Yc 2) (Yb (Yy (Yd (Yab (Yaf (Yb (Yab (Yaf Yh)) (Yb (Ya5 Yh) Yh))))) (Yd (Ybo (Yd (Yh8 (Yd (Yj (Ya2 bl) hr rfl (Yb (Yc 0) (Yb Yl Yh)) aL2)) (Yd Yl))) (Yd Yl)))) Yh))) aL3)) (Yi (Yam 11 sc_law.nd (Yj (Yel bl) hr rfl (Yb (Yc 1) (Yb (Yc 2) (Yb (Yj (Ykd bl) hr rfl (Yb (Yc 2) Yh) aL1) Yh))) aL3)) (Yi (Yag (Ygh (Ygg (Ytl (Yg 10) (Yd Yc9)) (Yeu (Ytl (Yg 11) (Yd Yc9))))) (Yk (Yo Yay)) y7) (Yi (Yda PassesOwn.never rfl (Yac (Yj (Ykd bl) hr rfl (Yb (Yc 2) Yh) aL1)) (Yu 12 sc_law.nd) (Yk (Yag (Ygh (Ygg (Yp6 (Yd (Yj (Yqf bl) hr rfl (Yb (Yc 10) (Yb (Yc 12) Yh)) aL2)) (Yd Yay)) (Yeu (Yp6 (Yd (Yj (Yqf bl) hr rfl (Yb (Yc 11) (Yb (Yc 12) Yh)) aL2)) (Yd Yay))))) (Yk (Yo Yay)) y7))) (Yk (Yo Yay)))))))))))))))))))
end
abbrev Ylp:Nat:=19
theorem all_mk{l:W.OpenLaw}{w:World}{K:W.Frag}{h:Heap}{mg:Str->Option Value}{fa uz:Addr}(X:K.In h)(G:h.Ns mainGlobals mg)(hfa:mg "law"=some (.ref fa))
 {vj u7:Option Addr} {vk:Array (Option Value)} {vm u8 u9 va ux vd:Value}
 (F_blended_light:Fk K "blended_light" 1)
 (F_lit_count_at:Fk K "lit_count_at" 2)
 (F_blended:Fk K "blended" 3)
 (F_is_beacon:Fk K "is_beacon" 19)
 (F_checked_beacon:Fk K "checked_beacon" 20)
 (F_checked_truth:Fk K "checked_truth" 21)
 (F_checked_beacons:Fk K "checked_beacons" 22)
 (F_either_made:Fk K "either_made" 23)
 (F_sum_made:Fk K "sum_made" 24)
 (F_if_made:Fk K "if_made" 25)
 (F_rule_made:Fk K "rule_made" 26)
 (F_book_made:Fk K "book_made" 27)
 (F_either_holds:Fk K "either_holds" 28)
 (F_sum_holds:Fk K "sum_holds" 29)
 (F_if_holds:Fk K "if_holds" 30)
 (F_rule_holds:Fk K "rule_holds" 31)
 (F_broken_rules:Fk K "broken_rules" 32)
 (F_holds:Fk K "holds" 33)
 (F_is_length:Fk K "is_length" 37)
 (F_check_table:Fk K "check_table" 38)
 (F_all_evenings:Fk K "all_evenings" 39)
 (F_groups_of:Fk K "groups_of" 40)
 (F_small_groups:Fk K "small_groups" 41)
 (F_eithers_over:Fk K "eithers_over" 42)
 (F_rules_over:Fk K "rules_over" 43)
 (F_holds_on_all:Fk K "holds_on_all" 44)
 (F_book_of:Fk K "book_of" 45)
 (F_lacking_blend:Fk K "lacking_blend" 46)
 (F_table_told:Fk K "table_told" 47)
 (F_law_cell:Fk K "_law_cell" 49)
 (F_law_mixed:Fk K "_law_mixed" 50)
 (F_law_kind:Fk K "_law_kind" 51)
 (F_law_bits:Fk K "_law_bits" 52)
 (F_law_all:Fk K "_law_all" 53)
 (F_law_kinds:Fk K "_law_kinds" 54)
 (F_law_no_length:Fk K "_law_no_length" 55)
 (F_law_book_of:Fk K "_law_book_of" 56)
 (vn:W.nsIn K mainGlobals "law"=some (some (.ref uz))) (vo:K.lookup uz=some ⟨vm,vj,.func (W.fnOf "law" "law" (defArgs (top 57)) (defBody (top 57)) (defScope (top 57)) .none u8 u9 va u7 ux vd),vk⟩) (vp:W.codeIn K ux "law"=true) (vq:W.keepIn K (.ref uz)=true)
 (X_NoTable_NoTable:Xk K "NoTable" "NoTable" true)
 (X_NoTable_DuskError:Xk K "NoTable" "DuskError" true)
 (X_NoTable_NoPage:Xk K "NoTable" "NoPage" false)
 (X_NoTable_NoneSettled:Xk K "NoTable" "NoneSettled" false)
 (X_NoTable_NoLight:Xk K "NoTable" "NoLight" false)
 (X_NoTable_NoHands:Xk K "NoTable" "NoHands" false)
 (X_NoTable_Over:Xk K "NoTable" "Over" false)
 (X_NoTable_NoBook:Xk K "NoTable" "NoBook" false)
 (X_NoTable_NoPaper:Xk K "NoTable" "NoPaper" false)
 {um:Tok} (uo:W.nsIn K mainGlobals "BEACON_COUNT"=some (some (.int 60 um)))
 {ua:Addr} {uj:_} {ub uc ud ue uf ug uh ui:_} (uk:W.nsIn K mainGlobals "BLENDED_COUNTS"=some (some (.ref ua))) (ul:K.lookup ua=some ⟨.type "dict",none,.dict #[⟨PyData.keyHash w.params (Str.ofString "eithers"),.str "eithers" ub,.int 3 uc⟩,⟨PyData.keyHash w.params (Str.ofString "sums"),.str "sums" ud,.int 3 ue⟩,⟨PyData.keyHash w.params (Str.ofString "ifs"),.str "ifs" uf,.int 2 ug⟩,⟨PyData.keyHash w.params (Str.ofString "nots"),.str "nots" uh,.int 2 ui⟩] uj,#[]⟩)
 {uy:Addr} {ve:_} {vf:_} {vg:_} {u0 u4 u5 u6:_} (vh:W.nsIn K mainGlobals "KINDS"=some (some (.ref uy))) (vi:K.lookup uy=some ⟨.type "tuple",ve,.seq #[.str "eithers" u0,.str "sums" u4,.str "ifs" u5,.str "nots" u6] vf,vg⟩)
 {ut:Tok} (uu:W.nsIn K mainGlobals "MOST_LENGTH"=some (some (.int 4 ut)))
 {uv:Tok} (uw:W.nsIn K mainGlobals "MOST_RULES"=some (some (.int 60 uv)))
 {up:Tok} (uq:W.nsIn K mainGlobals "MOST_SAYINGS"=some (some (.int 2 up)))
 (z_len:W.nsIn K mainGlobals "len"=some none)
 (z_range:W.nsIn K mainGlobals "range"=some none)
 (z_list:W.nsIn K mainGlobals "list"=some none)
 (z_tuple:W.nsIn K mainGlobals "tuple"=some none)
 (z_int:W.nsIn K mainGlobals "int"=some none)
 (z_bool:W.nsIn K mainGlobals "bool"=some none)
 (z_str:W.nsIn K mainGlobals "str"=some none)
 (z_sorted:W.nsIn K mainGlobals "sorted"=some none)
 (z_any:W.nsIn K mainGlobals "any"=some none)
 (z_all:W.nsIn K mainGlobals "all"=some none)
 (z_isinstance:W.nsIn K mainGlobals "isinstance"=some none)
 (z_enumerate:W.nsIn K mainGlobals "enumerate"=some none)
 (z_set:W.nsIn K mainGlobals "set"=some none)
 (z_ValueError:W.nsIn K mainGlobals "ValueError"=some none)
 : ∃fd:FuncData,(∀(s:Shared) (v:Value),BindsTo s fd ⟨[v],[]⟩ [("script",v)])/\∀base:Heap,K.In base->base.Ns mainGlobals mg->FnOk l.prog w K mg base CX0 Ylp fa fd ["script"] (spOf K 1 Yo7):=by
 have e:=hfa.symm.trans (W.mg_of X G vn)
 cases e
 have bl:Bl K w mg:=⟨W.mg_none_of X G z_len,W.mg_none_of X G z_range,W.mg_none_of X G z_list,W.mg_none_of X G z_tuple,W.mg_none_of X G z_int,W.mg_none_of X G z_bool,W.mg_none_of X G z_str,W.mg_none_of X G z_sorted,W.mg_none_of X G z_any,W.mg_none_of X G z_all,W.mg_none_of X G z_isinstance,W.mg_none_of X G z_enumerate,W.mg_none_of X G z_set,W.mg_none_of X G z_ValueError,⟨_,W.mg_of X G uo⟩,⟨_,_,_,_,W.mg_of X G uk,ul,⟨rfl,rfl,rfl⟩,rfl,(.cons ⟨rfl,⟨_,rfl⟩,⟨_,rfl⟩⟩ (.cons ⟨rfl,⟨_,rfl⟩,⟨_,rfl⟩⟩ (.cons ⟨rfl,⟨_,rfl⟩,⟨_,rfl⟩⟩ (.cons ⟨rfl,⟨_,rfl⟩,⟨_,rfl⟩⟩ .nil))))⟩,⟨_,_,_,_,W.mg_of X G vh,vi,rfl,rfl,(.cons ⟨⟨_,rfl⟩,by decide +kernel⟩ (.cons ⟨⟨_,rfl⟩,by decide +kernel⟩ (.cons ⟨⟨_,rfl⟩,by decide +kernel⟩ (.cons ⟨⟨_,rfl⟩,by decide +kernel⟩ .nil))))⟩,⟨_,W.mg_of X G uu⟩,⟨_,W.mg_of X G uw⟩,⟨_,W.mg_of X G uq⟩,F_blended_light.on X G,F_lit_count_at.on X G,F_blended.on X G,F_is_beacon.on X G,F_checked_beacon.on X G,F_checked_truth.on X G,F_checked_beacons.on X G,F_either_made.on X G,F_sum_made.on X G,F_if_made.on X G,F_rule_made.on X G,F_book_made.on X G,F_either_holds.on X G,F_sum_holds.on X G,F_if_holds.on X G,F_rule_holds.on X G,F_broken_rules.on X G,F_holds.on X G,F_is_length.on X G,F_check_table.on X G,F_all_evenings.on X G,F_groups_of.on X G,F_small_groups.on X G,F_eithers_over.on X G,F_rules_over.on X G,F_holds_on_all.on X G,F_book_of.on X G,F_lacking_blend.on X G,F_table_told.on X G,F_law_cell.on X G,F_law_mixed.on X G,F_law_kind.on X G,F_law_bits.on X G,F_law_all.on X G,F_law_kinds.on X G,F_law_no_length.on X G,F_law_book_of.on X G,X_NoTable_NoTable.on X G,X_NoTable_DuskError.on X G,X_NoTable_NoPage.on X G,X_NoTable_NoneSettled.on X G,X_NoTable_NoLight.on X G,X_NoTable_NoHands.on X G,X_NoTable_Over.on X G,X_NoTable_NoBook.on X G,X_NoTable_NoPaper.on X G⟩
 have vt:=Yww (st:=(top 57)) vo vp vq
 refine⟨W.fnOf "law" "law" (defArgs (top 57)) (defBody (top 57)) (defScope (top 57)) .none u8 u9 va u7 ux vd,fun s v=>.of_eq rfl,fun base _ _=>?_⟩
 exact y3e bl vt
theorem walk(hlaw:∀ns:List Int,ns.length<=63->Yo7 [.scr ns]=some (.bl true)){l:W.OpenLaw}{q:Program}{loose:List Str}{XP:(Str->Option Value)->Heap->Prop}{YP:World->Heap->Prop}{d:DefRec}{K:Params->W.Frag}(hn:l.most=some 63)(hdf:d.params.defaults=[])
 (hY:∀(w:World) (h:Heap),YP w h->(K w.params).In h)
 (F:∀(w:World) (mg:Str->Option Value) (fa:Addr) (h:Heap),(K w.params).In h->h.Ns mainGlobals mg->mg d.name=some (.ref fa)->
  ∃fd:FuncData,(∀(s:Shared) (u:Value),BindsTo s fd ⟨[u],[]⟩ [("script",u)])/\∀base:Heap,(K w.params).In base->base.Ns mainGlobals mg->FnOk l.prog w (K w.params) mg base CX0 Ylp fa fd ["script"] (spOf (K w.params) 1 Yo7)) :
 W.WalkO q loose XP YP l.row.toRowW d [] (fun f vs=>PySem.call f vs):=
 L2.walk_of (n:=63) (k:=Ylp) (x:="script") (CX:=fun _=>CX0) (sp:=fun w=>spOf (K w.params) 1 Yo7) hn (by decide) hdf ⟨rfl,by decide,by decide⟩ hY F
  (fun w H a ns hl _ hS=>⟨rfl,[.scr ns],.bl true,H,Same.refl H,.one (by rw[Rp];exact⟨a,rfl,hS⟩),hlaw ns hl,fun v H' G' g r=>by rw[Rp]at r;exact r⟩) fun _ _ _ _ _ z=>z
end Lw
namespace Lw
open PySem L2 M Bk
theorem Yke(ns:List Int)(k:Nat):Yar [.scr ns,.int k]=some (.int (ns.getD k 0)):=by
 rw[Yar,Yan (by rfl)]
 by_cases h:k < ns.length
 ·have e:atI (ns.map D.int) (k:Int)=some (.int ns[k]):=by
   rw[Yts,Yp8 h]
   rfl
  simp[Yf9,Yq,h,e]
 ·simp[Yf9,Yq,h]
end Lw
namespace Lw
open PySem L2 M Bk
theorem Yz1(ns:List Int)(a b:Nat):cutD (ns.map D.int) (some (a:Int)) (some (b:Int))=((ns.drop (min a ns.length)).take (min b ns.length - min a ns.length)).map D.int:=by
 unfold cutD
 rw[HT.sIx_nat,HT.sIx_nat]
 simp
end Lw
namespace Lw
open PySem L2 M Bk
theorem Yz2(c m:Int):∃v:Int,0<=v/\Ydi [.int c,.int m]=some (.int v):=by
 refine⟨c % 2305843009213693951 * m % 2305843009213693951,Int.emod_nonneg _ (by decide),?_⟩
 rw[Ydi,Yan (by rfl)]
 have h1:0<=c % 2305843009213693951:=Int.emod_nonneg _ (by decide)
 have h2:c % 2305843009213693951 < 2305843009213693951:=Int.emod_lt_of_pos _ (by decide)
 have h3:mulI (.int (c % 2305843009213693951)) (.int m)=some (.int (c % 2305843009213693951 * m)):=Ywb ⟨by lia,by lia⟩
 simp[Yi2,Yq,h3]
end Lw
namespace Lw
open PySem L2 M Bk
theorem y3f(c:Int):∃k:Kd,Yd6 [.int c]=some (kdD k):=by
 have h0:0<=c % 4:=Int.emod_nonneg _ (by decide)
 have h4:c % 4 < 4:=Int.emod_lt_of_pos _ (by decide)
 rw[Yd6,Yan (by rfl)]
 have e:c % 4=0\/c % 4=1\/c % 4=2\/c % 4=3:=by lia
 rcases e with e | e | e | e
 ·exact⟨.e,by simp[Yc1,Yq,e];rfl⟩
 ·exact⟨.s,by simp[Yc1,Yq,e];rfl⟩
 ·exact⟨.i,by simp[Yc1,Yq,e];rfl⟩
 ·exact⟨.n,by simp[Yc1,Yq,e];rfl⟩
end Lw
namespace Lw
open PySem L2 M Bk
theorem Yxj(c:Int)(n:Nat)(hn:n<=1000):∃ev:List Bool,ev.length=n/\Yc2 [.int c,.int n]=some (.lst (ev.map D.bl)):=by
 obtain⟨v,_,hv⟩:=Yz2 c 1442695040888963407
 obtain⟨ρ',e1,bs,left,y,hl,rfl⟩:=Yg6 (gt:=gSet 4) (fb:=Ydj) (fun i:Nat=>D.int (0+(i:Nat))) (fun pre ρ=>∃(bs:List Bool) (left:Int) (y:Option B),bs.length=pre.length/\
  ρ=[some (.sh (.int c)),some (.sh (.int n)),some (.sh (.int left)),some (.ow (bs.map D.bl)),y]) (List.range n) []
  [some (.sh (.int c)),some (.sh (.int n)),some (.sh (.int v)),some (.ow []),none] ⟨[],v,none,rfl,rfl⟩ (by
   rintro q a r ρ e ⟨bs,left,y,hl,rfl⟩
   have hq:q.length < n:=by have:=congrArg List.length e;simp at this;lia
   have hcap:bs.length < 1000000:=by lia
   refine⟨_,_,rfl,by simp[Ydj,appD,hcap];rfl,bs++[decide (left % 2=1)],left / 2,some (.sh (.int (0+(a:Int)))),by simp[hl],by simp⟩)
 refine⟨bs,by simpa using hl,?_⟩
 rw[Yc2,Yan (by rfl)]
 have hr:=Ytr (n:=(n:Int)) (by lia) (by lia)
 rw[Ytq]at hr
 simp[Ykc,Yq,hv,hr]at e1 ⊢
 rw[e1]
 simp
end Lw
namespace Lw
open PySem L2 M Bk
section
variable {c:D} {ev:List Bool} (hc:Ym c=some (ev.map D.bl))
include hc
theorem Yju{l:List Say}(hl:∀s∈l,s.1 < ev.length):Yb0 [rlD (.ei l),c]=some (.bl (l.any fun s=>at' ev s.1==s.2)):=by
 have h:=Yib (fe:=Ybu) (r:=[some (.sh c)]) (enc:=sayD) (fun s=>.bl (at' ev s.1==s.2)) (l:=l) (fun s hs=>by
  simp[Ybu,hc,Yty (hl s hs)])
 rw[Yb0,Yan (by rfl)]
 simp[Yef,Yq,capR,h,Function.comp_def]
theorem Yo8{b:List Nat}{o:Bool}(hl:∀x∈b,x < ev.length):Ydd [rlD (.su b o),c]=some (.bl (decide ((b.filter (at' ev)).length % 2=1)==o)):=by
 have h:=Yqa (fc:=Yct) (fe:=Ycu) (r:=[some (.sh c)]) (enc:=nD) (at' ev) nD (l:=b) (fun s hs=>by
  simp[Yct,hc,nD,Yty (hl s hs)]) (fun s _ _=>by simp[Ycu])
 have e:∀n:Nat,decide (((n:Nat):Int) % 2=1)=decide (n % 2=1):=fun n=>by
  by_cases z:n % 2=1
  ·have:((n:Nat):Int) % 2=1:=by lia
   simp[z,this]
  ·have:¬((n:Nat):Int) % 2=1:=by lia
   simp[z,this]
 rw[Ydd,Yan (by rfl)]
 simp[Yip,Yq,capR,h,e]
theorem Ykf{b:List Nat}{h:Option Nat}{w:Bool}(hl:∀x∈b,x < ev.length)(hh:∀x,h=some x->x < ev.length):Yd5 [rlD (.im b h),c,.bl w]=some (.bl ((b.any fun x=>at' ev x != w)||hd ev w h)):=by
 have h1:=Yib (fe:=Yde) (r:=[some (.sh c),some (.sh (.bl w))]) (enc:=nD) (fun x=>.bl (at' ev x != w)) (l:=b) (fun s hs=>by
  simp[Yde,hc,nD,Yty (hl s hs),bne])
 rw[Yd5,Yan (by rfl)]
 cases hb:(b.any fun x=>at' ev x != w)with
 | true=>simp[Yd4,Yq,capR,h1,Function.comp_def,hb]
 | false=>
   cases h with
   | none=>simp[Yd4,Yq,capR,h1,Function.comp_def,hb,optD,hd]
   | some x=>simp[Yd4,Yq,capR,h1,Function.comp_def,hb,optD,hd,hc,Yty (hh x rfl)]
theorem Ynn{k:Kd}{r:Rl}(hr:In k ev.length r):Yaa [kdD k,rlD r,c]=some (.bl (so k ev r)):=by
 rw[Yaa,Yan (by rfl)]
 cases r with
 | ei l=>
   obtain⟨rfl,hl⟩:=hr
   simp[Yb4,Yq,Yju hc hl,so]
 | su b o=>
   obtain⟨rfl,hl⟩:=hr
   simp[Yb4,Yq,Yo8 hc hl,so]
 | im b h=>
   obtain⟨hk,hl,hh⟩:=hr
   rcases hk with rfl | rfl
   ·simp[Yb4,Yq,Ykf hc hl hh,so]
   ·simp[Yb4,Yq,Ykf hc hl hh,so]
end
end Lw
namespace Lw
open PySem L2 M Bk
section
variable {c:D} {ev:List Bool} (hc:Ym c=some (ev.map D.bl))
include hc
theorem Yjv{k:Kd}{R:List Rl}(hR:∀r∈R,In k ev.length r):Yb1 [Ybl k R,c]=some (.lst ((brk k ev R).map nD)):=by
 have h:=y27 (fc:=Ybv) (fe:=Ybw) (r:=[some (.sh (Ybl k R)),some (.sh c)]) (e1:=fun i:Nat=>.int i) (e2:=fun i=>rlD (nth R i)) (fun i=>!so k ev (nth R i)) nD (l:=List.range R.length) (fun i hi=>by
  have hi':=qz hi
  have hr:=Ynn hc (hR (nth R i) (Ytz hi'))
  simp[Ybv,hr]) (fun i _ _=>by simp[Ybw,nD])
 rw[Yb1,Yan (by rfl)]
 simp[Yeg,Yq,capR,Yzu,h,brk]
end
end Lw
namespace Lw
open PySem L2 M Bk
section
variable {c:D} {ev:List Bool} (hc:Ym c=some (ev.map D.bl))
include hc
theorem Yz3{k:Kd}{R:List Rl}(hR:∀r∈R,In k ev.length r):Yf2 [Ybl k R,c]=some (.bl (decide (brk k ev R=[]))):=by
 rw[Yf2,Yan (by rfl)]
 have e:decide (((brk k ev R).length:Int)=0)=decide (brk k ev R=[]):=by
  cases brk k ev R with
  | nil=>rfl
  | cons a l=>simp;lia
 simp[Yuh,Yq,Yjv hc hR,e]
end
end Lw
namespace Lw
open PySem L2 M Bk
def blL:Kd->Nat->Bool
 | .e,c=>decide (2<=c)
 | .s,c=>decide (c % 2=1)
 | .i,c=>decide (c=2)
 | .n,c=>decide (1<=c)
abbrev evD(ev:List Bool):D:=.tup (ev.map D.bl)
def cntE(evs:List (List Bool))(b:Nat):Nat:=(evs.filter fun ev=>at' ev b).length
theorem Yi7(k:Kd)(c:Nat):Ybg [kdD k,.int (c:Int)]=some (.bl (blL k c)):=by
 rw[Ybg,Yan (by rfl)]
 have e1:((c:Int) % 2=1)↔(c % 2=1):=by lia
 have e2:((c:Int)=2)↔(c=2):=by lia
 have e3:(2<=(c:Int))↔(2<=c):=by lia
 have e4:(1<=(c:Int))↔(1<=c):=by lia
 cases k<;>simp[Ydr,Yq,blL,e1,e2,e3,e4]
theorem Yo9{c:D}{evs:List (List Bool)}(hc:Ym c=some (evs.map evD)){b:Nat}(hb:∀ev∈evs,b < ev.length):Ybz [c,.int (b:Int)]=some (.int ((cntE evs b:Nat):Int)):=by
 have h:=Yqa (fc:=Ybq) (fe:=Ybr) (r:=[some (.sh (.int (b:Int)))]) (enc:=evD) (fun ev=>at' ev b) evD (l:=evs) (fun ev hev=>by
  simp[Ybq,Yty (hb ev hev)]) (fun s _ _=>by simp[Ybr])
 rw[Ybz,Yan (by rfl)]
 simp[Yee,Yq,capR,hc,h,cntE]
theorem Yuj{c:D}{ev:List Bool}{evs:List (List Bool)}(hc:Ym c=some ((ev::evs).map evD)){n:Nat}(hn:n<=1000)(hl:∀e∈ev::evs,e.length=n)(k:Kd) :
 Ydu [kdD k,c]=some (evD ((List.range n).map fun b=>blL k (cntE (ev::evs) b))):=by
 rw[Ydu,Yan (by rfl)]
 have hrg:=Ytr (n:=(n:Int)) (by lia) (by lia)
 rw[Ytq]at hrg
 have h1:=Yib (fe:=Yds) (r:=[some (.sh c)]) (enc:=fun i:Nat=>D.int (0+(i:Nat))) (fun b=>.int ((cntE (ev::evs) b:Nat):Int)) (l:=List.range n) (fun b hb=>by
  have hb':=qz hb
  have:=Yo9 hc (b:=b) fun e he=>by rw[hl e he];exact hb'
  simp[Yds,this])
 have h2:=Yib (fe:=Ydt) (r:=[some (.sh (kdD k))]) (enc:=fun b:Nat=>D.int ((cntE (ev::evs) b:Nat):Int)) (fun b=>.bl (blL k (cntE (ev::evs) b))) (l:=List.range n) (fun b _=>by
  simp[Ydt,Yi7])
 have hl0:ev.length=n:=hl ev qg
 have hrg':rng1 [.int (ev.length:Int)]=rng1 [.int (n:Int)]:=by rw[hl0]
 rw[Qb]at hc
 simp[Ym2,Yq,capR,hc,hl0]at hrg h1 h2 ⊢
 simp[hrg,h1]
 simp[capR,h2,Function.comp_def]
end Lw
namespace Lw
open PySem L2 M Bk
end Lw
namespace Lw
open PySem L2 M Bk
theorem Ywp(k:Kd):kS k∈Yg7:=by cases k<;>simp[Yg7,kS]
end Lw
namespace Lw
open PySem L2 M Bk
def allE:Nat->List (List Bool)
 | 0=>[[]]
 | n+1=>(allE n).map (·++[false])++(allE n).map (·++[true])
theorem Yd7:∀(n:Nat) {x:List Bool},x∈allE n->x.length=n
 | 0,x,h=>by rw[List.mem_singleton.mp h];rfl
 | n+1,x,h=>by
   rcases qu h with h | h
   ·obtain⟨y,hy,rfl⟩:=qw h
    rw[qx,Yd7 n hy]
    rfl
   ·obtain⟨y,hy,rfl⟩:=qw h
    rw[qx,Yd7 n hy]
    rfl
theorem Yno:∀n,(allE n).length=2 ^ n
 | 0=>rfl
 | n+1=>by rw[allE,qx,qe,qe,Yno n,Nat.pow_succ];lia
theorem Yg8:∀(n:Nat) {x:List Bool},x.length=n->x∈allE n
 | 0,x,h=>by rw[List.eq_nil_of_length_eq_zero h];exact qg
 | n+1,x,h=>by
   have hne:x≠[]:=fun z=>by rw[z]at h;cases h
   have hd:=List.dropLast_concat_getLast hne
   have ih:=Yg8 n (x:=x.dropLast) (by rw[List.length_dropLast,h];rfl)
   rw[<-hd]
   refine List.mem_append.mpr ?_
   cases x.getLast hne
   ·exact .inl (List.mem_map_of_mem (f:=(·++[false])) ih)
   ·exact .inr (List.mem_map_of_mem (f:=(·++[true])) ih)
theorem Yz4(a b:List D):catD (.lst a) (.lst b)=if a.length+b.length<=cap6 then some (a++b)else none:=nr rfl
theorem Yz5(a b:List Bool):eqD (tpB a) (tpB b)=decide (a=b):=by
 rw[tpB,tpB,Yzq,Ytw Yzt]
theorem Yuk(a:List Bool):dep (tpB a)<=1:=by
 rw[tpB,Yzr]
 have:=Ytx (enc:=D.bl) (n:=0) (fun b=>by simp) a
 lia
theorem y3g{c:D}(s:List Bool)(l:List (List Bool))(neg:Bool)(hc:Ym c=some (l.map tpB)):inM neg (tpB s) c=some (if neg then !decide (s∈l)else decide (s∈l)):=by
 rw[y26 hc (by have:=Yuk s;lia) (by have:=Ytx (enc:=tpB) (n:=1) Yuk l;lia),Ytu Yz5]
 by_cases hm:s∈l<;>simp[hm]
theorem le4{P:Nat->Prop}(h0:P 0)(h1:P 1)(h2:P 2)(h3:P 3)(h4:P 4){n:Nat}(hn:n<=4):P n:=by
 rcases n with _ | _ | _ | _ | _ | n
 ·exact h0
 ·exact h1
 ·exact h2
 ·exact h3
 ·exact h4
 ·lia
end Lw
namespace Lw
open PySem L2 M Bk
theorem Yjw{n:Nat}(hn:n<=4):Ya6 [.int (n:Int)]=some (.lst ((allE n).map tpB)):=
 le4 (P:=fun n=>Ya6 [.int (n:Int)]=some (.lst ((allE n).map tpB))) (by kernel_rfl) (by kernel_rfl) (by kernel_rfl) (by kernel_rfl) (by kernel_rfl) hn
end Lw
namespace Lw
open PySem L2 M Bk
theorem Yul{n:Nat}(hn:n<=4):Ydy [.int (n:Int)]=some (.lst ((allE n).map tpB)):=
 le4 (P:=fun n=>Ydy [.int (n:Int)]=some (.lst ((allE n).map tpB))) (by kernel_rfl) (by kernel_rfl) (by kernel_rfl) (by kernel_rfl) (by kernel_rfl) hn
end Lw
namespace Lw
open PySem L2 M Bk
def grp{α:Type}:Nat->List α->List (List α)
 | 0,_=>[[]]
 | _+1,[]=>[]
 | c+1,x::l=>(grp c l).map (x::·)++grp (c+1) l
theorem Yg9{α:Type}(l:List α):grp 0 l=[[]]:=by cases l<;>rfl
theorem Ypa{α:Type}:∀(c:Nat) (l:List α),(grp c l).length<=(l.length+1) ^ c
 | 0,l=>by rw[Yg9];exact qt _
 | c+1,[]=>by simp[grp]
 | c+1,x::l=>by
   have h1:=Ypa c l
   have h2:=Ypa (c+1) l
   rw[grp,qx,qe,qq]
   have h3:(l.length+1) ^ (c+1)=(l.length+1) * (l.length+1) ^ c:=by rw[Nat.pow_succ,Nat.mul_comm]
   have h4:(l.length+1) ^ c<=(l.length+1+1) ^ c:=Nat.pow_le_pow_left (by lia) c
   have h5:(l.length+1+1) ^ (c+1)=(l.length+1+1) * (l.length+1+1) ^ c:=by rw[Nat.pow_succ,Nat.mul_comm]
   have h6:(l.length+1) * (l.length+1) ^ c<=(l.length+1) * (l.length+1+1) ^ c:=Nat.mul_le_mul_left _ h4
   rw[h5,Nat.add_mul,Nat.one_mul]
   rw[h3]at h2
   lia
theorem Yga{α:Type}:∀(c:Nat) (l:List α) {g:List α},g∈grp c l->g.length=c/\g.Sublist l
 | 0,l,g,h=>by
   rw[Yg9]at h
   rw[List.mem_singleton.mp h]
   exact⟨rfl,List.nil_sublist l⟩
 | c+1,[],g,h=>nomatch h
 | c+1,x::l,g,h=>by
   rw[grp]at h
   rcases qu h with h | h
   ·obtain⟨g',hg,rfl⟩:=qw h
    obtain⟨h1,h2⟩:=Yga c l hg
    exact⟨by rw[qq,h1],h2.cons_cons x⟩
   ·obtain⟨h1,h2⟩:=Yga (c+1) l h
    exact⟨h1,h2.cons x⟩
theorem Yz6{α:Type}{g l:List α}(h:g.Sublist l):g∈grp g.length l:=by
 induction h with
 | slnil=>exact qg
 | @cons g' l' a h ih=>
   cases g' with
   | nil=>
     show[]∈grp 0 (a::l')
     rw[Yg9]
     exact qg
   | cons y g'=>
     rw[qq,grp]
     exact Qh _ ih
 | @cons_cons g' l' a h ih=>
   rw[qq,grp]
   exact List.mem_append_left _ (List.mem_map_of_mem ih)
abbrev grD{α:Type}(enc:α->D)(g:List α):D:=.lst (g.map enc)
theorem Yum(l:List D)(i:Nat)(h:i<=l.length):cutD l (some (i:Int)) none=l.drop i:=by
 unfold cutD
 rw[HT.sIx_nat,HT.sIx_none,Nat.min_eq_left h]
 exact List.take_of_length_le (by simp)
theorem Yqg{α:Type}(enc:α->D)(df:α):∀(c j:Nat) (l:List α) {cd:D},cd=.lst (l.map enc)->c<=4->c < j->l.length<=20->Yah j [cd,.int (c:Int)]=some (.lst ((grp c l).map (grD enc)))
 | 0,j+1,l,cd,hcd,_,_,_=>by
   subst hcd
   rw[Yah,Yan (by rfl)]
   have hst:Yq 5 [D.lst (l.map enc),.int ((0:Nat):Int)]=[some (.sh (.lst (l.map enc))),some (.sh (.int ((0:Nat):Int))),none,none,none]:=rfl
   rw[hst]
   rw[Yg9]
   generalize l.map enc=L
   simp[Yey]
 | c,0,l,cd,_,_,h,_=>absurd h (Nat.not_lt_zero _)
 | c+1,j+1,l,cd,hcd,hc4,hcj,hl=>by
   subst hcd
   rw[Yah,Yan (by rfl)]
   have hsplit:∀q:Nat,q < l.length->grp (c+1) (l.drop q)=(grp c (l.drop (q+1))).map (l.getD q df::·)++grp (c+1) (l.drop (q+1)):=fun q hq=>by
    have e:=List.drop_eq_getElem_cons hq
    rw[e,grp]
    simp[hq]
   have hpow:∀m:List α,m.length<=20->∀d,d<=4->(grp d m).length<=194481:=fun m hm d hd=>by
    refine Nat.le_trans (Ypa d m) ?_
    refine Nat.le_trans (Nat.pow_le_pow_left (show m.length+1<=21 by lia) d) ?_
    exact Nat.le_trans (Nat.pow_le_pow_right (by decide) hd) (by decide)
   obtain⟨ρ1,e1,acc,y3,y4,hacc,rfl⟩:=Yg6 (gt:=Ykr 3 4) (fb:=Ycw (Yah j)) (fun i:Nat=>D.tup [.int (i:Int),enc (l.getD i df)]) (fun pre ρ=>∃(acc:List (List α)) (y3 y4:Option B),acc++grp (c+1) (l.drop pre.length)=grp (c+1) l/\
    ρ=[some (.sh (.lst (l.map enc))),some (.sh (.int ((c+1:Nat):Int))),some (.ow (acc.map (grD enc))),y3,y4]) (List.range l.length) []
    [some (.sh (.lst (l.map enc))),some (.sh (.int ((c+1:Nat):Int))),some (.ow []),none,none] ⟨[],none,none,rfl,rfl⟩ (by
     rintro q a r ρ e ⟨acc,y3,y4,hacc,rfl⟩
     have hq:q.length < l.length:=by have:=congrArg List.length e;simp at this;lia
     have ha:a=q.length:=by
      rw[List.nil_append]at e
      have h1:(q++a::r)[q.length]?=some a:=by simp
      rw[<-e,List.getElem?_range hq]at h1
      exact(Option.some.inj h1).symm
     subst ha
     have hrec:=Yqg enc df c j (l.drop (q.length+1)) (cd:=.lst ((l.drop (q.length+1)).map enc)) rfl (by lia) (by lia) (by rw[List.length_drop];lia)
     have hcut:cutD (l.map enc) (some ((q.length:Int)+1)) none=(l.drop (q.length+1)).map enc:=by
      have:=Yum (l.map enc) (q.length+1) (by rw[qe];lia)
      rw[List.map_drop]
      simpa using this
     have hcm:=Yib (fe:=Yb2 (Yah j)) (r:=[some (.sh (enc (l.getD q.length df)))]) (enc:=grD enc) (fun g=>grD enc (l.getD q.length df::g)) (l:=grp c (l.drop (q.length+1))) (fun g hg=>by
      have hgl:=(Yga c _ hg).1
      have hcat:catD (.lst [enc (l.getD q.length df)]) (.lst (g.map enc))=some (enc (l.getD q.length df)::g.map enc):=by
       rw[Yz4,if_pos (by rw[qe,hgl];show 1+c<=1000000;lia)]
       rfl
      show Yb2 _ [some (.sh (.lst (g.map enc))),some (.sh (enc (l.getD q.length df)))]=some (D.lst (enc (l.getD q.length df)::g.map enc))
      generalize enc (l.getD q.length df)=EE at *
      generalize g.map enc=GE at *
      simp[Yb2,hcat])
     have hg1:=hpow l hl (c+1) hc4
     have hacl:(acc++(grp c (l.drop (q.length+1))).map (l.getD q.length df::·)).length<=194481:=by
      have:=congrArg List.length hacc
      rw[hsplit q.length hq,<-List.append_assoc,qx]at this
      lia
     have hext:extD (acc.map (grD enc)) (.lst ((grp c (l.drop (q.length+1))).map fun g=>grD enc (l.getD q.length df::g)))=some ((acc++(grp c (l.drop (q.length+1))).map (l.getD q.length df::·)).map (grD enc)):=by
      unfold extD
      rw[qx,qe]at hacl
      simp only[Ycd,qc]
      rw[if_pos (by rw[qe,qe];show _<=1000000;lia),List.map_append,List.map_map]
      rfl
     refine⟨_,[some (.sh (.lst (l.map enc))),some (.sh (.int ((c+1:Nat):Int))),some (.ow ((acc++(grp c (l.drop (q.length+1))).map (l.getD q.length df::·)).map (grD enc))),some (.sh (.int (q.length:Int))),some (.sh (enc (l.getD q.length df)))],rfl,?_,_,_,_,?_,rfl⟩
     ·have hc1:((c+1:Nat):Int) - 1=(c:Int):=by lia
      generalize (acc++(grp c (l.drop (q.length+1))).map (l.getD q.length df::·)).map (grD enc)=R2 at *
      generalize (grp c (l.drop (q.length+1))).map (fun g=>grD enc (l.getD q.length df::g))=R1 at *
      generalize (grp c (l.drop (q.length+1))).map (grD enc)=R0 at *
      generalize acc.map (grD enc)=R3 at *
      generalize enc (l.getD q.length df)=EE at *
      generalize (l.drop (q.length+1)).map enc=LD at *
      generalize l.map enc=LL at *
      simp[Ycw,hcut,hc1,hrec,capR,hcm,hext]
     ·rw[qx]
      show _++grp (c+1) (l.drop (q.length+1))=_
      rw[List.append_assoc,<-hsplit q.length hq]
      exact hacc)
   have hfin:acc=grp (c+1) l:=by
    rw[List.nil_append,List.length_range,List.drop_length,grp,List.append_nil]at hacc
    exact hacc
   subst hfin
   have hen:Yjc (l.map enc)=(List.range l.length).map fun i:Nat=>D.tup [.int (i:Int),enc (l.getD i df)]:=Ym0 enc df l
   have hst:Yq 5 [D.lst (l.map enc),.int ((c+1:Nat):Int)]=[some (.sh (.lst (l.map enc))),some (.sh (.int ((c+1:Nat):Int))),none,none,none]:=rfl
   have hc0:¬((c+1:Nat):Int)=0:=by lia
   rw[hst]
   rw[<-hen]at e1
   generalize (grp (c+1) l).map (grD enc)=GG at *
   generalize l.map enc=LL at *
   generalize ((c+1:Nat):Int)=ci at *
   simp[Yey,hc0]at e1 ⊢
   rw[e1]
   simp
theorem Ypb{α:Type}(enc:α->D)(df:α){c:Nat}{l:List α}(hc:c<=4)(hl:l.length<=20):Ycf [.lst (l.map enc),.int (c:Int)]=some (.lst ((grp c l).map (grD enc))):=Yqg enc df c 12 l rfl hc (by lia) hl
end Lw
namespace Lw
open PySem L2 M Bk
def smg{α:Type}(m:Nat)(l:List α):List (List α):=(List.range (m+1)).flatMap fun c=>grp c l
theorem mem_smg{α:Type}{m:Nat}{l g:List α}:g∈smg m l↔g.length<=m/\g.Sublist l:=by
 unfold smg
 rw[List.mem_flatMap]
 constructor
 ·rintro⟨c,hc,hg⟩
  obtain⟨h1,h2⟩:=Yga c l hg
  have:=qz hc
  exact⟨by lia,h2⟩
 ·rintro⟨h1,h2⟩
  exact⟨g.length,List.mem_range.mpr (by lia),Yz6 h2⟩
def sayN(n:Nat):List Say:=(List.range n).map (·,false)++(List.range n).map (·,true)
def hdD:Rl->D
 | .ei l=>.lst (l.map sayD)
 | .su b o=>.tup [.lst (b.map nD),.bl o]
 | .im b h=>.tup [.lst (b.map nD),optD h]
def RO:Kd->Nat->List Rl
 | .e,n=>(smg 2 (sayN n)).map .ei
 | .s,n=>(smg n (List.range n)).flatMap fun b=>[false,true].map (.su b)
 | .i,n=>(smg n (List.range n)).flatMap fun b=>(none::(List.range n).map some).map (.im b)
 | .n,n=>(smg n (List.range n)).flatMap fun b=>(none::(List.range n).map some).map (.im b)
theorem Ynp(k:Kd){n:Nat}(hn:n<=4):Yas [kdD k,.int (n:Int)]=some (.lst ((RO k n).map hdD)):=by
 cases k
 ·exact le4 (P:=fun n=>Yas [kdD .e,.int (n:Int)]=some (.lst ((RO .e n).map hdD))) (by kernel_rfl) (by kernel_rfl) (by kernel_rfl) (by kernel_rfl) (by kernel_rfl) hn
 ·exact le4 (P:=fun n=>Yas [kdD .s,.int (n:Int)]=some (.lst ((RO .s n).map hdD))) (by kernel_rfl) (by kernel_rfl) (by kernel_rfl) (by kernel_rfl) (by kernel_rfl) hn
 ·exact le4 (P:=fun n=>Yas [kdD .i,.int (n:Int)]=some (.lst ((RO .i n).map hdD))) (by kernel_rfl) (by kernel_rfl) (by kernel_rfl) (by kernel_rfl) (by kernel_rfl) hn
 ·exact le4 (P:=fun n=>Yas [kdD .n,.int (n:Int)]=some (.lst ((RO .n n).map hdD))) (by kernel_rfl) (by kernel_rfl) (by kernel_rfl) (by kernel_rfl) (by kernel_rfl) hn
end Lw
namespace Lw
open PySem L2 M Bk
theorem Ywq(k:Kd){n:Nat}(hn:n<=4):(RO k n).map (fun r=>(allE n).map fun ev=>Yaa [kdD k,hdD r,tpB ev])=(RO k n).map fun r=>(allE n).map fun ev=>some (.bl (so k ev r)):=by
 cases k
 ·exact le4 (P:=fun n=>(RO .e n).map (fun r=>(allE n).map fun ev=>Yaa [kdD .e,hdD r,tpB ev])=(RO .e n).map fun r=>(allE n).map fun ev=>some (.bl (so .e ev r))) (by kernel_rfl) (by kernel_rfl) (by kernel_rfl) (by kernel_rfl) (by kernel_rfl) hn
 ·exact le4 (P:=fun n=>(RO .s n).map (fun r=>(allE n).map fun ev=>Yaa [kdD .s,hdD r,tpB ev])=(RO .s n).map fun r=>(allE n).map fun ev=>some (.bl (so .s ev r))) (by kernel_rfl) (by kernel_rfl) (by kernel_rfl) (by kernel_rfl) (by kernel_rfl) hn
 ·exact le4 (P:=fun n=>(RO .i n).map (fun r=>(allE n).map fun ev=>Yaa [kdD .i,hdD r,tpB ev])=(RO .i n).map fun r=>(allE n).map fun ev=>some (.bl (so .i ev r))) (by kernel_rfl) (by kernel_rfl) (by kernel_rfl) (by kernel_rfl) (by kernel_rfl) hn
 ·exact le4 (P:=fun n=>(RO .n n).map (fun r=>(allE n).map fun ev=>Yaa [kdD .n,hdD r,tpB ev])=(RO .n n).map fun r=>(allE n).map fun ev=>some (.bl (so .n ev r))) (by kernel_rfl) (by kernel_rfl) (by kernel_rfl) (by kernel_rfl) (by kernel_rfl) hn
theorem Yun{k:Kd}{n:Nat}(hn:n<=4){r:Rl}(hr:r∈RO k n){ev:List Bool}(hl:ev.length=n):Yaa [kdD k,hdD r,tpB ev]=some (.bl (so k ev r)):=
 List.map_inj_left.mp (List.map_inj_left.mp (Ywq k hn) r hr) ev (Yg8 n hl)
theorem Yjx{k:Kd}{n:Nat}{r:Rl}(hn:n<=4)(hr:r∈RO k n){T:List (List Bool)}(hT:∀ev∈T,ev.length=n){c:D}(hc:Ym c=some (T.map tpB)):Yb3 [kdD k,hdD r,c]=some (.bl (T.all fun ev=>so k ev r)):=by
 have h:=Yib (fe:=Ybx) (r:=[some (.sh (kdD k)),some (.sh (hdD r))]) (enc:=tpB) (fun ev=>.bl (so k ev r)) (l:=T) (fun ev hev=>by
  have:=Yun hn hr (hT ev hev)
  generalize hdD r=R at *
  generalize tpB ev=E at *
  simp[Ybx,this])
 have hm:(T.map fun ev=>D.bl (so k ev r))=(T.map fun ev=>so k ev r).map D.bl:=by rw[List.map_map];rfl
 rw[hm]at h
 have hall:(T.map fun ev=>so k ev r).all id=T.all fun ev=>so k ev r:=by rw[List.all_map];rfl
 rw[Yb3,Yan (by rfl)]
 have hst:Yq 3 [kdD k,hdD r,c]=[some (.sh (kdD k)),some (.sh (hdD r)),some (.sh c)]:=rfl
 rw[hst,<-hall]
 generalize (T.map fun ev=>so k ev r)=bs at *
 generalize T.map tpB=TT at *
 generalize hdD r=R at *
 simp[Yej,hc,capR,h]
end Lw
namespace Lw
open PySem L2 M Bk
def cntK:Kd->Nat
 | .e=>3
 | .s=>3
 | .i=>2
 | .n=>2
def blE(k:Kd)(n:Nat)(g:List (List Bool)):List Bool:=(List.range n).map fun b=>blL k (cntE g b)
def Yi8(k:Kd)(n:Nat)(T:List (List Bool)):Option (List (List Bool)):=(grp (cntK k) T).find? fun g=>!decide (blE k n g∈T)
def Yz7:Option (List (List Bool))->D
 | none=>.non
 | some g=>grD tpB g
theorem Ynq{k:Kd}{n:Nat}(hn:n<=4){T:List (List Bool)}(hT:∀ev∈T,ev.length=n):∀(gs:List (List (List Bool))) (y:Option B),(∀g∈gs,g≠[]/\∀ev∈g,ev∈T)->
 (∃y',M.forM (gSet 2) y8 (gs.map (grD tpB)) [some (.sh (kdD k)),some (.sh (.lst (T.map tpB))),y]=some (.nx [some (.sh (kdD k)),some (.sh (.lst (T.map tpB))),y'])/\gs.find? (fun g=>!decide (blE k n g∈T))=none)\/
 (∃g,M.forM (gSet 2) y8 (gs.map (grD tpB)) [some (.sh (kdD k)),some (.sh (.lst (T.map tpB))),y]=some (.rt (grD tpB g))/\gs.find? (fun g=>!decide (blE k n g∈T))=some g)
 | [],y,_=>.inl ⟨y,by simp,rfl⟩
 | g::gs,y,h=>by
   obtain⟨hne,hg⟩:=h g qg
   have hb:Ydu [kdD k,grD tpB g]=some (tpB (blE k n g)):=by
    cases g with
    | nil=>exact absurd rfl hne
    | cons e g=>exact Yuj (c:=grD tpB (e::g)) rfl (by lia) (fun x hx=>hT x (hg x hx)) k
   have hin:=y3g (c:=.lst (T.map tpB)) (blE k n g) T true rfl
   have hgs:gSet 2 (grD tpB g) [some (.sh (kdD k)),some (.sh (.lst (T.map tpB))),y]=some [some (.sh (kdD k)),some (.sh (.lst (T.map tpB))),some (.sh (grD tpB g))]:=rfl
   rw[Qb,M.forM,hgs,qc,List.find?_cons]
   by_cases hm:blE k n g∈T
   ·have hst:y8 [some (.sh (kdD k)),some (.sh (.lst (T.map tpB))),some (.sh (grD tpB g))]=some (.nx [some (.sh (kdD k)),some (.sh (.lst (T.map tpB))),some (.sh (grD tpB g))]):=by
     rw[decide_eq_true hm]at hin
     generalize tpB (blE k n g)=BE at *
     generalize D.lst (T.map tpB)=TT at *
     generalize grD tpB g=GG at *
     simp[y8,hb,hin]
    rw[hst,qc]
    have hd:(!decide (blE k n g∈T))=false:=by simp[hm]
    rw[hd]
    exact Ynq hn hT gs _ fun x hx=>h x (qf _ hx)
   ·right
    have hst:y8 [some (.sh (kdD k)),some (.sh (.lst (T.map tpB))),some (.sh (grD tpB g))]=some (.rt (grD tpB g)):=by
     rw[decide_eq_false hm]at hin
     generalize tpB (blE k n g)=BE at *
     generalize D.lst (T.map tpB)=TT at *
     generalize grD tpB g=GG at *
     simp[y8,hb,hin]
    have hd:(!decide (blE k n g∈T))=true:=by simp[hm]
    rw[hst,qc,hd]
    exact⟨g,rfl,rfl⟩
theorem Yi9{k:Kd}{n:Nat}(hn:n<=4){T:List (List Bool)}(hT:∀ev∈T,ev.length=n)(hl:T.length<=20):Ybh [kdD k,.lst (T.map tpB)]=some (Yz7 (Yi8 k n T)):=by
 rw[Ybh,Yan (by rfl)]
 have hg:=Ypb tpB [] (c:=cntK k) (l:=T) (by cases k<;>decide) hl
 have hck:Ygf gt_BLENDED_COUNTS (kdD k)=some (.int ((cntK k:Nat):Int)):=by
  have h:gt_BLENDED_COUNTS.lookup (kS k)=some ((cntK k:Nat):Int):=by cases k<;>decide +kernel
  show(gt_BLENDED_COUNTS.lookup (kS k)).map D.int=_
  rw[h]
  rfl
 have hgs:∀g∈grp (cntK k) T,g≠[]/\∀ev∈g,ev∈T:=fun g hg=>by
  obtain⟨h1,h2⟩:=Yga _ _ hg
  refine⟨fun z=>?_,fun ev hev=>h2.subset hev⟩
  rw[z]at h1
  cases k<;>cases h1
 have hst:Yq 3 [kdD k,.lst (T.map tpB)]=[some (.sh (kdD k)),some (.sh (.lst (T.map tpB))),none]:=rfl
 rw[hst,Ydw,Yad]
 have h1:b1 (cC (Ye (getV 1) (Ye (b1 (getC 0) (Ygf gt_BLENDED_COUNTS)) aNil)) Ycf) Ym [some (.sh (kdD k)),some (.sh (.lst (T.map tpB))),none]=some ((grp (cntK k) T).map (grD tpB)):=by
  have h2:Ye (getV 1) (Ye (b1 (getC 0) (Ygf gt_BLENDED_COUNTS)) aNil) [some (.sh (kdD k)),some (.sh (.lst (T.map tpB))),none]=some [.lst (T.map tpB),.int ((cntK k:Nat):Int)]:=by
   generalize T.map tpB=TT
   simp[hck,-Yq3]
  rw[Yv9,Yto,h2,qc,hg,qc,Ycd]
 rw[Yok,h1,qc]
 rcases Ynq hn hT (grp (cntK k) T) none hgs with⟨y',hw,hf⟩ | ⟨g,hw,hf⟩
 ·rw[hw,qc,Yby]
  unfold Yi8
  rw[hf]
  rfl
 ·rw[hw,qc]
  unfold Yi8
  rw[hf]
  rfl
end Lw
namespace Lw
open PySem L2 M Bk
theorem Ynr{b:List Nat}{n:Nat}(h:b.Sublist (List.range n)):b.Pairwise (· < ·)/\∀x∈b,x < n:=⟨List.pairwise_lt_range.sublist h,fun x hx=>qz (h.subset hx)⟩
theorem Yuo(n:Nat):(sayN n).Nodup:=by
 unfold sayN
 refine List.nodup_append.mpr ⟨?_,?_,fun x hx y hy z=>?_⟩
 ·rw[List.nodup_iff_pairwise_ne,List.pairwise_map]
  exact List.nodup_range.imp fun h z=>h (by simpa using z)
 ·rw[List.nodup_iff_pairwise_ne,List.pairwise_map]
  exact List.nodup_range.imp fun h z=>h (by simpa using z)
 ·obtain⟨a,_,rfl⟩:=qw hx
  obtain⟨b,_,rfl⟩:=qw hy
  cases z
theorem Yz8{n:Nat}{s:Say}(h:s∈sayN n):s.1 < n:=by
 rcases qu h with h | h
 ·obtain⟨a,ha,rfl⟩:=qw h
  exact qz ha
 ·obtain⟨a,ha,rfl⟩:=qw h
  exact qz ha
def mkR:Rl->Rl
 | .ei [a,b]=>if plt (b.1:Int) b.2 (a.1:Int) a.2=true then .ei [b,a]else .ei [a,b]
 | r=>r
theorem Ywr(k:Kd){n:Nat}(hn:n<=4):(RO k n).map (fun r=>Ybb [kdD k,hdD r])=(RO k n).map fun r=>some (rlD (mkR r)):=by
 cases k
 ·exact le4 (P:=fun n=>(RO .e n).map (fun r=>Ybb [kdD .e,hdD r])=(RO .e n).map fun r=>some (rlD (mkR r))) (by kernel_rfl) (by kernel_rfl) (by kernel_rfl) (by kernel_rfl) (by kernel_rfl) hn
 ·exact le4 (P:=fun n=>(RO .s n).map (fun r=>Ybb [kdD .s,hdD r])=(RO .s n).map fun r=>some (rlD (mkR r))) (by kernel_rfl) (by kernel_rfl) (by kernel_rfl) (by kernel_rfl) (by kernel_rfl) hn
 ·exact le4 (P:=fun n=>(RO .i n).map (fun r=>Ybb [kdD .i,hdD r])=(RO .i n).map fun r=>some (rlD (mkR r))) (by kernel_rfl) (by kernel_rfl) (by kernel_rfl) (by kernel_rfl) (by kernel_rfl) hn
 ·exact le4 (P:=fun n=>(RO .n n).map (fun r=>Ybb [kdD .n,hdD r])=(RO .n n).map fun r=>some (rlD (mkR r))) (by kernel_rfl) (by kernel_rfl) (by kernel_rfl) (by kernel_rfl) (by kernel_rfl) hn
theorem Yz9{a b:Say}(h:plt (b.1:Int) b.2 (a.1:Int) a.2=true):slt b a:=by
 unfold plt at h
 by_cases z:(b.1:Int)=(a.1:Int)
 ·rw[if_pos z,Qf,Bool.not_eq_true']at h
  exact .inr ⟨by lia,h.1,h.2⟩
 ·rw[if_neg z]at h
  have:=of_decide_eq_true h
  exact .inl (by lia)
theorem y0a{a b:Say}(hab:a≠b)(h:plt (b.1:Int) b.2 (a.1:Int) a.2=false):slt a b:=by
 unfold plt at h
 by_cases z:(b.1:Int)=(a.1:Int)
 ·rw[if_pos z]at h
  obtain⟨x,p⟩:=a
  obtain⟨y,q⟩:=b
  have hxy:x=y:=by simp only at z;lia
  subst hxy
  refine .inr ⟨rfl,?_⟩
  cases p<;>cases q<;>simp at h hab ⊢
 ·rw[if_neg z]at h
  have:=of_decide_eq_false h
  exact .inl (by lia)
theorem mk_e{l:List Say}(h2:l.length<=2)(hn:l.Nodup):∃l',mkR (.ei l)=.ei l'/\l'.Perm l/\l'.Pairwise slt:=by
 rcases l with _ | ⟨a,_ | ⟨b,_ | ⟨c,r⟩⟩⟩
 ·exact⟨[],rfl,.refl _,.nil⟩
 ·exact⟨[a],rfl,.refl _,by simp⟩
 ·have hab:a≠b:=by simpa using hn
  cases hp:plt (b.1:Int) b.2 (a.1:Int) a.2 with
  | true=>exact⟨[b,a],by show(if _=true then _ else _)=_;rw[if_pos hp],.swap _ _ _,by simpa using Yz9 hp⟩
  | false=>exact⟨[a,b],by show(if _=true then _ else _)=_;rw[if_neg (by rw[hp];decide)],.refl _,by simpa using y0a hab hp⟩
 ·simp at h2
theorem Yup{k:Kd}{n:Nat}(hn:n<=4){r:Rl}(hr:r∈RO k n):In k n r/\∃r',In k n r'/\In k 60 r'/\Srt r'/\mkR r=r'/\∀ev,so k ev r'=so k ev r:=by
 have him:∀k',(k'=.i\/k'=.n)->r∈((smg n (List.range n)).flatMap fun b=>(none::(List.range n).map some).map (Rl.im b))->In k' n r/\∃r',In k' n r'/\In k' 60 r'/\Srt r'/\mkR r=r'/\∀ev,so k' ev r'=so k' ev r:=fun k' hk' h=>by
  obtain⟨b,hb,h⟩:=List.mem_flatMap.mp h
  obtain⟨h1,h2⟩:=mem_smg.mp hb
  obtain⟨p1,p2⟩:=Ynr h2
  obtain⟨o,ho,rfl⟩:=qw h
  have ho':∀x,o=some x->x < n:=fun x hx=>by
   subst hx
   rcases qr ho with z | z
   ·cases z
   ·obtain⟨y,hy,e⟩:=qw z
    cases e
    exact qz hy
  have hin:In k' n (.im b o):=⟨hk',p2,ho'⟩
  exact⟨hin,.im b o,hin,⟨hk',fun x hx=>Qc (p2 x hx) (by lia),fun x hx=>Qc (ho' x hx) (by lia)⟩,p1,rfl,fun _=>rfl⟩
 cases k with
 | e=>
   obtain⟨l,hl,rfl⟩:=qw hr
   obtain⟨h1,h2⟩:=mem_smg.mp hl
   have hlt:∀s∈l,s.1 < n:=fun s hs=>Yz8 (h2.subset hs)
   obtain⟨l',q0,q1,q2⟩:=mk_e h1 ((Yuo n).sublist h2)
   have hlt':∀s∈l',s.1 < n:=fun s hs=>hlt s (q1.mem_iff.mp hs)
   refine⟨⟨rfl,hlt⟩,.ei l',⟨rfl,hlt'⟩,⟨rfl,fun s hs=>Qc (hlt' s hs) (by lia)⟩,⟨by rw[q1.length_eq];exact h1,q2⟩,q0,fun ev=>?_⟩
   show l'.any _=l.any _
   rw[Bool.eq_iff_iff,List.any_eq_true,List.any_eq_true]
   constructor
   ·rintro⟨x,hx,e⟩;exact⟨x,q1.mem_iff.mp hx,e⟩
   ·rintro⟨x,hx,e⟩;exact⟨x,q1.mem_iff.mpr hx,e⟩
 | s=>
   obtain⟨b,hb,h⟩:=List.mem_flatMap.mp hr
   obtain⟨h1,h2⟩:=mem_smg.mp hb
   obtain⟨p1,p2⟩:=Ynr h2
   obtain⟨o,ho,rfl⟩:=qw h
   exact⟨⟨rfl,p2⟩,.su b o,⟨rfl,p2⟩,⟨rfl,fun x hx=>Qc (p2 x hx) (by lia)⟩,p1,rfl,fun _=>rfl⟩
 | i=>exact him .i (.inl rfl) hr
 | n=>exact him .n (.inr rfl) hr
theorem Yqh{k:Kd}{n:Nat}(hn:n<=4):∀{acc:List Rl},(∀r∈acc,r∈RO k n)->∃R':List Rl,(∀r∈R',In k n r/\In k 60 r/\Srt r)/\acc.map mkR=R'/\R'.length=acc.length/\∀ev,(R'.all fun r=>so k ev r)=acc.all fun r=>so k ev r
 | [],_=>⟨[],fun _ h=>(nomatch h),rfl,rfl,fun _=>rfl⟩
 | r::acc,h=>by
   obtain⟨R',h1,h2,h3,h4⟩:=Yqh hn (acc:=acc) fun x hx=>h x (qf _ hx)
   obtain⟨_,r',a1,a2,a3,a4,a5⟩:=Yup hn (h r qg)
   refine⟨r'::R',fun x hx=>?_,by rw[Qb,a4,h2],by simp[h3],fun ev=>by rw[List.all_cons,List.all_cons,a5,h4]⟩
   rcases qr hx with rfl | hx
   ·exact⟨a1,a2,a3⟩
   ·exact h1 x hx
theorem Yns{k:Kd}{n:Nat}(hn:n<=4){acc:List Rl}(h:∀r∈acc,r∈RO k n)(hl:acc.length<=60):Ydc [kdD k,.lst (acc.map hdD)]=some (Ybl k (acc.map mkR)):=by
 rw[Ydc,Yan (by rfl)]
 have hcm:=Yib (fe:=Ycs) (r:=[some (.sh (kdD k))]) (enc:=hdD) (fun r=>rlD (mkR r)) (l:=acc) (fun r hr=>by
  have h1:=List.map_inj_left.mp (Ywr k hn) r (h r hr)
  generalize hdD r=HR at *
  generalize rlD (mkR r)=RR at *
  simp[Ycs,h1])
 have hm:(acc.map fun r=>rlD (mkR r))=(acc.map mkR).map rlD:=by rw[List.map_map];rfl
 rw[hm]at hcm
 have hle:¬(60:Int) < ((acc.map hdD).length:Int):=by rw[qe];lia
 have hk:=Ywp k
 unfold Ybl
 generalize (acc.map mkR).map rlD=RR at *
 generalize acc.map hdD=HH at *
 simp[Yim,Yq,kdD,isiD,Yvl,Ye7,hk,hle,capR]
 simp only[kdD]at hcm
 rw[hcm]
 simp
def Ycq(k:Kd)(T:List (List Bool))(st:List Rl × List (List Bool))(r:Rl):List Rl × List (List Bool):=
 if (st.2.filter fun ev=>so k ev r).length < st.2.length/\(T.all fun ev=>so k ev r)=true then (st.1++[r],st.2.filter fun ev=>so k ev r)else st
theorem Ypc{k:Kd}{n:Nat}(hn:n<=4){T:List (List Bool)}(hT:∀ev∈T,ev.length=n)(d1:Option B):∀(rs acc:List Rl) (L:List (List Bool)) (b3 y5 y6:Option B),(∀r∈rs,r∈RO k n)->(∀ev∈L,ev.length=n)->acc.length+L.length<=16->(b3=some (.ow (L.map tpB))\/b3=some (.sh (.lst (L.map tpB))))->
 ∃b3' y5' y6':Option B,M.forM (gSet 5) Yco (rs.map hdD) [some (.sh (kdD k)),d1,some (.sh (.lst (T.map tpB))),b3,some (.ow (acc.map hdD)),y5,y6] =
  some (.nx [some (.sh (kdD k)),d1,some (.sh (.lst (T.map tpB))),b3',some (.ow ((rs.foldl (Ycq k T) (acc,L)).1.map hdD)),y5',y6'])
 | [],acc,L,b3,y5,y6,_,_,_,_=>⟨b3,y5,y6,by simp⟩
 | r::rs,acc,L,b3,y5,y6,hrs,hL,h16,hb3=>by
   have hrin:=(Yup hn (hrs r qg)).1
   have hcm:=Yqa (fc:=Ycm) (fe:=Ycn) (r:=[some (.sh (kdD k)),some (.sh (hdD r))]) (enc:=tpB) (fun ev=>so k ev r) tpB (l:=L) (fun ev hev=>by
    have:=Yun hn (hrs r qg) (hL ev hev)
    generalize hdD r=R at *
    generalize tpB ev=E at *
    simp[Ycm,this]) (fun ev _ _=>by simp[Ycn])
   have hall:=Yjx hn (hrs r qg) hT (c:=.lst (T.map tpB)) rfl
   have hl1:(L.map tpB).length=L.length:=qe _
   have hl2:((L.filter fun ev=>so k ev r).map tpB).length=(L.filter fun ev=>so k ev r).length:=qe _
   have hgs:gSet 5 (hdD r) [some (.sh (kdD k)),d1,some (.sh (.lst (T.map tpB))),b3,some (.ow (acc.map hdD)),y5,y6]=some [some (.sh (kdD k)),d1,some (.sh (.lst (T.map tpB))),b3,some (.ow (acc.map hdD)),some (.sh (hdD r)),y6]:=rfl
   rw[Qb,M.forM,hgs,qc,List.foldl_cons]
   have hfz:frz [3] [some (.sh (kdD k)),d1,some (.sh (.lst (T.map tpB))),b3,some (.ow (acc.map hdD)),some (.sh (hdD r)),y6]=[some (.sh (kdD k)),d1,some (.sh (.lst (T.map tpB))),some (.sh (.lst (L.map tpB))),some (.ow (acc.map hdD)),some (.sh (hdD r)),y6]:=by
    rcases hb3 with rfl | rfl<;>rfl
   have s1:wF [3] (sOwn 6 (Ya0 (b1 (getV 3) Ym) [none,some 0,some 5] (gSet 0) (Ycm) (Ycn))) [some (.sh (kdD k)),d1,some (.sh (.lst (T.map tpB))),b3,some (.ow (acc.map hdD)),some (.sh (hdD r)),y6]=some (.nx [some (.sh (kdD k)),d1,some (.sh (.lst (T.map tpB))),some (.sh (.lst (L.map tpB))),some (.ow (acc.map hdD)),some (.sh (hdD r)),some (.ow ((L.filter fun ev=>so k ev r).map tpB))]):=by
    rw[y25,hfz]
    generalize (L.filter fun ev=>so k ev r).map tpB=L2 at *
    generalize L.map tpB=L1 at *
    generalize T.map tpB=TT at *
    generalize acc.map hdD=AA at *
    generalize hdD r=R at *
    simp[capR,hcm]
   rw[Yco,Yad,s1,qc,Yby]
   by_cases hc:(L.filter fun ev=>so k ev r).length < L.length/\(T.all fun ev=>so k ev r)=true
   ·have hst:Ycq k T (acc,L) r=(acc++[r],L.filter fun ev=>so k ev r):=if_pos hc
    rw[hst]
    have happ:appD (acc.map hdD) (hdD r)=some ((acc++[r]).map hdD):=by
     rw[Yzs (by rw[qe];lia)]
     simp
    obtain⟨c3,c5,c6,ih⟩:=Ypc hn hT d1 rs (acc++[r]) (L.filter fun ev=>so k ev r) (some (.sh (.lst ((L.filter fun ev=>so k ev r).map tpB)))) (some (.sh (hdD r))) (some (.sh (.lst ((L.filter fun ev=>so k ev r).map tpB)))) (fun x hx=>hrs x (qf _ hx)) (fun ev hev=>hL ev (Qa hev).1) (by
     rw[qx]
     have:=hc.1
     simp only[qq,List.length_nil]
     lia) (.inr rfl)
    refine⟨c3,c5,c6,?_⟩
    have h1:(((L.filter fun ev=>so k ev r).map tpB).length:Int) < ((L.map tpB).length:Int):=by rw[hl1,hl2];lia
    rw[hc.2]at hall
    generalize (L.filter fun ev=>so k ev r).map tpB=L2 at *
    generalize L.map tpB=L1 at *
    generalize D.lst (T.map tpB)=TT at *
    generalize (acc++[r]).map hdD=A2 at *
    generalize acc.map hdD=AA at *
    generalize hdD r=R at *
    simp[h1,hall,happ]
    exact ih
   ·have hst:Ycq k T (acc,L) r=(acc,L):=if_neg hc
    rw[hst]
    obtain⟨c3,c5,c6,ih⟩:=Ypc hn hT d1 rs acc L (some (.sh (.lst (L.map tpB)))) (some (.sh (hdD r))) (some (.ow ((L.filter fun ev=>so k ev r).map tpB))) (fun x hx=>hrs x (qf _ hx)) hL h16 (.inr rfl)
    refine⟨c3,c5,c6,?_⟩
    by_cases h1:(L.filter fun ev=>so k ev r).length < L.length
    ·have h1':(((L.filter fun ev=>so k ev r).map tpB).length:Int) < ((L.map tpB).length:Int):=by rw[hl1,hl2];lia
     have h2:(T.all fun ev=>so k ev r)=false:=by
      cases h:(T.all fun ev=>so k ev r)
      ·rfl
      ·exact absurd ⟨h1,h⟩ hc
     rw[h2]at hall
     generalize (L.filter fun ev=>so k ev r).map tpB=L2 at *
     generalize L.map tpB=L1 at *
     generalize D.lst (T.map tpB)=TT at *
     generalize acc.map hdD=AA at *
     generalize hdD r=R at *
     simp[h1',hall]
     exact ih
    ·have h1':¬(((L.filter fun ev=>so k ev r).map tpB).length:Int) < ((L.map tpB).length:Int):=by rw[hl1,hl2];lia
     generalize (L.filter fun ev=>so k ev r).map tpB=L2 at *
     generalize L.map tpB=L1 at *
     generalize D.lst (T.map tpB)=TT at *
     generalize acc.map hdD=AA at *
     generalize hdD r=R at *
     simp[h1']
     exact ih
theorem Ypd{k:Kd}{T:List (List Bool)}:∀(rs acc:List Rl) (L:List (List Bool)),(∀r∈(rs.foldl (Ycq k T) (acc,L)).1,r∈acc\/r∈rs)/\(rs.foldl (Ycq k T) (acc,L)).1.length+(rs.foldl (Ycq k T) (acc,L)).2.length<=acc.length+L.length/\
 (∀r∈(rs.foldl (Ycq k T) (acc,L)).1,r∈acc\/(T.all fun ev=>so k ev r)=true)/\(∀r∈acc,r∈(rs.foldl (Ycq k T) (acc,L)).1)/\
 (∀ev∈L,(∀r∈(rs.foldl (Ycq k T) (acc,L)).1,so k ev r=true)->ev∈(rs.foldl (Ycq k T) (acc,L)).2)/\
 (∀ev∈(rs.foldl (Ycq k T) (acc,L)).2,ev∈L/\∀r∈rs,(T.all fun ev=>so k ev r)=true->so k ev r=true)
 | [],acc,L=>⟨fun r h=>.inl h,qt _,fun r h=>.inl h,fun r h=>h,fun ev h _=>h,fun ev h=>⟨h,fun r hr=>nomatch hr⟩⟩
 | r::rs,acc,L=>by
   rw[List.foldl_cons]
   by_cases hc:(L.filter fun ev=>so k ev r).length < L.length/\(T.all fun ev=>so k ev r)=true
   ·have hst:Ycq k T (acc,L) r=(acc++[r],L.filter fun ev=>so k ev r):=if_pos hc
    rw[hst]
    obtain⟨h1,h2,h3,h4,h5,h6⟩:=Ypd (k:=k) (T:=T) rs (acc++[r]) (L.filter fun ev=>so k ev r)
    refine⟨fun x hx=>?_,?_,fun x hx=>?_,fun x hx=>h4 x (List.mem_append_left _ hx),fun ev hev hall=>?_,fun ev hev=>?_⟩
    ·rcases h1 x hx with z | z
     ·rcases qu z with z | z
      ·exact .inl z
      ·rw[List.mem_singleton.mp z];exact .inr qg
     ·exact .inr (qf _ z)
    ·rw[qx]at h2
     have:=hc.1
     simp only[qq,List.length_nil]at h2
     lia
    ·rcases h3 x hx with z | z
     ·rcases qu z with z | z
      ·exact .inl z
      ·rw[List.mem_singleton.mp z];exact .inr hc.2
     ·exact .inr z
    ·exact h5 ev (List.mem_filter.mpr ⟨hev,hall r (h4 r (by simp))⟩) hall
    ·obtain⟨z1,z2⟩:=h6 ev hev
     obtain⟨z3,z4⟩:=Qa z1
     refine⟨z3,fun x hx hT=>?_⟩
     rcases qr hx with rfl | hx
     ·exact z4
     ·exact z2 x hx hT
   ·have hst:Ycq k T (acc,L) r=(acc,L):=if_neg hc
    rw[hst]
    obtain⟨h1,h2,h3,h4,h5,h6⟩:=Ypd (k:=k) (T:=T) rs acc L
    refine⟨fun x hx=>?_,h2,h3,h4,h5,fun ev hev=>?_⟩
    ·rcases h1 x hx with z | z
     ·exact .inl z
     ·exact .inr (qf _ z)
    ·obtain⟨z1,z2⟩:=h6 ev hev
     refine⟨z1,fun x hx hT=>?_⟩
     rcases qr hx with rfl | hx
     ·have hnl:¬(L.filter fun ev=>so k ev x).length < L.length:=fun z=>hc ⟨z,hT⟩
      have hle:=List.length_filter_le (fun ev=>so k ev x) L
      have heq:=List.length_filter_eq_length_iff.mp (show(L.filter fun ev=>so k ev x).length=L.length by lia)
      exact heq ev z1
     ·exact z2 x hx hT
def Ygb(n:Nat)(T:List (List Bool)):List (List Bool):=(allE n).filter fun ev=>!decide (ev∈T)
theorem Yuq{k:Kd}{n:Nat}(hn:n<=4){T:List (List Bool)}(hT:∀ev∈T,ev.length=n):∃R':List Rl,Yfj [kdD k,.int (n:Int),.lst (T.map tpB)]=some (Ybl k R')/\R'.length<=16/\(∀r∈R',In k n r/\In k 60 r/\Srt r)/\
 (∀ev∈T,(R'.all fun r=>so k ev r)=true)/\(∀ev,ev.length=n->ev∉T->(∃r∈RO k n,(T.all fun e=>so k e r)=true/\so k ev r=false)->(R'.all fun r=>so k ev r)=false):=by
 have hal:=Yjw hn
 have hro:=Ynp k hn
 have hL:∀ev∈Ygb n T,ev.length=n:=fun ev h=>Yd7 n (Qa h).1
 have hL16:(Ygb n T).length<=16:=by
  have h1:=List.length_filter_le (fun ev=>!decide (ev∈T)) (allE n)
  rw[Yno]at h1
  have h2:2 ^ n<=2 ^ 4:=Nat.pow_le_pow_right (by decide) hn
  unfold Ygb
  lia
 obtain⟨b3,y5,y6,hw⟩:=Ypc hn hT (some (.sh (.int (n:Int)))) (RO k n) [] (Ygb n T) (some (.ow ((Ygb n T).map tpB))) none none (fun r h=>h) hL (by simpa using hL16) (.inl rfl)
 obtain⟨f1,f2,f3,f4,f5,f6⟩:=Ypd (k:=k) (T:=T) (RO k n) [] (Ygb n T)
 generalize (RO k n).foldl (Ycq k T) ([],Ygb n T)=fin at *
 have hfin:∀r∈fin.1,r∈RO k n:=fun r hr=>by
  rcases f1 r hr with z | z
  ·exact nomatch z
  ·exact z
 obtain⟨R',m1,m2,m3,m4⟩:=Yqh hn hfin
 have hlen:R'.length<=16:=by rw[m3];simp only[List.length_nil]at f2;lia
 have hbm:=Yns hn hfin (by rw[<-m3];lia)
 rw[m2]at hbm
 refine⟨R',?_,hlen,m1,fun ev hev=>?_,fun ev hl hnt ⟨r,hr,hrT,hre⟩=>?_⟩
 ·rw[Yfj,Yan (by rfl)]
  have hcm:=Yqa (fc:=Yck) (fe:=Ycl) (r:=[some (.sh (.lst (T.map tpB)))]) (enc:=tpB) (fun ev=>!decide (ev∈T)) tpB (l:=allE n) (fun ev _=>by
   have hin:=y3g (c:=.lst (T.map tpB)) ev T true rfl
   generalize D.lst (T.map tpB)=TT at *
   generalize tpB ev=E at *
   simp[Yck,hin]) (fun ev _ _=>by simp[Ycl])
  have hst:Yq 7 [kdD k,.int (n:Int),.lst (T.map tpB)]=[some (.sh (kdD k)),some (.sh (.int (n:Int))),some (.sh (.lst (T.map tpB))),none,none,none,none]:=rfl
  have s0:sOwn 3 (Ya0 (b1 (cC (Ye (getV 1) aNil) Ya6) Ym) [none,some 2] (gSet 0) (Yck) (Ycl)) [some (.sh (kdD k)),some (.sh (.int (n:Int))),some (.sh (.lst (T.map tpB))),none,none,none,none]=some (.nx [some (.sh (kdD k)),some (.sh (.int (n:Int))),some (.sh (.lst (T.map tpB))),some (.ow ((Ygb n T).map tpB)),none,none,none]):=by
   have h1:Ye (getV 1) aNil [some (.sh (kdD k)),some (.sh (.int (n:Int))),some (.sh (.lst (T.map tpB))),none,none,none,none]=some [.int (n:Int)]:=by simp
   rw[Yzl,Ywa,Yv9,Yto,h1,qc,hal,qc,Ycd,qc]
   have h2:capR [none,some 2] [some (.sh (kdD k)),some (.sh (.int (n:Int))),some (.sh (.lst (T.map tpB))),none,none,none,none]=[none,some (.sh (.lst (T.map tpB)))]:=rfl
   rw[h2,hcm]
   rfl
  have s1:sOwn 4 (dLst aNil) [some (.sh (kdD k)),some (.sh (.int (n:Int))),some (.sh (.lst (T.map tpB))),some (.ow ((Ygb n T).map tpB)),none,none,none]=some (.nx [some (.sh (kdD k)),some (.sh (.int (n:Int))),some (.sh (.lst (T.map tpB))),some (.ow ((Ygb n T).map tpB)),some (.ow []),none,none]):=by simp
  have s2:sFor (b1 (cC (Ye (getV 0) (Ye (getV 1) aNil)) Yas) Ym) (gSet 5) Yco [some (.sh (kdD k)),some (.sh (.int (n:Int))),some (.sh (.lst (T.map tpB))),some (.ow ((Ygb n T).map tpB)),some (.ow []),none,none]=some (.nx [some (.sh (kdD k)),some (.sh (.int (n:Int))),some (.sh (.lst (T.map tpB))),b3,some (.ow (fin.1.map hdD)),y5,y6]):=by
   have h1:Ye (getV 0) (Ye (getV 1) aNil) [some (.sh (kdD k)),some (.sh (.int (n:Int))),some (.sh (.lst (T.map tpB))),some (.ow ((Ygb n T).map tpB)),some (.ow []),none,none]=some [kdD k,.int (n:Int)]:=by simp
   rw[Yok,Yv9,Yto,h1,qc,hro,qc,Ycd,qc]
   exact hw
  rw[hst,Ynd,Yad,s0,qc,Yby,Yi1,Yad,s1,qc,Yby,Yi0,Yad,s2,qc,Yby,Yiz,y25]
  have fz:frz [4] [some (.sh (kdD k)),some (.sh (.int (n:Int))),some (.sh (.lst (T.map tpB))),b3,some (.ow (fin.1.map hdD)),y5,y6]=[some (.sh (kdD k)),some (.sh (.int (n:Int))),some (.sh (.lst (T.map tpB))),b3,some (.sh (.lst (fin.1.map hdD))),y5,y6]:=rfl
  rw[fz]
  have h1:Ye (getV 0) (Ye (getV 4) aNil) [some (.sh (kdD k)),some (.sh (.int (n:Int))),some (.sh (.lst (T.map tpB))),b3,some (.sh (.lst (fin.1.map hdD))),y5,y6]=some [kdD k,.lst (fin.1.map hdD)]:=by simp
  rw[Yzm,Yto,h1,qc,hbm]
  rfl
 ·rw[m4,List.all_eq_true]
  intro r hr
  rcases f3 r hr with z | z
  ·exact nomatch z
  ·exact List.all_eq_true.mp z ev hev
 ·rw[m4]
  cases h:(fin.1.all fun r=>so k ev r)
  ·rfl
  ·exfalso
   have hmem:ev∈Ygb n T:=List.mem_filter.mpr ⟨Yg8 n hl,by simpa using hnt⟩
   have h5:=f5 ev hmem fun r hr=>List.all_eq_true.mp h r hr
   have:=(f6 ev h5).2 r hr hrT
   rw[hre]at this
   exact nomatch this
end Lw
namespace Lw
open PySem L2 M Bk
abbrev lsB(x:List Bool):D:=.lst (x.map D.bl)
theorem Yja{n:Nat}(hn:n<=4):Yax [.int (n:Int)]=some (.bl true):=by
 rw[Yax,Yan (by rfl)]
 have h:(n:Int)<=4:=by lia
 have h1:isiD "int" (D.int (n:Int))=some true:=rfl
 have h2:isiD "bool" (D.int (n:Int))=some false:=rfl
 simp[Ydg,Yq,h,h1,h2]
theorem Ylq{n:Nat}(hn:n<=4){α:Type}{evo:α->List Bool}{Y:List α}(hX:∀y∈Y,(evo y).length=n){enc:α->D}(he:∀x,lenC [enc x]=some (.int ((evo x).length:Int))){c:D}(hc:Ym c=some (Y.map enc)):Ya3 [.int (n:Int),c]=some .non:=by
 have h:=Yib (fe:=Yb7) (r:=[some (.sh (.int (n:Int)))]) (enc:=enc) (fun ev=>.bl true) (l:=Y) (fun ev hev=>by
  have:=hX ev hev
  have he':=he ev
  generalize enc ev=E at *
  simp[Yb7,this,he'])
 have hm:(Y.map fun ev=>D.bl true)=(Y.map fun _=>true).map D.bl:=by rw[List.map_map];rfl
 rw[hm]at h
 have hall:(Y.map fun _=>true).all id=true:=by simp
 rw[Ya3,Yan (by rfl)]
 have hst:Yq 2 [.int (n:Int),c]=[some (.sh (.int (n:Int))),some (.sh c)]:=rfl
 rw[hst]
 have hl:=Yja hn
 generalize (Y.map fun _=>true)=bs at *
 generalize Y.map enc=XX at *
 simp[Yfi,hl,capR,hc,h,Function.comp_def,-List.all_map,-List.map_map]
 have hnf:¬false∈bs:=by simpa using hall
 simp[hnf]
def tabE(n:Nat)(X:List (List Bool)):List (List Bool):=(allB n).filter fun x=>decide (x∈X)
theorem Yha{n:Nat}{X:List (List Bool)}(hX:∀ev∈X,ev.length=n){x:List Bool}:x∈tabE n X↔x∈X:=by
 unfold tabE
 rw[List.mem_filter]
 constructor
 ·rintro⟨_,h⟩;simpa using h
 ·exact fun h=>⟨by have:=Yg3 x;rwa [hX x h]at this,by simpa using h⟩
theorem Yqi{n:Nat}{X:List (List Bool)}:∀ev∈tabE n X,ev.length=n:=fun ev h=>Yc8 n (Qa h).1
theorem y0b{n:Nat}(hn:n<=4)(X:List (List Bool)):(tabE n X).length<=16:=by
 have h1:=List.length_filter_le (fun x=>decide (x∈X)) (allB n)
 rw[Yh6]at h1
 have h2:2 ^ n<=2 ^ 4:=Nat.pow_le_pow_right (by decide) hn
 unfold tabE
 lia
theorem y3h{n:Nat}(hn:n<=4){X:List (List Bool)}(hX:∀ev∈X,ev.length=n):Ytf (X.map tpB)=some ((tabE n X).map tpB):=by
 unfold Ytf
 rw[Yp0,qc]
 cases X with
 | nil=>
   have:tabE n []=[]:=by unfold tabE;simp
   rw[this]
   rfl
 | cons x X=>
   have hx:x.length=n:=hX x qg
   have hc:x.length<=4/\((x::X).all fun y=>y.length==x.length)=true:=⟨by lia,List.all_eq_true.mpr fun y hy=>by rw[hX y hy,hx];simp⟩
   show(if x.length<=4/\((x::X).all fun y=>y.length==x.length)=true then _ else _)=_
   rw[if_pos hc,hx]
   rfl
theorem Ylr{k:Kd}{n:Nat}(hn:n<=4){X:List (List Bool)}(hX:∀ev∈X,ev.length=n){α:Type}{evo:α->List Bool}{Y:List α}(hY:Y.map evo=X){enc:α->D}(he:∀x,lenC [enc x]=some (.int ((evo x).length:Int)))(he2:∀x,tupC [enc x]=some (tpB (evo x))){c:D}(hc:Ym c=some (Y.map enc)) :
 (∃g,Yi8 k n (tabE n X)=some g/\Yai [kdD k,.int (n:Int),c]=some (.tup [.str "blend",grD tpB g]))\/
 (Yi8 k n (tabE n X)=none/\∃R':List Rl,Yai [kdD k,.int (n:Int),c]=some (.tup [.str "book",Ybl k R'])/\R'.length<=16/\(∀r∈R',In k n r/\In k 60 r/\Srt r)/\
 (∀ev∈tabE n X,(R'.all fun r=>so k ev r)=true)/\(∀ev,ev.length=n->ev∉tabE n X->(∃r∈RO k n,((tabE n X).all fun e=>so k e r)=true/\so k ev r=false)->(R'.all fun r=>so k ev r)=false)):=by
 have hT:∀ev∈tabE n X,ev.length=n:=Yqi
 have h16:=y0b hn X
 have hck:=Ylq hn (fun y hy=>hX _ (by rw[<-hY];exact List.mem_map_of_mem hy)) he hc
 have hlb:=Yi9 (k:=k) hn hT (by lia)
 obtain⟨R',hb,hrest⟩:=Yuq (k:=k) hn hT
 have hss:=y3h hn hX
 have hcm:=Yib (fe:=Ybi) (r:=[]) (enc:=enc) (fun y=>tpB (evo y)) (l:=Y) (fun y _=>by
  have h2:=he2 y
  generalize tpB (evo y)=TE at *
  generalize enc y=E at *
  simp[Ybi,h2])
 have hmY:(Y.map fun y=>tpB (evo y))=X.map tpB:=by rw[<-hY,List.map_map];rfl
 rw[hmY]at hcm
 have hst:Yq 5 [kdD k,.int (n:Int),c]=[some (.sh (kdD k)),some (.sh (.int (n:Int))),some (.sh c),none,none]:=rfl
 have s1:sOwn 3 (Yd3 (lF (Ya0 (b1 (getV 2) Ym) [none] (gSet 0) tY (Ybi)))) [some (.sh (kdD k)),some (.sh (.int (n:Int))),some (.sh c),none,none]=some (.nx [some (.sh (kdD k)),some (.sh (.int (n:Int))),some (.sh c),some (.ow ((tabE n X).map tpB)),none]):=by
  generalize (tabE n X).map tpB=TT at *
  generalize X.map tpB=XT at *
  generalize Y.map enc=XX at *
  simp[capR,hc,hcm,hss]
 cases hlk:Yi8 k n (tabE n X)with
 | some g=>
   left
   refine⟨g,rfl,?_⟩
   rw[hlk]at hlb
   rw[Yai,Yan (by rfl),hst,Ydx,Yad]
   have s0:sExp (cC (Ye (getV 1) (Ye (getV 2) aNil)) Ya3) [some (.sh (kdD k)),some (.sh (.int (n:Int))),some (.sh c),none,none]=some (.nx [some (.sh (kdD k)),some (.sh (.int (n:Int))),some (.sh c),none,none]):=by
    simp[hck]
   rw[s0,qc,Yby,Ycy,Yad,s1,qc,Yby]
   have hd:Yz7 (some g)=grD tpB g:=rfl
   rw[hd]at hlb
   have hnn:∃l,grD tpB g=.lst l:=⟨_,rfl⟩
   generalize (tabE n X).map tpB=TT at *
   generalize grD tpB g=GG at *
   obtain⟨gl,rfl⟩:=hnn
   simp[hlb]
 | none=>
   right
   refine⟨rfl,R',?_,hrest⟩
   rw[hlk]at hlb
   rw[Yai,Yan (by rfl),hst,Ydx,Yad]
   have s0:sExp (cC (Ye (getV 1) (Ye (getV 2) aNil)) Ya3) [some (.sh (kdD k)),some (.sh (.int (n:Int))),some (.sh c),none,none]=some (.nx [some (.sh (kdD k)),some (.sh (.int (n:Int))),some (.sh c),none,none]):=by
    simp[hck]
   rw[s0,qc,Yby,Ycy,Yad,s1,qc,Yby]
   have hd:Yz7 none=.non:=rfl
   rw[hd]at hlb
   generalize (tabE n X).map tpB=TT at *
   generalize Ybl k R'=BB at *
   simp[hlb,hb]
theorem Ygk{k:Kd}{n:Nat}(hn:n<=4){X:List (List Bool)}(hX:∀ev∈X,ev.length=n){enc:List Bool->D}(he:∀x,lenC [enc x]=some (.int (x.length:Int)))(he2:∀x,tupC [enc x]=some (tpB x)){c:D}(hc:Ym c=some (X.map enc)) :
 (∃g,Yi8 k n (tabE n X)=some g/\Yai [kdD k,.int (n:Int),c]=some (.tup [.str "blend",grD tpB g]))\/
 (Yi8 k n (tabE n X)=none/\∃R':List Rl,Yai [kdD k,.int (n:Int),c]=some (.tup [.str "book",Ybl k R'])/\R'.length<=16/\(∀r∈R',In k n r/\In k 60 r/\Srt r)/\
 (∀ev∈tabE n X,(R'.all fun r=>so k ev r)=true)/\(∀ev,ev.length=n->ev∉tabE n X->(∃r∈RO k n,((tabE n X).all fun e=>so k e r)=true/\so k ev r=false)->(R'.all fun r=>so k ev r)=false)):=
 Ylr hn hX (evo:=id) (List.map_id X) he he2 hc
end Lw
namespace Lw
open PySem L2 M Bk
theorem Yur(k:Kd)(n:Nat)(g:List (List Bool)):(blE k n g).length=n:=by simp[blE]
theorem Yus(k:Kd){n:Nat}(g:List (List Bool)){j:Nat}(hj:j < n):at' (blE k n g) j=blL k (cntE g j):=by
 unfold blE at'
 simp[hj]
theorem Yut{n:Nat}{a b:List Bool}(ha:a.length=n)(hb:b.length=n)(h:∀j,j < n->at' a j=at' b j):a=b:=by
 refine List.ext_getElem (by rw[ha,hb]) fun j h1 h2=>?_
 have:=h j (by lia)
 unfold at' at this
 simpa [h1,h2]using this
theorem Yuu{k:Kd}{n:Nat}{T g:List (List Bool)}(h:Yi8 k n T=some g):g.length=cntK k/\(∀ev∈g,ev∈T)/\blE k n g∉T:=by
 have h1:=List.find?_some h
 have h2:=Yga _ _ (List.mem_of_find?_eq_some h)
 exact⟨h2.1,fun ev hev=>h2.2.subset hev,by simpa using h1⟩
end Lw
namespace Lw
open PySem L2 M Bk
def Cl(k:Kd)(n:Nat)(T:List (List Bool)):Prop:=∀S:List (List Bool),S.length=cntK k->(∀ev∈S,ev∈T)->blE k n S∈T
def majT(a b c:Bool):Bool:=(a&&b)||(a&&c)||(b&&c)
theorem bT_e(a b c:List Bool)(x:Nat):blL .e (cntE [a,b,c] x)=majT (at' a x) (at' b x) (at' c x):=by
 unfold cntE
 cases h1:at' a x<;>cases h2:at' b x<;>cases h3:at' c x<;>simp[h1,h2,h3,blL,majT]
theorem bT_s(a b c:List Bool)(x:Nat):blL .s (cntE [a,b,c] x)=((at' a x != at' b x) != at' c x):=by
 unfold cntE
 cases h1:at' a x<;>cases h2:at' b x<;>cases h3:at' c x<;>simp[h1,h2,h3,blL]
theorem bT_w{k:Kd}(hk:k=.i\/k=.n)(a b:List Bool)(x:Nat):(blL k (cntE [a,b] x)==decide (k=.i))=((at' a x==decide (k=.i))&&(at' b x==decide (k=.i))):=by
 unfold cntE
 rcases hk with rfl | rfl<;>cases h1:at' a x<;>cases h2:at' b x<;>simp[h1,h2,blL]
theorem pix{n:Nat}{T:List (List Bool)}(hc:Cl .e n T){ev:List Bool}(h2:∀J:List Nat,J.length<=2->(∀j∈J,j < n)->∃t∈T,∀j∈J,at' t j=at' ev j):∀(m:Nat) (J:List Nat),J.length<=m->(∀j∈J,j < n)->∃t∈T,∀j∈J,at' t j=at' ev j
 | 0,J,hm,hJ=>h2 J (by lia) hJ
 | m+1,J,hm,hJ=>by
   match J,hm,hJ with
   | [],_,hJ=>exact h2 [] (by simp) hJ
   | [a],_,hJ=>exact h2 [a] (by simp) hJ
   | [a,b],_,hJ=>exact h2 [a,b] (by simp) hJ
   | a::b::c::J,hm,hJ=>
     simp only[qq]at hm
     have q:∀L:List Nat,L.length<=m->(∀j∈L,j∈a::b::c::J)->∃t∈T,∀j∈L,at' t j=at' ev j:=fun L hl hs=>pix hc h2 m L hl fun j hj=>hJ j (hs j hj)
     obtain⟨t1,m1,h1⟩:=q (b::c::J) (by simp only[qq];lia) (fun j hj=>qf _ hj)
     obtain⟨t2,m2,h2⟩:=q (a::c::J) (by simp only[qq];lia) (fun j hj=>by
      rcases qr hj with rfl | hj
      ·exact qg
      ·exact qf _ (qf _ hj))
     obtain⟨t3,m3,h3⟩:=q (a::b::J) (by simp only[qq];lia) (fun j hj=>by
      rcases qr hj with rfl | hj
      ·exact qg
      ·rcases qr hj with rfl | hj
       ·exact qf _ qg
       ·exact qf _ (qf _ (qf _ hj)))
     refine⟨blE .e n [t1,t2,t3],hc [t1,t2,t3] rfl (fun x hx=>?_),fun j hj=>?_⟩
     ·simp only[List.mem_cons,List.not_mem_nil,or_false]at hx
      rcases hx with rfl | rfl | rfl
      ·exact m1
      ·exact m2
      ·exact m3
     ·rw[Yus .e _ (hJ j hj),bT_e]
      have two:(at' t1 j=at' ev j/\at' t2 j=at' ev j)\/(at' t1 j=at' ev j/\at' t3 j=at' ev j)\/(at' t2 j=at' ev j/\at' t3 j=at' ev j):=by
       rcases qr hj with rfl | hj
       ·exact .inr (.inr ⟨h2 _ qg,h3 _ qg⟩)
       ·rcases qr hj with rfl | hj
        ·exact .inr (.inl ⟨h1 _ qg,h3 _ (qf _ qg)⟩)
        ·exact .inl ⟨h1 _ (qf _ hj),h2 _ (qf _ hj)⟩
      rcases two with⟨p,q⟩ | ⟨p,q⟩ | ⟨p,q⟩<;>rw[p,q]<;>unfold majT
      ·cases at' ev j<;>cases at' t3 j<;>rfl
      ·cases at' ev j<;>cases at' t2 j<;>rfl
      ·cases at' ev j<;>cases at' t1 j<;>rfl
theorem y4p{n:Nat}{T:List (List Bool)}(hT:∀ev∈T,ev.length=n)(hc:Cl .e n T){ev:List Bool}(hl:ev.length=n)(hn:ev∉T):∃r∈RO .e n,(T.all fun e=>so .e e r)=true/\so .e ev r=false:=by
 have hex:∃J:List Nat,J.length<=2/\(∀j∈J,j < n)/\∀t∈T,∃j∈J,at' t j≠at' ev j:=by
  apply Classical.byContradiction
  intro hno
  obtain⟨t,ht,hj⟩:=pix hc (ev:=ev) (fun J h1 h2=>by
   apply Classical.byContradiction
   intro h3
   refine hno ⟨J,h1,h2,fun t ht=>?_⟩
   apply Classical.byContradiction
   intro h4
   refine h3 ⟨t,ht,fun j hj=>?_⟩
   apply Classical.byContradiction
   intro h5
   exact h4 ⟨j,hj,h5⟩) n (List.range n) (by simp) (fun j hj=>qz hj)
  have:t=ev:=Yut (hT t ht) hl fun j hjn=>hj j (List.mem_range.mpr hjn)
  exact hn (this ▸ ht)
 obtain⟨J,hJ2,hJn,hJ⟩:=hex
 have hsub:=List.filter_sublist (p:=fun s:Say=>decide (s.1∈J)&&s.2==!at' ev s.1) (l:=sayN n)
 refine⟨.ei ((sayN n).filter fun s=>decide (s.1∈J)&&s.2==!at' ev s.1),List.mem_map.mpr ⟨_,mem_smg.mpr ⟨?_,hsub⟩,rfl⟩,?_,?_⟩
 ·have hnd:=(Yuo n).sublist hsub
  have hss:((sayN n).filter fun s=>decide (s.1∈J)&&s.2==!at' ev s.1)⊆J.map fun j=>(j,!at' ev j):=fun s hs=>by
   have:=(Qa hs).2
   simp only[Qf,decide_eq_true_eq,beq_iff_eq]at this
   exact List.mem_map.mpr ⟨s.1,this.1,by rw[<-this.2]⟩
  have:=hnd.length_le_of_subset hss
  rw[qe]at this
  lia
 ·rw[List.all_eq_true]
  intro t ht
  obtain⟨j,hj,hne⟩:=hJ t ht
  show List.any _ _=true
  rw[List.any_eq_true]
  refine⟨(j,!at' ev j),List.mem_filter.mpr ⟨?_,?_⟩,?_⟩
  ·unfold sayN
   rw[List.mem_append]
   cases at' ev j
   ·exact .inr (List.mem_map.mpr ⟨j,List.mem_range.mpr (hJn j hj),rfl⟩)
   ·exact .inl (List.mem_map.mpr ⟨j,List.mem_range.mpr (hJn j hj),rfl⟩)
  ·simp[hj]
  ·show(at' t j==!at' ev j)=true
   revert hne
   cases at' t j<;>cases at' ev j<;>decide
 ·show List.any _ _=false
  rw[List.any_eq_false]
  intro s hs
  have:=(Qa hs).2
  simp only[Qf,decide_eq_true_eq,beq_iff_eq]at this
  rw[this.2]
  cases at' ev s.1<;>decide
theorem Ynt(k:Kd)(ev:List Bool)(b:List Nat)(h:Option Nat):so k ev (.im b h)=((b.any fun x=>at' ev x != decide (k=.i))||hd ev (decide (k=.i)) h):=rfl
theorem meet{k:Kd}(hk:k=.i\/k=.n){n:Nat}{T:List (List Bool)}(hc:Cl k n T):∀(L:List (List Bool)) (t0:List Bool),t0∈T->(∀t∈L,t∈T)->∃m∈T,∀j,j < n->(at' m j==decide (k=.i))=((t0::L).all fun t=>at' t j==decide (k=.i))
 | [],t0,h0,_=>⟨t0,h0,fun j _=>by simp⟩
 | t::L,t0,h0,hL=>by
   obtain⟨m,hm,hj⟩:=meet hk hc L t0 h0 fun x hx=>hL x (qf _ hx)
   refine⟨blE k n [m,t],hc [m,t] (by rcases hk with rfl | rfl<;>rfl) (fun x hx=>?_),fun j hjn=>?_⟩
   ·simp only[List.mem_cons,List.not_mem_nil,or_false]at hx
    rcases hx with rfl | rfl
    ·exact hm
    ·exact hL _ qg
   ·rw[Yus k _ hjn,bT_w hk,hj j hjn]
    simp only[List.all_cons]
    cases (at' t0 j==decide (k=.i))<;>cases (at' t j==decide (k=.i))<;>cases (L.all fun t=>at' t j==decide (k=.i))<;>rfl
theorem y3i{k:Kd}(hk:k=.i\/k=.n){n:Nat}{T:List (List Bool)}(hT:∀ev∈T,ev.length=n)(hc:Cl k n T){ev:List Bool}(hl:ev.length=n)(hn:ev∉T):∃r∈RO k n,(T.all fun e=>so k e r)=true/\so k ev r=false:=by
 obtain⟨b,hb⟩:∃b,b=(List.range n).filter fun j=>at' ev j==decide (k=.i):=⟨_,rfl⟩
 have hbs:b∈smg n (List.range n):=mem_smg.mpr ⟨by
  rw[hb]
  have:=List.length_filter_le (fun j=>at' ev j==decide (k=.i)) (List.range n)
  rwa [List.length_range]at this,by rw[hb];exact List.filter_sublist⟩
 have hbe:(b.any fun x=>at' ev x != decide (k=.i))=false:=by
  rw[List.any_eq_false]
  intro x hx
  rw[hb]at hx
  have:=(Qa hx).2
  simp only[bne,this]
  decide
 have hro:∀o,o∈none::(List.range n).map some->Rl.im b o∈RO k n:=fun o ho=>by
  rcases hk with rfl | rfl
  ·exact List.mem_flatMap.mpr ⟨b,hbs,List.mem_map.mpr ⟨o,ho,rfl⟩⟩
  ·exact List.mem_flatMap.mpr ⟨b,hbs,List.mem_map.mpr ⟨o,ho,rfl⟩⟩
 have hov:∀t∈T,(b.any fun x=>at' t x != decide (k=.i))=true\/t∈T.filter fun t=>!(b.any fun x=>at' t x != decide (k=.i)):=fun t ht=>by
  cases h:(b.any fun x=>at' t x != decide (k=.i))
  ·exact .inr (List.mem_filter.mpr ⟨ht,by rw[h];rfl⟩)
  ·exact .inl rfl
 cases hL:T.filter fun t=>!(b.any fun x=>at' t x != decide (k=.i))with
 | nil=>
   refine⟨.im b none,hro none qg,?_,?_⟩
   ·rw[List.all_eq_true]
    intro t ht
    rcases hov t ht with h | h
    ·rw[Ynt,h];rfl
    ·rw[hL]at h;exact nomatch h
   ·rw[Ynt,hbe];rfl
 | cons t0 L=>
   have hmem:∀t∈t0::L,t∈T/\∀x∈b,(at' t x==decide (k=.i))=true:=fun t ht=>by
    rw[<-hL]at ht
    obtain⟨h1,h2⟩:=Qa ht
    refine⟨h1,fun x hx=>?_⟩
    simp only[Bool.not_eq_true',List.any_eq_false]at h2
    have:=h2 x hx
    simpa [bne]using this
   obtain⟨m,hm,hj⟩:=meet hk hc L t0 (hmem t0 qg).1 fun t ht=>(hmem t (qf _ ht)).1
   have hx:∃x,x < n/\(at' m x==decide (k=.i))=true/\(at' ev x==decide (k=.i))=false:=by
    apply Classical.byContradiction
    intro hno
    refine hn ?_
    have:m=ev:=Yut (hT m hm) hl fun j hjn=>by
     cases he:(at' ev j==decide (k=.i))with
     | true=>
       have hjb:j∈b:=by rw[hb];exact List.mem_filter.mpr ⟨List.mem_range.mpr hjn,he⟩
       have h1:(at' m j==decide (k=.i))=true:=by
        rw[hj j hjn,List.all_eq_true]
        exact fun t ht=>(hmem t ht).2 j hjb
       rw[beq_iff_eq]at h1 he
       rw[h1,he]
     | false=>
       have h1:(at' m j==decide (k=.i))=false:=by
        cases h:(at' m j==decide (k=.i))
        ·rfl
        ·exact absurd ⟨j,hjn,h,he⟩ hno
       revert h1 he
       cases at' m j<;>cases at' ev j<;>cases decide (k=.i)<;>decide
    exact this ▸ hm
   obtain⟨x,hxn,hx1,hx2⟩:=hx
   refine⟨.im b (some x),hro _ (qf _ (List.mem_map.mpr ⟨x,List.mem_range.mpr hxn,rfl⟩)),?_,?_⟩
   ·rw[List.all_eq_true]
    intro t ht
    rcases hov t ht with h | h
    ·rw[Ynt,h];rfl
    ·rw[hL]at h
     have:(at' t x==decide (k=.i))=true:=by
      rw[hj x hxn,List.all_eq_true]at hx1
      exact hx1 t h
     rw[Ynt]
     show(_||(at' t x==decide (k=.i)))=true
     rw[this,Bool.or_true]
   ·rw[Ynt,hbe]
    exact hx2
def pm:List Bool->List Bool->Bool
 | c::m,x::t=>(c&&x) != pm m t
 | _,_=>false
def xo3:List Bool->List Bool->List Bool->List Bool
 | a::as,b::bs,c::cs=>((a != b) != c)::xo3 as bs cs
 | _,_,_=>[]
theorem Yuv:∀{n:Nat} {a b c:List Bool},a.length=n->b.length=n->c.length=n->(xo3 a b c).length=n
 | 0,[],[],[],_,_,_=>rfl
 | n+1,a::as,b::bs,c::cs,h1,h2,h3=>by
   simp only[qq,Nat.add_right_cancel_iff]at h1 h2 h3
   show(xo3 _ _ _).length+1=_
   rw[Yuv h1 h2 h3]
theorem Yxk:∀{n:Nat} {a b c:List Bool},a.length=n->b.length=n->c.length=n->∀j,j < n->at' (xo3 a b c) j=((at' a j != at' b j) != at' c j)
 | n+1,a::as,b::bs,c::cs,h1,h2,h3,0,_=>rfl
 | n+1,a::as,b::bs,c::cs,h1,h2,h3,j+1,hj=>by
   simp only[qq,Nat.add_right_cancel_iff]at h1 h2 h3
   exact Yxk h1 h2 h3 j (by lia)
theorem bb0:∀m a b c x y z:Bool,((m&&((a != b) != c)) != ((x != y) != z))=((((m&&a) != x) != ((m&&b) != y)) != ((m&&c) != z)):=by decide
theorem bb1:∀t u o:Bool,((t != u) != o)=o->t=u:=by decide
theorem bb2:∀x e:Bool,x=e\/x=!e:=by decide
theorem bb3:∀e o:Bool,((false&&e) != o)=o:=by decide
theorem bb4:∀e p o:Bool,p≠o->((false&&e) != p)≠o:=by decide
theorem bb5:∀u e o:Bool,¬u=o->((true&&!e) != u)=(e != o):=by decide
theorem bb6:∀e p o:Bool,p≠o->((true&&e) != p)≠(e != o):=by decide
theorem Yxl:∀{n:Nat} {m a b c:List Bool},m.length=n->a.length=n->b.length=n->c.length=n->pm m (xo3 a b c)=((pm m a != pm m b) != pm m c)
 | 0,[],[],[],[],_,_,_,_=>rfl
 | n+1,m::ms,a::as,b::bs,c::cs,h0,h1,h2,h3=>by
   simp only[qq,Nat.add_right_cancel_iff]at h0 h1 h2 h3
   have ih:=Yxl h0 h1 h2 h3
   show((m&&((a != b) != c)) != pm ms (xo3 as bs cs))=_
   rw[ih]
   exact bb0 _ _ _ _ _ _ _
theorem mask:∀(n:Nat) (P:List Bool->Prop),(∀t,P t->t.length=n)->(∀a b c,P a->P b->P c->P (xo3 a b c))->∀ev:List Bool,ev.length=n->¬P ev->∃(m:List Bool) (o:Bool),m.length=n/\(∀t,P t->pm m t=o)/\pm m ev≠o
 | 0,P,hP,hc,ev,hl,hn=>by
   cases ev with
   | cons x ev=>cases hl
   | nil=>
     refine⟨[],true,rfl,fun t ht=>?_,(fun z=>nomatch z)⟩
     have h:=hP t ht
     cases t with
     | nil=>exact absurd ht hn
     | cons x t=>cases h
 | n+1,P,hP,hc,ev,hl,hn=>by
   cases ev with
   | nil=>cases hl
   | cons e ev=>
     simp only[qq,Nat.add_right_cancel_iff]at hl
     have zer:∀t:List Bool,pm (List.replicate n false) t=false:=fun t=>by
      have:∀(k:Nat) (t:List Bool),pm (List.replicate k false) t=false:=fun k=>by
       induction k with
       | zero=>intro t;cases t<;>rfl
       | succ k ih=>intro t;cases t with
         | nil=>rfl
         | cons x t=>show((false&&x) != pm (List.replicate k false) t)=false;rw[ih];rfl
      exact this n t
     by_cases hne:∃s,P (e::s)
     ·obtain⟨s,hs⟩:=hne
      obtain⟨m,o,hm,h1,h2⟩:=mask n (fun t=>P (e::t)) (fun t ht=>by have:=hP _ ht;simpa using this) (fun a b c ha hb hcc=>by
       have h:=hc _ _ _ ha hb hcc
       have he:((e != e) != e)=e:=by cases e<;>rfl
       replace h:P (((e != e) != e)::xo3 a b c):=h
       rw[he]at h
       exact h) ev hl hn
      have hsl:s.length=n:=by have:=hP _ hs;simpa using this
      by_cases hne2:∃u,P ((!e)::u)
      ·obtain⟨u,hu⟩:=hne2
       have hul:u.length=n:=by have:=hP _ hu;simpa using this
       have hcon:∀t,P ((!e)::t)->pm m t=pm m u:=fun t ht=>by
        have htl:t.length=n:=by have:=hP _ ht;simpa using this
        have h:=hc _ _ _ ht hu hs
        have he:(((!e) != (!e)) != e)=e:=by cases e<;>rfl
        replace h:P ((((!e) != (!e)) != e)::xo3 t u s):=h
        rw[he]at h
        have h3:=h1 _ h
        rw[Yxl hm htl hul hsl,h1 _ hs]at h3
        exact bb1 _ _ _ h3
       by_cases hco:pm m u=o
       ·refine⟨false::m,o,by simp[hm],fun t ht=>?_,?_⟩
        ·cases t with
         | nil=>have:=hP _ ht;cases this
         | cons x t=>
           rcases bb2 x e with rfl | rfl
           ·show((false&&_) != pm m t)=_;rw[h1 t ht];exact bb3 _ _
           ·show((false&&_) != pm m t)=_;rw[hcon t ht,hco];exact bb3 _ _
        ·exact bb4 _ _ _ h2
       ·refine⟨true::m,e != o,by simp[hm],fun t ht=>?_,?_⟩
        ·cases t with
         | nil=>have:=hP _ ht;cases this
         | cons x t=>
           rcases bb2 x e with rfl | rfl
           ·show((true&&_) != pm m t)=_;rw[h1 t ht,Bool.true_and]
           ·show((true&&_) != pm m t)=_
            rw[hcon t ht]
            exact bb5 _ _ _ hco
        ·exact bb6 _ _ _ h2
      ·refine⟨false::m,o,by simp[hm],fun t ht=>?_,?_⟩
       ·cases t with
        | nil=>have:=hP _ ht;cases this
        | cons x t=>
          rcases bb2 x e with rfl | rfl
          ·show((false&&_) != pm m t)=_;rw[h1 t ht];exact bb3 _ _
          ·exact absurd ⟨t,ht⟩ hne2
       ·exact bb4 _ _ _ h2
     ·refine⟨true::List.replicate n false,!e,by simp,fun t ht=>?_,?_⟩
      ·cases t with
       | nil=>have:=hP _ ht;cases this
       | cons x t=>
         rcases bb2 x e with rfl | rfl
         ·exact absurd ⟨t,ht⟩ hne
         ·show((true&&_) != pm _ t)=_;rw[zer];cases e<;>rfl
      ·show((true&&_) != pm _ ev)≠_
       rw[zer]
       cases e<;>decide
theorem Yuw:∀{n:Nat} {m t:List Bool},m.length=n->t.length=n->decide ((((List.range n).filter (at' m)).filter (at' t)).length % 2=1)=pm m t
 | 0,[],[],_,_=>rfl
 | n+1,c::m,x::t,h1,h2=>by
   simp only[qq,Nat.add_right_cancel_iff]at h1 h2
   have ih:=Yuw h1 h2
   have hmap:(((List.range n).map Nat.succ).filter (at' (c::m))).filter (at' (x::t))=((((List.range n).filter (at' m)).filter (at' t)).map Nat.succ):=by
    rw[List.filter_map,List.filter_map]
    rfl
   rw[List.range_succ_eq_map,pm,<-ih,List.filter_cons]
   have hc0:at' (c::m) 0=c:=rfl
   have hx0:at' (x::t) 0=x:=rfl
   generalize hL:((List.range n).filter (at' m)).filter (at' t)=L at *
   rw[hc0]
   cases c with
   | false=>
     rw[if_neg (by decide),hmap,qe]
     simp
   | true=>
     rw[if_pos rfl,List.filter_cons,hx0]
     cases x with
     | false=>
       rw[if_neg (by decide),hmap,qe]
       simp
     | true=>
       rw[if_pos rfl,qq,hmap,qe]
       by_cases h:L.length % 2=1
       ·have:¬(L.length+1) % 2=1:=by lia
        simp[h,this]
       ·have:(L.length+1) % 2=1:=by lia
        simp[h,this]
theorem y4q{n:Nat}{T:List (List Bool)}(hT:∀ev∈T,ev.length=n)(hc:Cl .s n T){ev:List Bool}(hl:ev.length=n)(hn:ev∉T):∃r∈RO .s n,(T.all fun e=>so .s e r)=true/\so .s ev r=false:=by
 obtain⟨m,o,hm,h1,h2⟩:=mask n (·∈T) hT (fun a b c ha hb hcc=>by
  have h:=hc [a,b,c] rfl (fun x hx=>by
   simp only[List.mem_cons,List.not_mem_nil,or_false]at hx
   rcases hx with rfl | rfl | rfl
   ·exact ha
   ·exact hb
   ·exact hcc)
  have he:blE .s n [a,b,c]=xo3 a b c:=Yut (Yur _ _ _) (Yuv (hT a ha) (hT b hb) (hT c hcc)) fun j hj=>by
   rw[Yus .s _ hj,bT_s,Yxk (hT a ha) (hT b hb) (hT c hcc) j hj]
  rw[he]at h
  exact h) ev hl hn
 refine⟨.su ((List.range n).filter (at' m)) o,List.mem_flatMap.mpr ⟨_,mem_smg.mpr ⟨?_,List.filter_sublist⟩,List.mem_map.mpr ⟨o,by cases o<;>simp,rfl⟩⟩,?_,?_⟩
 ·have:=List.length_filter_le (at' m) (List.range n)
  rwa [List.length_range]at this
 ·rw[List.all_eq_true]
  intro t ht
  show(decide ((((List.range n).filter (at' m)).filter (at' t)).length % 2=1)==o)=true
  rw[Yuw hm (hT t ht),h1 t ht]
  simp
 ·show(decide ((((List.range n).filter (at' m)).filter (at' ev)).length % 2=1)==o)=false
  rw[Yuw hm hl]
  simpa using h2
theorem y0c(k:Kd){n:Nat}{T:List (List Bool)}(hT:∀ev∈T,ev.length=n)(hc:Cl k n T){ev:List Bool}(hl:ev.length=n)(hn:ev∉T):∃r∈RO k n,(T.all fun e=>so k e r)=true/\so k ev r=false:=by
 cases k with
 | e=>exact y4p hT hc hl hn
 | s=>exact y4q hT hc hl hn
 | i=>exact y3i (.inl rfl) hT hc hl hn
 | n=>exact y3i (.inr rfl) hT hc hl hn
end Lw
namespace Lw
open PySem L2 M Bk
theorem y0d{k:Kd}{n:Nat}{T:List (List Bool)}(hc:Cl k n T):Yi8 k n T=none:=by
 cases h:Yi8 k n T with
 | none=>rfl
 | some g=>
   obtain⟨h1,h2,h3⟩:=Yuu h
   exact absurd (hc g h1 h2) h3
theorem y0e(k:Kd)(ev:List Bool)(R:List Rl):decide (brk k ev R=[])=R.all fun r=>so k ev r:=by
 unfold brk
 rw[Bool.eq_iff_iff,decide_eq_true_eq,List.filter_eq_nil_iff,List.all_eq_true]
 constructor
 ·intro h r hr
  obtain⟨i,hi,rfl⟩:=List.mem_iff_getElem.mp hr
  have:=h i (List.mem_range.mpr hi)
  have hn:nth R i=R[i]:=by simp[nth,hi]
  rw[hn]at this
  simpa using this
 ·intro h i hi
  have:=h (nth R i) (Ytz (qz hi))
  simp[this]
theorem y0f{d:D}(h:Yax [d]=some (.bl false))(kd c:D):Yal [kd,d,c]=some true:=by
 have h1:Ya4 [d,c]=some true:=by
  unfold Ya4 runX
  simp[Ycv,xIf,Yq,h,xYes]
 unfold Yal runX
 simp[Ydh,Yua,Yq,h1]
theorem Yux{m:Int}(h:m < 0\/4 < m):Yax [.int m]=some (.bl false):=by
 rw[Yax,Yan (by rfl)]
 have h1:isiD "int" (D.int m)=some true:=rfl
 have h2:isiD "bool" (D.int m)=some false:=rfl
 by_cases h0:0<=m
 ·have h4:¬m<=4:=by lia
  simp[Ydg,Yq,h0,h4,h1,h2]
 ·simp[Ydg,Yq,h0,h1,h2]
theorem Ype(c:Int):∃d,Ybj [.int c]=some d/\Yax [d]=some (.bl false):=by
 have h0:0<=c % 8:=Int.emod_nonneg _ (by decide)
 have h8:c % 8 < 8:=Int.emod_lt_of_pos _ (by decide)
 have hp:powI (.int 10) (.int 60)=some (.int (10 ^ 60)):=rfl
 have hf:0<=c / 8 % 10 ^ 60:=Int.emod_nonneg _ (by decide)
 have hm:modI (.int (c / 8)) (.int (10 ^ 60))=some (.int (c / 8 % 10 ^ 60)):=by
  have:((10:Int) ^ 60)≠0:=by decide
  simp[modI,i2,this]
 generalize hFF:c / 8 % 10 ^ 60=f at *
 generalize hTT:(10:Int) ^ 60=T at *
 clear hFF hTT
 have e:c % 8=0\/c % 8=1\/c % 8=2\/c % 8=3\/c % 8=4\/c % 8=5\/c % 8=6\/c % 8=7:=by lia
 rw[Ybj,Yan (by rfl)]
 rcases e with e | e | e | e | e | e | e | e
 ·exact⟨.int (-1 - f),by simp[y9,Yq,hp,hm,e]<;>rfl,Yux (by lia)⟩
 ·exact⟨.int (5+f),by simp[y9,Yq,hp,hm,e]<;>rfl,Yux (by lia)⟩
 ·exact⟨.bl true,by simp[y9,Yq,hp,hm,e]<;>rfl,by rfl⟩
 ·exact⟨.bl false,by simp[y9,Yq,hp,hm,e]<;>rfl,by rfl⟩
 ·exact⟨.non,by simp[y9,Yq,hp,hm,e]<;>rfl,by rfl⟩
 ·exact⟨.str "2",by simp[y9,Yq,hp,hm,e]<;>rfl,by rfl⟩
 ·exact⟨.lst [.int 1],by simp[y9,Yq,hp,hm,e]<;>rfl,by rfl⟩
 ·exact⟨.int 5,by simp[y9,Yq,hp,hm,e]<;>rfl,Yux (by lia)⟩
def ecB(y:Bool × List Bool):D:=if y.1 then tpB y.2 else lsB y.2
theorem y0g(y:Bool × List Bool):lenC [ecB y]=some (.int (y.2.length:Int)):=by
 obtain⟨b,ev⟩:=y
 cases b<;>simp[ecB,tpB]
theorem y3j{n:Nat}(hn:n<=4)(kd:D){Y:List (Bool × List Bool)}(h:∃y∈Y,y.2.length≠n):Yal [kd,.int (n:Int),.lst (Y.map ecB)]=some true:=by
 have hl:=Yja hn
 have hc:=Yib (fe:=Yb8) (r:=[some (.sh (.int (n:Int)))]) (enc:=ecB) (fun y=>.bl (decide (y.2.length=n))) (l:=Y) (fun y _=>by
  have he:=y0g y
  have hd:decide (((y.2.length:Nat):Int)=(n:Int))=decide (y.2.length=n):=by simp
  generalize ecB y=E at *
  simp[Yb8,he])
 have hm:(Y.map fun y=>D.bl (decide (y.2.length=n)))=(Y.map fun y=>decide (y.2.length=n)).map D.bl:=by rw[List.map_map];rfl
 rw[hm]at hc
 have hal:allC [.lst ((Y.map fun y=>decide (y.2.length=n)).map D.bl)]=some (.bl false):=by
  have:(Y.map fun y=>decide (y.2.length=n)).all id=false:=by
   rw[List.all_eq_false]
   obtain⟨y,hy,hne⟩:=h
   exact⟨_,List.mem_map_of_mem hy,by simp[hne]⟩
  rw[<-this]
  generalize (Y.map fun y=>decide (y.2.length=n))=bs
  simp
 have h1:Ya4 [.int (n:Int),.lst (Y.map ecB)]=some true:=by
  unfold Ya4 runX
  generalize (Y.map fun y=>decide (y.2.length=n)).map D.bl=BB at *
  generalize Y.map ecB=YY at *
  simp[Ycv,xIf,Yq,hl,xYes,capR,hc,hal]
 unfold Yal runX
 generalize Y.map ecB=YY at *
 simp[Ydh,Yua,Yq,h1]
theorem y0h{kd d c:D}(h:Yal [kd,d,c]=some true):Ydk [kd,d,c]=some (.lst [.bl true,.bl true,.bl false]):=by
 rw[Ydk,Yan (by rfl)]
 simp[Yi4,Yq,tryF,h,Ycp]
theorem Yuy{k:Kd}{n:Nat}(hn:n<=4){X:List (List Bool)}(hX:∀ev∈X,ev.length=n)(hcl:Cl k n (tabE n X)){c:D}(hc:Ym c=some (X.map tpB)) :
 ∃R':List Rl,Ybk [kdD k,.int (n:Int),c]=some (Ybl k R')/\∀ev,ev.length=n->Yf2 [Ybl k R',tpB ev]=some (.bl (decide (ev∈X))):=by
 rcases Ygk (k:=k) hn hX (enc:=tpB) (fun x=>by simp[tpB]) (fun x=>by simp[tpB]) (c:=c) hc with⟨g,hg,_⟩ | ⟨_,R',ht,_,hin',hall,hnot⟩
 ·rw[y0d hcl]at hg
  cases hg
 ·refine⟨R',?_,fun ev hl=>?_⟩
  ·have hty:isiD "tuple" (.tup [.str "book",Ybl k R'])=some true:=rfl
   rw[Ybk,Yan (by rfl)]
   generalize Ybl k R'=BK at *
   simp[Yfl,Yq,ht,hty,Yp7]
  ·rw[Yz3 (c:=tpB ev) (ev:=ev) rfl (fun r hr=>by rw[hl];exact(hin' r hr).1),y0e]
   by_cases h:ev∈X
   ·rw[hall ev ((Yha hX).mpr h)]
    simpa using h
   ·have h':ev∉tabE n X:=fun z=>h ((Yha hX).mp z)
    rw[hnot ev hl h' (y0c k Yqi hcl hl h')]
    simpa using h
theorem tail{ns:List Int}{k:Kd}{n:Nat}(hn:n<=4){X:List (List Bool)}(hX:∀ev∈X,ev.length=n)(hX16:X.length<=16)(d4 d5 d6 d7 d8:Option B) :
 Yll [some (.sh (.scr ns)),some (.sh (kdD k)),some (.sh (.int (n:Int))),some (.ow (X.map tpB)),d4,d5,d6,d7,d8,none,none,none,none]=some (.rt (.bl true)):=by
 have hal:=Yul hn
 have hcl0:Cl k n (tabE n []):=fun S hl hS=>by
  cases S with
  | nil=>cases k<;>cases hl
  | cons a S=>
    have:=(Yha (n:=n) (X:=[]) (fun _ h=>nomatch h)).mp (hS a (.head _))
    cases this
 have hcl1:Cl k n (tabE n (allE n)):=fun S hl hS=>(Yha (fun ev h=>Yd7 n h)).mpr (Yg8 n (Yur k n S))
 obtain⟨R1,hb1,hh1⟩:=Yuy (k:=k) hn (X:=allE n) (fun ev h=>Yd7 n h) hcl1 (c:=.lst ((allE n).map tpB)) rfl
 have hidx:∀x:Int,∃c,ixD (.lst [.lst [],.tup []]) (.int (x / 3 % 2))=some c/\Ym c=some (([]:List (List Bool)).map tpB):=fun x=>by
  have e:x / 3 % 2=0\/x / 3 % 2=1:=by lia
  rcases e with e | e<;>rw[e]
  ·exact⟨_,rfl,rfl⟩
  ·exact⟨_,rfl,rfl⟩
 have c1:=Yke ns 1
 obtain⟨c,hc1,hc2⟩:=hidx (ns.getD 1 0)
 obtain⟨R0,hb0,hh0⟩:=Yuy (k:=k) hn (X:=[]) (fun _ h=>nomatch h) hcl0 hc2
 obtain⟨s,z,hs,ht⟩:∃(s:Str) (z:D),(s=Str.ofString "blend"\/s=Str.ofString "book")/\Yai [kdD k,.int (n:Int),.tup (X.map tpB)]=some (.tup [.str s,z]):=by
  rcases Ygk (k:=k) hn hX (enc:=tpB) (fun x=>by simp[tpB]) (fun x=>by simp[tpB]) (c:=.tup (X.map tpB)) rfl with⟨g,_,ht⟩ | ⟨_,R',ht,_⟩
  ·exact⟨_,_,.inl rfl,ht⟩
  ·exact⟨_,_,.inr rfl,ht⟩
 have q16:Ylg [some (.sh (.scr ns)),some (.sh (kdD k)),some (.sh (.int (n:Int))),some (.ow (X.map tpB)),d4,d5,d6,d7,d8,some (.sh (.tup [.str s,z])),some (.sh (Ybl k R0)),some (.sh (Ybl k R1)),none]=some (.rt (.bl true)):=by
  obtain⟨ρ',e1,y,rfl⟩:=Yg6 (gt:=gSet 12) (fb:=Ylf) tpB (fun pre ρ=>∃(y:Option B),ρ=[some (.sh (.scr ns)),some (.sh (kdD k)),some (.sh (.int (n:Int))),some (.ow (X.map tpB)),d4,d5,d6,d7,d8,some (.sh (.tup [.str s,z])),some (.sh (Ybl k R0)),some (.sh (Ybl k R1)),y]) (allE n) []
   [some (.sh (.scr ns)),some (.sh (kdD k)),some (.sh (.int (n:Int))),some (.ow (X.map tpB)),d4,d5,d6,d7,d8,some (.sh (.tup [.str s,z])),some (.sh (Ybl k R0)),some (.sh (Ybl k R1)),none] ⟨none,rfl⟩ (by
    rintro q ev r ρ e ⟨y,rfl⟩
    rw[List.nil_append]at e
    have hm:ev∈allE n:=by rw[e];simp
    have hev:ev.length=n:=Yd7 n hm
    have g0:=hh0 ev hev
    have g1:=hh1 ev hev
    rw[decide_eq_true hm]at g1
    rw[decide_eq_false (fun h=>nomatch h)]at g0
    clear hb0 hb1 hh0 hh1 ht
    generalize Ybl k R0=B0 at *
    generalize Ybl k R1=B1 at *
    generalize tpB ev=EV at *
    generalize X.map tpB=XX at *
    refine⟨_,_,rfl,?_,⟨some (.sh EV),rfl⟩⟩
    simp[Ylf,g0,g1])
  have h1:Ye (getV 2) aNil [some (.sh (.scr ns)),some (.sh (kdD k)),some (.sh (.int (n:Int))),some (.ow (X.map tpB)),d4,d5,d6,d7,d8,some (.sh (.tup [.str s,z])),some (.sh (Ybl k R0)),some (.sh (Ybl k R1)),none]=some [.int (n:Int)]:=by
   generalize Ybl k R0=B0
   generalize Ybl k R1=B1
   generalize X.map tpB=XX
   simp
  rw[Ylg,Yad,Yok,Yv9,Yto,h1,qc,hal,qc,Ycd,qc,e1,qc,Yby]
  rfl
 clear hh0 hh1
 generalize hB0:Ybl k R0=B0 at *
 generalize hB1:Ybl k R1=B1 at *
 have n0:isN false B0 .non=some false:=by rw[<-hB0];rfl
 have n1:isN false B1 .non=some false:=by rw[<-hB1];rfl
 clear hB0 hB1
 have hty:isiD "tuple" (.tup [.str s,z])=some true:=rfl
 have hni:inM true (.str s) (.lst [.str "book",.str "blend"])=some false:=by
  rcases hs with rfl | rfl<;>rfl
 clear hs
 generalize ns.getD 1 0=x1 at *
 simp at c1 hc1
 generalize (allE n).map tpB=AE at *
 generalize X.map tpB=XX at *
 have q15:Ylh [some (.sh (.scr ns)),some (.sh (kdD k)),some (.sh (.int (n:Int))),some (.ow XX),d4,d5,d6,d7,d8,some (.sh (.tup [.str s,z])),some (.sh B0),some (.sh B1),none]=some (.rt (.bl true)):=by
  rw[Ylh,Yad]
  simp[n0,n1]
  exact q16
 have q14:Yli [some (.sh (.scr ns)),some (.sh (kdD k)),some (.sh (.int (n:Int))),some (.ow XX),d4,d5,d6,d7,d8,some (.sh (.tup [.str s,z])),some (.sh B0),none,none]=some (.rt (.bl true)):=by
  rw[Yli,Yad]
  simp[hal,hb1]
  exact q15
 have q13:Ylj [some (.sh (.scr ns)),some (.sh (kdD k)),some (.sh (.int (n:Int))),some (.ow XX),d4,d5,d6,d7,d8,some (.sh (.tup [.str s,z])),none,none,none]=some (.rt (.bl true)):=by
  rw[Ylj,Yad]
  simp[c1,hc1,hb0]
  exact q14
 have q12:Ylk [some (.sh (.scr ns)),some (.sh (kdD k)),some (.sh (.int (n:Int))),some (.ow XX),d4,d5,d6,d7,d8,some (.sh (.tup [.str s,z])),none,none,none]=some (.rt (.bl true)):=by
  rw[Ylk,Yad]
  simp[hty,hni]
  exact q13
 rw[Yll,Yad]
 simp[ht]
 exact q12
theorem y4r{ns:List Int}{n:Nat}(hn:n<=4){X:List (List Bool)}(hX16:X.length<=16){w:Int}(hw:w=0\/w=1\/w=2)(kd:D) :
 ∃(SP:List D) (d6:Option B),(w≠0->∃Y:List (Bool × List Bool),SP=Y.map ecB/\∃y∈Y,y.2.length≠n)/\
 ∀ρ,Yln [some (.sh (.scr ns)),some (.sh kd),some (.sh (.int (n:Int))),some (.ow (X.map tpB)),some (.sh (.int w)),some (.ow SP),d6,none,none,none,none,none,none]=some ρ->
  Ylo [some (.sh (.scr ns)),some (.sh kd),some (.sh (.int (n:Int))),some (.ow (X.map tpB)),some (.sh (.int w)),some (.ow (X.map tpB)),none,none,none,none,none,none,none]=some ρ:=by
 have c2:=Yke ns 2
 have c3:=Yke ns 3
 generalize ns.getD 2 0=x2 at *
 generalize ns.getD 3 0=x3 at *
 simp at c2 c3
 by_cases h0:w=0
 ·refine⟨X.map tpB,none,fun h=>absurd h0 h,fun ρ h=>?_⟩
  subst h0
  generalize X.map tpB=XX at *
  rw[Ylo,Yad]
  simp
  exact h
 ·have hw0:0 < w:=by lia
  obtain⟨v,hv,hv2⟩:∃v:Int,atI [D.int 1,D.int 2,D.int (-1),D.int (-2)] (x2 % 4)=some (D.int v)/\(v=1\/v=2\/v=-1\/v=-2):=by
   have e:x2 % 4=0\/x2 % 4=1\/x2 % 4=2\/x2 % 4=3:=by lia
   rcases e with e | e | e | e<;>rw[e]
   ·exact⟨1,rfl,by lia⟩
   ·exact⟨2,rfl,by lia⟩
   ·exact⟨-1,rfl,by lia⟩
   ·exact⟨-2,rfl,by lia⟩
  obtain⟨m,hm,hmn,hm6⟩:∃m:Nat,(if (n:Int)+v < 0 then (n:Int)+1 else (n:Int)+v)=(m:Int)/\m≠n/\m<=1000:=by
   by_cases h:(n:Int)+v < 0
   ·exact⟨n+1,by rw[if_pos h];lia,by lia,by lia⟩
   ·exact⟨((n:Int)+v).toNat,by rw[if_neg h];lia,by lia,by lia⟩
  obtain⟨ev,hel,hev⟩:=Yxj x3 m hm6
  obtain⟨i,hi⟩:∃i:Nat,x2 / 4 % ((X.length:Int)+1)=(i:Int):=⟨_,(Int.toNat_of_nonneg (Int.emod_nonneg _ (by lia))).symm⟩
  have hpos:(0:Int) < (X.length:Int)+1:=by lia
  have hiX:i<=X.length:=by have:=Int.emod_lt_of_pos (x2 / 4) hpos;lia
  have hins:insD (X.map tpB) (.int (i:Int)) (.lst (ev.map D.bl))=some ((((X.take i).map fun x=>(true,x))++(false,ev)::(X.drop i).map fun x=>(true,x)).map ecB):=by
   unfold insD
   have hb:(decide (0<=(i:Int))&&decide ((i:Int)<=((X.map tpB).length:Int))&&decide ((X.map tpB).length < cap6))=true:=by
    rw[qe]
    have h1:(i:Int)<=(X.length:Int):=by lia
    have h2:X.length < 1000000:=by lia
    simp[h1,h2]
   show(if _ then _ else _)=_
   rw[if_pos hb]
   simp[List.map_take,List.map_drop,ecB,Function.comp_def,lsB]
  refine⟨(((X.take i).map fun x=>(true,x))++(false,ev)::(X.drop i).map fun x=>(true,x)).map ecB,some (.sh (.int (m:Int))),fun _=>⟨_,rfl,(false,ev),List.mem_append.mpr (.inr (.head _)),by rw[hel];exact hmn⟩,fun ρ hgo=>?_⟩
  have hXl:lenC [.lst (X.map tpB)]=some (.int (X.length:Int)):=by rw[<-qe (f:=tpB)];rfl
  generalize (((X.take i).map fun x=>(true,x))++(false,ev)::(X.drop i).map fun x=>(true,x)).map ecB=SP at *
  generalize X.map tpB=XX at *
  generalize (X.length:Int)=xl at *
  generalize ev.map D.bl=EV at *
  simp at hXl
  rw[Ylo,Yad]
  by_cases h:(n:Int)+v < 0
  ·rw[if_pos h]at hm
   simp[hw0,c2,c3,hv,h,hXl,hpos,hi,hm,hev,hins]
   exact hgo
  ·rw[if_neg h]at hm
   rw[hm]at h
   simp[hw0,c2,c3,hv,h,hXl,hpos,hi,hm,hev,hins]
   exact hgo
theorem law_true(ns:List Int)(_:ns.length<=63):Yo7 [.scr ns]=some (.bl true):=by
 rw[Yo7,Yan (by rfl)]
 have c0:=Yke ns 0
 have c1:=Yke ns 1
 have c3:=Yke ns 3
 have k4:=Yz1 ns 4 20
 generalize hcl:(ns.drop (min 4 ns.length)).take (min 20 ns.length - min 4 ns.length)=cells at k4
 have hcl':cells.length<=16:=by
  rw[<-hcl,List.length_take,List.length_drop]
  lia
 clear hcl
 obtain⟨k,hk⟩:=y3f (ns.getD 0 0)
 obtain⟨n,hn1,hn⟩:∃n:Nat,n<=4/\ns.getD 0 0 / 4 % 5=(n:Int):=⟨(ns.getD 0 0 / 4 % 5).toNat,by lia,by lia⟩
 obtain⟨ef,hef⟩:=Classical.axiomOfChoice (fun c:Int=>Yxj c n (by lia))
 have hcm:=Yib (fe:=Yle) (r:=[some (.sh (.int (n:Int)))]) (enc:=D.int) (fun c=>tpB (ef c)) (l:=cells) (fun c _=>by
  have h:=(hef c).2
  have h2:tupC [.lst ((ef c).map D.bl)]=some (tpB (ef c)):=by simp[tpB]
  generalize tpB (ef c)=TE at *
  generalize (ef c).map D.bl=LE at *
  simp at h2
  simp[Yle,h,h2])
 have hm:cells.map (fun c=>tpB (ef c))=(cells.map ef).map tpB:=by rw[List.map_map];rfl
 rw[hm]at hcm
 have hX:∀ev∈cells.map ef,ev.length=n:=fun ev h=>by
  obtain⟨c,_,rfl⟩:=qw h
  exact(hef c).1
 have hX16:(cells.map ef).length<=16:=by rw[qe];exact hcl'
 generalize cells.map ef=X at *
 have hw:ns.getD 1 0 % 3=0\/ns.getD 1 0 % 3=1\/ns.getD 1 0 % 3=2:=by lia
 generalize hW:ns.getD 1 0 % 3=w at *
 obtain⟨SP,d6,hsp,h5⟩:=y4r (ns:=ns) hn1 hX16 hw (kdD k)
 obtain⟨d,hd1,hd2⟩:=Ype (ns.getD 3 0)
 obtain⟨d7,hd7,hx⟩:∃d7,d7=(if w < 2 then d else .int (n:Int))/\Yal [kdD k,d7,.lst SP]=some true:=by
  refine⟨_,rfl,?_⟩
  by_cases h:w < 2
  ·rw[if_pos h]
   exact y0f hd2 _ _
  ·rw[if_neg h]
   obtain⟨Y,rfl,hY⟩:=hsp (by lia)
   exact y3j hn1 _ hY
 have hkk:=y0h hx
 have ht:=tail (ns:=ns) (k:=k) hn1 hX hX16 (some (.sh (.int w))) (some (.sh (.lst SP))) d6 (some (.sh d7)) (some (.sh (.bl true)))
 have hst:Yq 13 [D.scr ns]=[some (.sh (.scr ns)),none,none,none,none,none,none,none,none,none,none,none,none]:=rfl
 rw[hst]
 generalize ns.getD 0 0=x0 at *
 generalize ns.getD 1 0=x1 at *
 generalize ns.getD 3 0=x3 at *
 simp at c0 c1 c3 k4
 have q10:Ylm [some (.sh (.scr ns)),some (.sh (kdD k)),some (.sh (.int (n:Int))),some (.ow (X.map tpB)),some (.sh (.int w)),some (.sh (.lst SP)),d6,some (.sh d7),some (.sh (.bl true)),none,none,none,none]=some (.rt (.bl true)):=by
  generalize X.map tpB=XX at *
  have he:eqM true (.lst [.bl true,.bl true,.bl false]) (.lst [.bl true,.bl true,.bl false])=some false:=rfl
  rw[Ylm,Yad]
  simp[frz,frz1,hkk,he]
  exact ht
 have q9:Yo0 [some (.sh (.scr ns)),some (.sh (kdD k)),some (.sh (.int (n:Int))),some (.ow (X.map tpB)),some (.sh (.int w)),some (.ow SP),d6,some (.sh d7),some (.sh (.bl false)),none,none,none,none]=some (.rt (.bl true)):=by
  generalize X.map tpB=XX at *
  rw[Yo0,Yad]
  simp[frz,frz1,tryF,hx]
  exact q10
 have q8:Yo1 [some (.sh (.scr ns)),some (.sh (kdD k)),some (.sh (.int (n:Int))),some (.ow (X.map tpB)),some (.sh (.int w)),some (.ow SP),d6,some (.sh d7),none,none,none,none,none]=some (.rt (.bl true)):=by
  generalize X.map tpB=XX at *
  rw[Yo1,Yad]
  simp
  exact q9
 have q7:Yo2 [some (.sh (.scr ns)),some (.sh (kdD k)),some (.sh (.int (n:Int))),some (.ow (X.map tpB)),some (.sh (.int w)),some (.ow SP),d6,some (.sh (.int (n:Int))),none,none,none,none,none]=some (.rt (.bl true)):=by
  generalize X.map tpB=XX at *
  rw[Yo2,Yad]
  by_cases h:w < 2
  ·rw[if_pos h]at hd7
   subst hd7
   simp[h,c3,hd1]
   exact q8
  ·rw[if_neg h]at hd7
   subst hd7
   simp[h]
   exact q8
 have q6:Yln [some (.sh (.scr ns)),some (.sh (kdD k)),some (.sh (.int (n:Int))),some (.ow (X.map tpB)),some (.sh (.int w)),some (.ow SP),d6,none,none,none,none,none,none]=some (.rt (.bl true)):=by
  generalize X.map tpB=XX at *
  rw[Yln,Yad]
  simp
  exact q7
 have q5:=h5 _ q6
 clear h5 q6 q7 q8 q9 q10 hkk ht hx
 generalize X.map tpB=XX at *
 have q4:Yo3 [some (.sh (.scr ns)),some (.sh (kdD k)),some (.sh (.int (n:Int))),some (.ow XX),some (.sh (.int w)),none,none,none,none,none,none,none,none]=some (.rt (.bl true)):=by
  rw[Yo3,Yad]
  simp
  exact q5
 have q3:Yo4 [some (.sh (.scr ns)),some (.sh (kdD k)),some (.sh (.int (n:Int))),some (.ow XX),none,none,none,none,none,none,none,none,none]=some (.rt (.bl true)):=by
  rw[Yo4,Yad]
  simp[c1,hW]
  exact q4
 have q2:Yo5 [some (.sh (.scr ns)),some (.sh (kdD k)),some (.sh (.int (n:Int))),none,none,none,none,none,none,none,none,none,none]=some (.rt (.bl true)):=by
  rw[Yo5,Yad]
  simp[k4,capR,hcm]
  exact q3
 have q1:Yo6 [some (.sh (.scr ns)),some (.sh (kdD k)),none,none,none,none,none,none,none,none,none,none,none]=some (.rt (.bl true)):=by
  rw[Yo6,Yad]
  simp[c0,hn]
  exact q2
 rw[y3d,Yad]
 simp[c0,hk,q1]
end Lw
end
namespace Op
open PySem PySem.W PyProof.Rows PySem.Calls
set_option maxRecDepth 100000
noncomputable abbrev pg:Program:=PySem.Challenge.pw_duskbook_k54_tables_refused
noncomputable abbrev en(P:Params)(x:Str)(t:Nat)(v:Value):DictEntry:=⟨PyData.keyHash P x,.str x t,v⟩
noncomputable abbrev fn(name qual:Str)(s:Stmt)(dV kV doc pm:Value)(an:Option Addr)(cdv ct:Value)(g b:Nat):Data:=.func ⟨name,qual,L2.defArgs s,.stmts (L2.defBody s),L2.defScope s,g,[],dV,kV,doc,pm,an,cdv,ct,b⟩
noncomputable abbrev tu(l:List Value):Obj:=⟨.type "tuple",none,.seq ⟨l⟩ 0,#[]⟩
noncomputable abbrev fl:Obj:=⟨.none,none,.fields #[],#[]⟩
noncomputable abbrev oZ(x:Str)(i:Nat):Obj:=⟨.none,none,fn x x (Lw.top i) .none .none .none .none none .none .none 0 0,#[]⟩
noncomputable abbrev oF(x:Str)(i:Nat)(pm:Value)(c:Nat):Obj:=⟨.type "function",none,.func (fnOf x x (L2.defArgs (Lw.top i)) (L2.defBody (Lw.top i)) (L2.defScope (Lw.top i)) .none .none .none pm none (.ref c) .none),#[]⟩
noncomputable abbrev oC(x:Str)(t l n b:Nat)(u v:Value)(c k e:Nat):Obj:=⟨.type "code",none,.fields #[.str x t,.str x (t+1),.str "/claim/cut.py" (t+2),.int (.ofNat l) 0,.int (.ofNat n) 0,.int 0 0,.int 0 0,.int 3 0,.ref b,.bool true,.int (.ofNat k) 0,.ref (b+1),.none,u,v,.ref c,.int (.ofNat e) 0,.int (.ofNat l) 0,.str "/claim/cut.py" (e+1)],#[]⟩
noncomputable abbrev p0:Value:=(.str "duskbook.blends" 187)
noncomputable abbrev p1:Value:=(.str "duskbook.books" 357)
noncomputable abbrev p2:Value:=(.str "duskbook.tables" 473)
noncomputable abbrev p3:Value:=(.str "law_duskbook_k54_tables_refused" 564)
noncomputable def et0(P:Params):List DictEntry:=[en P "__doc__" 166 .none,en P "__package__" 167 .none,en P "__loader__" 168 (.builtin "__main__.__loader__#opaque"),en P "__spec__" 169 .none,en P "__annotations__" 170 (.ref 6),en P "__builtins__" 171 (.ref 4),en P "__file__" 173 (.str "/claim/cut.py" 172),en P "__cached__" 174 .none,en P "blended_light" 196 (.ref 21),en P "lit_count_at" 202 (.ref 26),en P "blended" 208 (.ref 31),en P "DuskError" 228 (.ref 41),en P "NoBook" 244 (.ref 54),en P "NoHands" 260 (.ref 66),en P "Over" 276 (.ref 78),en P "NoLight" 292 (.ref 90),en P "NoneSettled" 308 (.ref 102),en P "NoTable" 324 (.ref 114),en P "NoPage" 340 (.ref 126),en P "NoPaper" 356 (.ref 138),en P "KINDS" 363 (.ref 141),en P "BEACON_COUNT" 365 (.int (60) 364),en P "MOST_RULES" 367 (.int (60) 366),en P "MOST_SAYINGS" 369 (.int (2) 368),en P "is_beacon" 376 (.ref 148),en P "checked_beacon" 383 (.ref 155),en P "checked_truth" 390 (.ref 162),en P "checked_beacons" 396 (.ref 167),en P "either_made" 402 (.ref 172),en P "sum_made" 409 (.ref 179),en P "if_made" 417 (.ref 186),en P "rule_made" 425 (.ref 193),en P "book_made" 431 (.ref 198),en P "either_holds" 437 (.ref 203),en P "sum_holds" 443 (.ref 208),en P "if_holds" 449 (.ref 213),en P "rule_holds" 458 (.ref 220),en P "broken_rules" 464 (.ref 225),en P "holds" 472 (.ref 232),en P "MOST_LENGTH" 476 (.int (4) 475)]
noncomputable def et1(P:Params):List DictEntry:=[en P "BLENDED_COUNTS" 489 (.ref 233),en P "is_length" 496 (.ref 240),en P "check_table" 502 (.ref 245),en P "all_evenings" 508 (.ref 250),en P "groups_of" 514 (.ref 255),en P "small_groups" 524 (.ref 262),en P "eithers_over" 530 (.ref 267),en P "rules_over" 536 (.ref 272),en P "holds_on_all" 542 (.ref 277),en P "book_of" 548 (.ref 282),en P "lacking_blend" 557 (.ref 289),en P "table_told" 563 (.ref 294),en P "_law_cell" 573 (.ref 301),en P "_law_mixed" 581 (.ref 308),en P "_law_kind" 588 (.ref 315),en P "_law_bits" 599 (.ref 322),en P "_law_all" 605 (.ref 327),en P "_law_kinds" 618 (.ref 334),en P "_law_no_length" 626 (.ref 341),en P "_law_book_of" 636 (.ref 348),en P "law" 642 (.ref 353)]
noncomputable def et(P:Params):List DictEntry:=et0 P++et1 P
noncomputable abbrev ns(P:Params)(x:DictEntry)(n k:Nat):Obj:=⟨.type "dict",none,.dict ⟨x::(et P).take n⟩ k,#[]⟩
noncomputable def ff0:List Value:=[(.int (2) 0),(.int (0) 0),(.ref 20),(.int (10) 0),(.int (0) 0),(.ref 25),(.int (12) 0),(.int (0) 0),(.ref 30),(.int (16) 0),(.int (0) 0),(.ref 37),(.int (18) 0),(.int (0) 0),(.ref 50),(.int (20) 0),(.int (0) 0),(.ref 62),(.int (22) 0),(.int (0) 0),(.ref 74),(.int (24) 0),(.int (0) 0),(.ref 86),(.int (26) 0),(.int (0) 0),(.ref 98),(.int (28) 0),(.int (0) 0),(.ref 110),(.int (30) 0),(.int (0) 0),(.ref 122),(.int (32) 0),(.int (0) 0),(.ref 134),(.int (39) 0),(.int (0) 0),(.ref 147),(.int (41) 0)]
noncomputable def ff1:List Value:=[(.int (0) 0),(.ref 154),(.int (45) 0),(.int (0) 0),(.ref 161),(.int (49) 0),(.int (0) 0),(.ref 166),(.int (54) 0),(.int (0) 0),(.ref 171),(.int (61) 0),(.int (0) 0),(.ref 178),(.int (63) 0),(.int (0) 0),(.ref 185),(.int (68) 0),(.int (0) 0),(.ref 192),(.int (74) 0),(.int (0) 0),(.ref 197),(.int (80) 0),(.int (0) 0),(.ref 202),(.int (82) 0),(.int (0) 0),(.ref 207),(.int (85) 0),(.int (0) 0),(.ref 212),(.int (89) 0),(.int (0) 0),(.ref 219),(.int (95) 0),(.int (0) 0),(.ref 224),(.int (97) 0),(.int (0) 0)]
noncomputable def ff2:List Value:=[(.ref 231),(.int (102) 0),(.int (0) 0),(.ref 239),(.int (104) 0),(.int (0) 0),(.ref 244),(.int (109) 0),(.int (0) 0),(.ref 249),(.int (114) 0),(.int (0) 0),(.ref 254),(.int (121) 0),(.int (0) 0),(.ref 261),(.int (126) 0),(.int (0) 0),(.ref 266),(.int (129) 0),(.int (0) 0),(.ref 271),(.int (138) 0),(.int (0) 0),(.ref 276),(.int (140) 0),(.int (0) 0),(.ref 281),(.int (149) 0),(.int (0) 0),(.ref 288),(.int (154) 0),(.int (0) 0),(.ref 293),(.int (162) 0),(.int (0) 0),(.ref 300),(.int (166) 0),(.int (0) 0),(.ref 307)]
noncomputable def ff3:List Value:=[(.int (168) 0),(.int (0) 0),(.ref 314),(.int (170) 0),(.int (0) 0),(.ref 321),(.int (177) 0),(.int (0) 0),(.ref 326),(.int (182) 0),(.int (0) 0),(.ref 333),(.int (191) 0),(.int (0) 0),(.ref 340),(.int (194) 0),(.int (0) 0),(.ref 347),(.int (199) 0),(.int (0) 0),(.ref 352)]
noncomputable def ff:List Value:=ff0++ff1++ff2++ff3
noncomputable abbrev ft(n:Nat):Obj:=⟨.none,none,.fields ⟨ff.take n⟩,#[]⟩
noncomputable abbrev dF(x:Str)(i l n t b:Nat)(pm:Value)(k:Nat):List Obj:=[tu [],fl,oZ x i,oC x t l n b .none .none (b+2) k (t+3),oF x i pm (b+3)]
noncomputable abbrev dG(x:Str)(i l n t b:Nat)(pm:Value)(k:Nat)(u:List Value):List Obj:=[tu [],fl,tu u,tu [],oZ x i,oC x t l n b (.ref (b+2)) (.ref (b+3)) (b+4) k (t+3+u.length),oF x i pm (b+5)]
noncomputable def al0(P:Params):List Obj:=[boot_o_0 P,boot_o_1 P,boot_o_2 P,ns P (en P "__name__" 165 (.str "law_duskbook_k54_tables_refused" 564)) 61 62,boot_o_4 P,boot_o_5 P,boot_o_6 P,boot_o_7 P,boot_o_8 P,boot_o_9 P,boot_o_10 P,tu [],ft 141,⟨(.type "code"),none,(.fields #[(.str "<module>" 182),(.str "<module>" 183),(.str "/claim/cut.py" 184),(.int (1) 0),(.int (0) 0),(.int (0) 0),(.int (0) 0),(.int (0) 0),(.ref 11),(.bool false),(.int (181) 0),(.ref 12),.none,.none,.none,.none,(.int (185) 0),(.int (1) 0),(.str "/claim/cut.py" 186)]),#[]⟩,⟨(.type "frame"),none,.plain,#[(some (.ref 13)),(some (.ref 3)),(some (.ref 3)),none,(some (.str "__main__" 164)),none,(some (.ref 0))]⟩]++(dG "blended_light" 1 2 2 189 15 p0 181 [(.str "kind" 192),(.str "lit_count" 193)]++(dF "lit_count_at" 2 10 2 197 22 p0 181++(dF "blended" 3 12 2 203 27 p0 181++([tu [(.type "ValueError")],⟨(.type "builtin_function_or_method"),none,(.fields #[(.builtin "type.__prepare__"),(.type "type")]),#[]⟩,⟨(.type "dict"),none,(.dict #[en P "__module__" 218 (.str "duskbook.errors" 209),en P "__qualname__" 220 (.str "DuskError" 219),en P "__firstlineno__" 222 (.int (16) 221),en P "__static_attributes__" 223 (.ref 39)] 4),#[]⟩,tu [],fl,⟨(.type "code"),none,(.fields #[(.str "DuskError" 213),(.str "DuskError" 214),(.str "/claim/cut.py" 215),(.int (16) 0),(.int (0) 0),(.int (0) 0),(.int (0) 0),(.int (0) 0),(.ref 35),(.bool false),(.int (181) 0),(.ref 36),.none,.none,.none,.none,(.int (216) 0),(.int (16) 0),(.str "/claim/cut.py" 217)]),#[]⟩,⟨(.type "frame"),none,.plain,#[(some (.ref 37)),(some (.ref 3)),(some (.ref 34)),none,(some (.str "duskbook.errors" 209)),none,(some (.ref 0))]⟩,tu [],⟨(.type "dict"),none,(.dict #[en P "__module__" 218 (.str "duskbook.errors" 209),en P "__firstlineno__" 222 (.int (16) 221),en P "__static_attributes__" 223 (.ref 39),en P "__weakref__" 225 (.ref 42),en P "__doc__" 226 .none] 3),#[]⟩,⟨(.type "type"),none,(.cls ⟨"DuskError",[(.type "ValueError")],[(.ref 41),(.type "ValueError"),(.type "Exception"),(.type "BaseException"),(.type "object")],40,"DuskError",true,[],[(.ref 54),(.ref 66),(.ref 78),(.ref 90),(.ref 102),(.ref 114),(.ref 126),(.ref 138)],false,none,false⟩),#[(some (.ref 32)),none,(some (.str "DuskError" 211)),(some (.str "DuskError" 219)),(some (.builtin "ValueError.__new__")),(some (.bool true))]⟩,⟨(.type "getset_descriptor"),none,(.fields #[(.str "__weakref__" 224),(.ref 41),(.builtin "ExceptionGroup.__weakref__"),.none]),#[]⟩,⟨(.type "super"),none,(.fields #[(.ref 41),(.ref 41),(.ref 41)]),#[]⟩,⟨(.type "builtin_function_or_method"),none,(.fields #[(.builtin "object.__init_subclass__"),(.ref 41)]),#[]⟩,tu [(.ref 41)],⟨(.type "builtin_function_or_method"),none,(.fields #[(.builtin "type.__prepare__"),(.type "type")]),#[]⟩,⟨(.type "dict"),none,(.dict #[en P "__module__" 236 (.str "duskbook.errors" 209),en P "__qualname__" 238 (.str "NoBook" 237),en P "__firstlineno__" 240 (.int (18) 239),en P "__static_attributes__" 241 (.ref 52)] 4),#[]⟩,tu [],fl,⟨(.type "code"),none,(.fields #[(.str "NoBook" 231),(.str "NoBook" 232),(.str "/claim/cut.py" 233),(.int (18) 0),(.int (0) 0),(.int (0) 0),(.int (0) 0),(.int (0) 0),(.ref 48),(.bool false),(.int (181) 0),(.ref 49),.none,.none,.none,.none,(.int (234) 0),(.int (18) 0),(.str "/claim/cut.py" 235)]),#[]⟩,⟨(.type "frame"),none,.plain,#[(some (.ref 50)),(some (.ref 3)),(some (.ref 47)),none,(some (.str "duskbook.errors" 209)),none,(some (.ref 0))]⟩,tu [],⟨(.type "dict"),none,(.dict #[en P "__module__" 236 (.str "duskbook.errors" 209),en P "__firstlineno__" 240 (.int (18) 239),en P "__static_attributes__" 241 (.ref 52),en P "__doc__" 242 .none] 2),#[]⟩,⟨(.type "type"),none,(.cls ⟨"NoBook",[(.ref 41)],[(.ref 54),(.ref 41),(.type "ValueError"),(.type "Exception"),(.type "BaseException"),(.type "object")],53,"NoBook",true,[],[],false,none,false⟩),#[(some (.ref 45)),none,(some (.str "NoBook" 229)),(some (.str "NoBook" 237)),(some (.builtin "ValueError.__new__")),(some (.bool true))]⟩,⟨(.type "super"),none,(.fields #[(.ref 54),(.ref 54),(.ref 54)]),#[]⟩,⟨(.type "builtin_function_or_method"),none,(.fields #[(.builtin "object.__init_subclass__"),(.ref 54)]),#[]⟩,tu [(.ref 41)],⟨(.type "builtin_function_or_method"),none,(.fields #[(.builtin "type.__prepare__"),(.type "type")]),#[]⟩,⟨(.type "dict"),none,(.dict #[en P "__module__" 252 (.str "duskbook.errors" 209),en P "__qualname__" 254 (.str "NoHands" 253),en P "__firstlineno__" 256 (.int (20) 255),en P "__static_attributes__" 257 (.ref 64)] 4),#[]⟩,tu [],fl,⟨(.type "code"),none,(.fields #[(.str "NoHands" 247),(.str "NoHands" 248),(.str "/claim/cut.py" 249),(.int (20) 0),(.int (0) 0),(.int (0) 0),(.int (0) 0),(.int (0) 0),(.ref 60),(.bool false),(.int (181) 0),(.ref 61),.none,.none,.none,.none,(.int (250) 0),(.int (20) 0),(.str "/claim/cut.py" 251)]),#[]⟩,⟨(.type "frame"),none,.plain,#[(some (.ref 62)),(some (.ref 3)),(some (.ref 59)),none,(some (.str "duskbook.errors" 209)),none,(some (.ref 0))]⟩,tu [],⟨(.type "dict"),none,(.dict #[en P "__module__" 252 (.str "duskbook.errors" 209),en P "__firstlineno__" 256 (.int (20) 255),en P "__static_attributes__" 257 (.ref 64),en P "__doc__" 258 .none] 2),#[]⟩,⟨(.type "type"),none,(.cls ⟨"NoHands",[(.ref 41)],[(.ref 66),(.ref 41),(.type "ValueError"),(.type "Exception"),(.type "BaseException"),(.type "object")],65,"NoHands",true,[],[],false,none,false⟩),#[(some (.ref 57)),none,(some (.str "NoHands" 245)),(some (.str "NoHands" 253)),(some (.builtin "ValueError.__new__")),(some (.bool true))]⟩,⟨(.type "super"),none,(.fields #[(.ref 66),(.ref 66),(.ref 66)]),#[]⟩,⟨(.type "builtin_function_or_method"),none,(.fields #[(.builtin "object.__init_subclass__"),(.ref 66)]),#[]⟩,tu [(.ref 41)],⟨(.type "builtin_function_or_method"),none,(.fields #[(.builtin "type.__prepare__"),(.type "type")]),#[]⟩,⟨(.type "dict"),none,(.dict #[en P "__module__" 268 (.str "duskbook.errors" 209),en P "__qualname__" 270 (.str "Over" 269),en P "__firstlineno__" 272 (.int (22) 271),en P "__static_attributes__" 273 (.ref 76)] 4),#[]⟩]++([tu [],fl,⟨(.type "code"),none,(.fields #[(.str "Over" 263),(.str "Over" 264),(.str "/claim/cut.py" 265),(.int (22) 0),(.int (0) 0),(.int (0) 0),(.int (0) 0),(.int (0) 0),(.ref 72),(.bool false),(.int (181) 0),(.ref 73),.none,.none,.none,.none,(.int (266) 0),(.int (22) 0),(.str "/claim/cut.py" 267)]),#[]⟩,⟨(.type "frame"),none,.plain,#[(some (.ref 74)),(some (.ref 3)),(some (.ref 71)),none,(some (.str "duskbook.errors" 209)),none,(some (.ref 0))]⟩,tu [],⟨(.type "dict"),none,(.dict #[en P "__module__" 268 (.str "duskbook.errors" 209),en P "__firstlineno__" 272 (.int (22) 271),en P "__static_attributes__" 273 (.ref 76),en P "__doc__" 274 .none] 2),#[]⟩,⟨(.type "type"),none,(.cls ⟨"Over",[(.ref 41)],[(.ref 78),(.ref 41),(.type "ValueError"),(.type "Exception"),(.type "BaseException"),(.type "object")],77,"Over",true,[],[],false,none,false⟩),#[(some (.ref 69)),none,(some (.str "Over" 261)),(some (.str "Over" 269)),(some (.builtin "ValueError.__new__")),(some (.bool true))]⟩,⟨(.type "super"),none,(.fields #[(.ref 78),(.ref 78),(.ref 78)]),#[]⟩,⟨(.type "builtin_function_or_method"),none,(.fields #[(.builtin "object.__init_subclass__"),(.ref 78)]),#[]⟩,tu [(.ref 41)],⟨(.type "builtin_function_or_method"),none,(.fields #[(.builtin "type.__prepare__"),(.type "type")]),#[]⟩,⟨(.type "dict"),none,(.dict #[en P "__module__" 284 (.str "duskbook.errors" 209),en P "__qualname__" 286 (.str "NoLight" 285),en P "__firstlineno__" 288 (.int (24) 287),en P "__static_attributes__" 289 (.ref 88)] 4),#[]⟩,tu [],fl,⟨(.type "code"),none,(.fields #[(.str "NoLight" 279),(.str "NoLight" 280),(.str "/claim/cut.py" 281),(.int (24) 0),(.int (0) 0),(.int (0) 0),(.int (0) 0),(.int (0) 0),(.ref 84),(.bool false),(.int (181) 0),(.ref 85),.none,.none,.none,.none,(.int (282) 0),(.int (24) 0),(.str "/claim/cut.py" 283)]),#[]⟩,⟨(.type "frame"),none,.plain,#[(some (.ref 86)),(some (.ref 3)),(some (.ref 83)),none,(some (.str "duskbook.errors" 209)),none,(some (.ref 0))]⟩,tu [],⟨(.type "dict"),none,(.dict #[en P "__module__" 284 (.str "duskbook.errors" 209),en P "__firstlineno__" 288 (.int (24) 287),en P "__static_attributes__" 289 (.ref 88),en P "__doc__" 290 .none] 2),#[]⟩,⟨(.type "type"),none,(.cls ⟨"NoLight",[(.ref 41)],[(.ref 90),(.ref 41),(.type "ValueError"),(.type "Exception"),(.type "BaseException"),(.type "object")],89,"NoLight",true,[],[],false,none,false⟩),#[(some (.ref 81)),none,(some (.str "NoLight" 277)),(some (.str "NoLight" 285)),(some (.builtin "ValueError.__new__")),(some (.bool true))]⟩,⟨(.type "super"),none,(.fields #[(.ref 90),(.ref 90),(.ref 90)]),#[]⟩,⟨(.type "builtin_function_or_method"),none,(.fields #[(.builtin "object.__init_subclass__"),(.ref 90)]),#[]⟩,tu [(.ref 41)],⟨(.type "builtin_function_or_method"),none,(.fields #[(.builtin "type.__prepare__"),(.type "type")]),#[]⟩,⟨(.type "dict"),none,(.dict #[en P "__module__" 300 (.str "duskbook.errors" 209),en P "__qualname__" 302 (.str "NoneSettled" 301),en P "__firstlineno__" 304 (.int (26) 303),en P "__static_attributes__" 305 (.ref 100)] 4),#[]⟩,tu [],fl,⟨(.type "code"),none,(.fields #[(.str "NoneSettled" 295),(.str "NoneSettled" 296),(.str "/claim/cut.py" 297),(.int (26) 0),(.int (0) 0),(.int (0) 0),(.int (0) 0),(.int (0) 0),(.ref 96),(.bool false),(.int (181) 0),(.ref 97),.none,.none,.none,.none,(.int (298) 0),(.int (26) 0),(.str "/claim/cut.py" 299)]),#[]⟩,⟨(.type "frame"),none,.plain,#[(some (.ref 98)),(some (.ref 3)),(some (.ref 95)),none,(some (.str "duskbook.errors" 209)),none,(some (.ref 0))]⟩,tu [],⟨(.type "dict"),none,(.dict #[en P "__module__" 300 (.str "duskbook.errors" 209),en P "__firstlineno__" 304 (.int (26) 303),en P "__static_attributes__" 305 (.ref 100),en P "__doc__" 306 .none] 2),#[]⟩,⟨(.type "type"),none,(.cls ⟨"NoneSettled",[(.ref 41)],[(.ref 102),(.ref 41),(.type "ValueError"),(.type "Exception"),(.type "BaseException"),(.type "object")],101,"NoneSettled",true,[],[],false,none,false⟩),#[(some (.ref 93)),none,(some (.str "NoneSettled" 293)),(some (.str "NoneSettled" 301)),(some (.builtin "ValueError.__new__")),(some (.bool true))]⟩,⟨(.type "super"),none,(.fields #[(.ref 102),(.ref 102),(.ref 102)]),#[]⟩,⟨(.type "builtin_function_or_method"),none,(.fields #[(.builtin "object.__init_subclass__"),(.ref 102)]),#[]⟩,tu [(.ref 41)],⟨(.type "builtin_function_or_method"),none,(.fields #[(.builtin "type.__prepare__"),(.type "type")]),#[]⟩,⟨(.type "dict"),none,(.dict #[en P "__module__" 316 (.str "duskbook.errors" 209),en P "__qualname__" 318 (.str "NoTable" 317),en P "__firstlineno__" 320 (.int (28) 319),en P "__static_attributes__" 321 (.ref 112)] 4),#[]⟩,tu [],fl,⟨(.type "code"),none,(.fields #[(.str "NoTable" 311),(.str "NoTable" 312),(.str "/claim/cut.py" 313),(.int (28) 0),(.int (0) 0),(.int (0) 0),(.int (0) 0),(.int (0) 0),(.ref 108),(.bool false),(.int (181) 0),(.ref 109),.none,.none,.none,.none,(.int (314) 0),(.int (28) 0),(.str "/claim/cut.py" 315)]),#[]⟩,⟨(.type "frame"),none,.plain,#[(some (.ref 110)),(some (.ref 3)),(some (.ref 107)),none,(some (.str "duskbook.errors" 209)),none,(some (.ref 0))]⟩]++([tu [],⟨(.type "dict"),none,(.dict #[en P "__module__" 316 (.str "duskbook.errors" 209),en P "__firstlineno__" 320 (.int (28) 319),en P "__static_attributes__" 321 (.ref 112),en P "__doc__" 322 .none] 2),#[]⟩,⟨(.type "type"),none,(.cls ⟨"NoTable",[(.ref 41)],[(.ref 114),(.ref 41),(.type "ValueError"),(.type "Exception"),(.type "BaseException"),(.type "object")],113,"NoTable",true,[],[],false,none,false⟩),#[(some (.ref 105)),none,(some (.str "NoTable" 309)),(some (.str "NoTable" 317)),(some (.builtin "ValueError.__new__")),(some (.bool true))]⟩,⟨(.type "super"),none,(.fields #[(.ref 114),(.ref 114),(.ref 114)]),#[]⟩,⟨(.type "builtin_function_or_method"),none,(.fields #[(.builtin "object.__init_subclass__"),(.ref 114)]),#[]⟩,tu [(.ref 41)],⟨(.type "builtin_function_or_method"),none,(.fields #[(.builtin "type.__prepare__"),(.type "type")]),#[]⟩,⟨(.type "dict"),none,(.dict #[en P "__module__" 332 (.str "duskbook.errors" 209),en P "__qualname__" 334 (.str "NoPage" 333),en P "__firstlineno__" 336 (.int (30) 335),en P "__static_attributes__" 337 (.ref 124)] 4),#[]⟩,tu [],fl,⟨(.type "code"),none,(.fields #[(.str "NoPage" 327),(.str "NoPage" 328),(.str "/claim/cut.py" 329),(.int (30) 0),(.int (0) 0),(.int (0) 0),(.int (0) 0),(.int (0) 0),(.ref 120),(.bool false),(.int (181) 0),(.ref 121),.none,.none,.none,.none,(.int (330) 0),(.int (30) 0),(.str "/claim/cut.py" 331)]),#[]⟩,⟨(.type "frame"),none,.plain,#[(some (.ref 122)),(some (.ref 3)),(some (.ref 119)),none,(some (.str "duskbook.errors" 209)),none,(some (.ref 0))]⟩,tu [],⟨(.type "dict"),none,(.dict #[en P "__module__" 332 (.str "duskbook.errors" 209),en P "__firstlineno__" 336 (.int (30) 335),en P "__static_attributes__" 337 (.ref 124),en P "__doc__" 338 .none] 2),#[]⟩,⟨(.type "type"),none,(.cls ⟨"NoPage",[(.ref 41)],[(.ref 126),(.ref 41),(.type "ValueError"),(.type "Exception"),(.type "BaseException"),(.type "object")],125,"NoPage",true,[],[],false,none,false⟩),#[(some (.ref 117)),none,(some (.str "NoPage" 325)),(some (.str "NoPage" 333)),(some (.builtin "ValueError.__new__")),(some (.bool true))]⟩,⟨(.type "super"),none,(.fields #[(.ref 126),(.ref 126),(.ref 126)]),#[]⟩,⟨(.type "builtin_function_or_method"),none,(.fields #[(.builtin "object.__init_subclass__"),(.ref 126)]),#[]⟩,tu [(.ref 41)],⟨(.type "builtin_function_or_method"),none,(.fields #[(.builtin "type.__prepare__"),(.type "type")]),#[]⟩,⟨(.type "dict"),none,(.dict #[en P "__module__" 348 (.str "duskbook.errors" 209),en P "__qualname__" 350 (.str "NoPaper" 349),en P "__firstlineno__" 352 (.int (32) 351),en P "__static_attributes__" 353 (.ref 136)] 4),#[]⟩,tu [],fl,⟨(.type "code"),none,(.fields #[(.str "NoPaper" 343),(.str "NoPaper" 344),(.str "/claim/cut.py" 345),(.int (32) 0),(.int (0) 0),(.int (0) 0),(.int (0) 0),(.int (0) 0),(.ref 132),(.bool false),(.int (181) 0),(.ref 133),.none,.none,.none,.none,(.int (346) 0),(.int (32) 0),(.str "/claim/cut.py" 347)]),#[]⟩,⟨(.type "frame"),none,.plain,#[(some (.ref 134)),(some (.ref 3)),(some (.ref 131)),none,(some (.str "duskbook.errors" 209)),none,(some (.ref 0))]⟩,tu [],⟨(.type "dict"),none,(.dict #[en P "__module__" 348 (.str "duskbook.errors" 209),en P "__firstlineno__" 352 (.int (32) 351),en P "__static_attributes__" 353 (.ref 136),en P "__doc__" 354 .none] 2),#[]⟩,⟨(.type "type"),none,(.cls ⟨"NoPaper",[(.ref 41)],[(.ref 138),(.ref 41),(.type "ValueError"),(.type "Exception"),(.type "BaseException"),(.type "object")],137,"NoPaper",true,[],[],false,none,false⟩),#[(some (.ref 129)),none,(some (.str "NoPaper" 341)),(some (.str "NoPaper" 349)),(some (.builtin "ValueError.__new__")),(some (.bool true))]⟩,⟨(.type "super"),none,(.fields #[(.ref 138),(.ref 138),(.ref 138)]),#[]⟩,⟨(.type "builtin_function_or_method"),none,(.fields #[(.builtin "object.__init_subclass__"),(.ref 138)]),#[]⟩,tu [(.str "eithers" 359),(.str "sums" 360),(.str "ifs" 361),(.str "nots" 362)]]++(dG "is_beacon" 19 39 1 370 142 p1 181 [(.str "thing" 373)]++(dG "checked_beacon" 20 41 1 377 149 p1 181 [(.str "thing" 380)]++(dG "checked_truth" 21 45 1 384 156 p1 181 [(.str "thing" 387)]++(dF "checked_beacons" 22 49 1 391 163 p1 181++(dF "either_made" 23 54 1 397 168 p1 181++(dG "sum_made" 24 61 1 403 173 p1 181 [(.str "rule" 406)]++(dG "if_made" 25 63 1 410 180 p1 181 [(.str "rule" 413),(.str "head" 414)]++(dG "rule_made" 26 68 2 418 187 p1 181 [(.str "kind" 421),(.str "rule" 422)]++(dF "book_made" 27 74 2 426 194 p1 181++(dF "either_holds" 28 80 2 432 199 p1 181++(dF "sum_holds" 29 82 2 438 204 p1 181++(dF "if_holds" 30 85 3 444 209 p1 181++(dG "rule_holds" 31 89 3 450 214 p1 181 [(.str "kind" 453),(.str "rule" 454),(.str "evening" 455)]++(dF "broken_rules" 32 95 2 459 221 p1 181++(dG "holds" 33 97 2 465 226 p1 181 [(.str "book" 468),(.str "evening" 469)]++([⟨(.type "dict"),none,(.dict #[en P "eithers" 477 (.int (3) 478),en P "sums" 479 (.int (3) 480),en P "ifs" 481 (.int (2) 482),en P "nots" 483 (.int (2) 484)] 4),#[]⟩]++(dG "is_length" 37 102 1 490 234 p2 181 [(.str "thing" 493)]++(dF "check_table" 38 104 2 497 241 p2 181))))))))))))))))))))))))
noncomputable def al1(P:Params):List Obj:=dF "all_evenings" 39 109 1 503 246 p2 181++(dF "groups_of" 40 114 2 509 251 p2 181++(dG "small_groups" 41 121 2 515 256 p2 181 [(.str "things" 518),(.str "most" 519),(.str "groups" 520),(.str "count" 521)]++(dF "eithers_over" 42 126 1 525 263 p2 181++(dF "rules_over" 43 129 2 531 268 p2 181++(dF "holds_on_all" 44 138 3 537 273 p2 181++(dF "book_of" 45 140 3 543 278 p2 181++(dG "lacking_blend" 46 149 2 549 283 p2 181 [(.str "kind" 552),(.str "table" 553),(.str "group" 554)]++(dF "table_told" 47 154 3 558 290 p2 181++(dG "_law_cell" 49 162 2 566 295 p3 181 [(.str "script" 569),(.str "k" 570)]++(dG "_law_mixed" 50 166 2 574 302 p3 181 [(.str "cell" 577),(.str "by" 578)]++(dG "_law_kind" 51 168 1 582 309 p3 181 [(.str "cell" 585)]++(dG "_law_bits" 52 170 2 589 316 p3 181 [(.str "cell" 592),(.str "many" 593),(.str "left" 594),(.str "bits" 595),(.str "k" 596)]++(dF "_law_all" 53 177 1 600 323 p3 181++(dG "_law_kinds" 54 182 3 606 328 p3 181 [(.str "kind" 609),(.str "length" 610),(.str "evenings" 611),(.str "kinds" 612),(.str "e" 613),(.str "some" 614),(.str "more" 615)]++(dG "_law_no_length" 55 191 1 619 335 p3 181 [(.str "cell" 622),(.str "far" 623)]++(dG "_law_book_of" 56 194 3 627 342 p3 181 [(.str "kind" 630),(.str "length" 631),(.str "evenings" 632),(.str "found" 633)]++(dF "law" 57 199 1 637 349 p3 181)))))))))))))))))
noncomputable def al(P:Params):List Obj:=al0 P++al1 P
noncomputable def upd(l:List (Nat × Obj))(xs:List Obj):List Obj:=l.foldl (fun xs p=>xs.set p.1 p.2) xs
noncomputable def ev:List Obj->List Obj
 | []=>[]
 | [x]=>[x]
 | x::_::r=>x::ev r
noncomputable def bt:Nat->List Obj->BT
 | 0,_=>.nil
 | _+1,[]=>.nil
 | n+1,x::xs=>.node x (bt n (ev xs)) (bt n (ev xs.tail))
noncomputable abbrev bd:List Stmt:=behindTheImports pg
noncomputable abbrev sl(i n:Nat):List Stmt:=(bd.drop i).take n
noncomputable abbrev env:Env:={ scope:=pg.main.scope,locals:=mainNs,globals:=mainNs,cells:=[],code:=(.ref 13),frame:=some 14 }
noncomputable abbrev cE:Code:=.body bd env
noncomputable abbrev B:List Frame:=[topFrame ⟨0,0,0,0⟩]
noncomputable abbrev ss(n:Nat)(l:Params->List (Nat × Obj))(t:Nat)(w:World)(os:OsState):SharedT:=⟨bt 12 (upd (l w.params) ((al w.params).take n)),n,{},.mk [],boot_drawn,t,os⟩
noncomputable def h0(P:Params):Heap:=⟨⟨upd [(3,boot_o_3 P),(12,fl)] ((al P).take 15)⟩,{}⟩
noncomputable abbrev s0(w:World)(os:OsState):Shared:=⟨h0 w.params,.mk [],boot_drawn,187,os⟩
noncomputable abbrev s1:World->OsState->SharedT:=ss 15 (fun P=>[(3,boot_o_3 P),(12,fl)]) 187
noncomputable abbrev s2:World->OsState->SharedT:=ss 45 (fun P=>[(3,ns P (en P "__name__" 165 (.str "duskbook.errors" 209)) 12 13),(12,ft 12),(41,⟨(.type "type"),none,(.cls ⟨"DuskError",[(.type "ValueError")],[(.ref 41),(.type "ValueError"),(.type "Exception"),(.type "BaseException"),(.type "object")],40,"DuskError",true,[],[],false,none,false⟩),#[(some (.ref 32)),none,(some (.str "DuskError" 211)),(some (.str "DuskError" 219)),(some (.builtin "ValueError.__new__")),(some (.bool true))]⟩)]) 229
noncomputable abbrev s3:World->OsState->SharedT:=ss 57 (fun P=>[(3,ns P (en P "__name__" 165 (.str "duskbook.errors" 209)) 13 14),(12,ft 15),(41,⟨(.type "type"),none,(.cls ⟨"DuskError",[(.type "ValueError")],[(.ref 41),(.type "ValueError"),(.type "Exception"),(.type "BaseException"),(.type "object")],40,"DuskError",true,[],[(.ref 54)],false,none,false⟩),#[(some (.ref 32)),none,(some (.str "DuskError" 211)),(some (.str "DuskError" 219)),(some (.builtin "ValueError.__new__")),(some (.bool true))]⟩)]) 245
noncomputable abbrev s4:World->OsState->SharedT:=ss 69 (fun P=>[(3,ns P (en P "__name__" 165 (.str "duskbook.errors" 209)) 14 15),(12,ft 18),(41,⟨(.type "type"),none,(.cls ⟨"DuskError",[(.type "ValueError")],[(.ref 41),(.type "ValueError"),(.type "Exception"),(.type "BaseException"),(.type "object")],40,"DuskError",true,[],[(.ref 54),(.ref 66)],false,none,false⟩),#[(some (.ref 32)),none,(some (.str "DuskError" 211)),(some (.str "DuskError" 219)),(some (.builtin "ValueError.__new__")),(some (.bool true))]⟩)]) 261
noncomputable abbrev s5:World->OsState->SharedT:=ss 81 (fun P=>[(3,ns P (en P "__name__" 165 (.str "duskbook.errors" 209)) 15 16),(12,ft 21),(41,⟨(.type "type"),none,(.cls ⟨"DuskError",[(.type "ValueError")],[(.ref 41),(.type "ValueError"),(.type "Exception"),(.type "BaseException"),(.type "object")],40,"DuskError",true,[],[(.ref 54),(.ref 66),(.ref 78)],false,none,false⟩),#[(some (.ref 32)),none,(some (.str "DuskError" 211)),(some (.str "DuskError" 219)),(some (.builtin "ValueError.__new__")),(some (.bool true))]⟩)]) 277
noncomputable abbrev s6:World->OsState->SharedT:=ss 93 (fun P=>[(3,ns P (en P "__name__" 165 (.str "duskbook.errors" 209)) 16 17),(12,ft 24),(41,⟨(.type "type"),none,(.cls ⟨"DuskError",[(.type "ValueError")],[(.ref 41),(.type "ValueError"),(.type "Exception"),(.type "BaseException"),(.type "object")],40,"DuskError",true,[],[(.ref 54),(.ref 66),(.ref 78),(.ref 90)],false,none,false⟩),#[(some (.ref 32)),none,(some (.str "DuskError" 211)),(some (.str "DuskError" 219)),(some (.builtin "ValueError.__new__")),(some (.bool true))]⟩)]) 293
noncomputable abbrev s7:World->OsState->SharedT:=ss 105 (fun P=>[(3,ns P (en P "__name__" 165 (.str "duskbook.errors" 209)) 17 18),(12,ft 27),(41,⟨(.type "type"),none,(.cls ⟨"DuskError",[(.type "ValueError")],[(.ref 41),(.type "ValueError"),(.type "Exception"),(.type "BaseException"),(.type "object")],40,"DuskError",true,[],[(.ref 54),(.ref 66),(.ref 78),(.ref 90),(.ref 102)],false,none,false⟩),#[(some (.ref 32)),none,(some (.str "DuskError" 211)),(some (.str "DuskError" 219)),(some (.builtin "ValueError.__new__")),(some (.bool true))]⟩)]) 309
noncomputable abbrev s8:World->OsState->SharedT:=ss 117 (fun P=>[(3,ns P (en P "__name__" 165 (.str "duskbook.errors" 209)) 18 19),(12,ft 30),(41,⟨(.type "type"),none,(.cls ⟨"DuskError",[(.type "ValueError")],[(.ref 41),(.type "ValueError"),(.type "Exception"),(.type "BaseException"),(.type "object")],40,"DuskError",true,[],[(.ref 54),(.ref 66),(.ref 78),(.ref 90),(.ref 102),(.ref 114)],false,none,false⟩),#[(some (.ref 32)),none,(some (.str "DuskError" 211)),(some (.str "DuskError" 219)),(some (.builtin "ValueError.__new__")),(some (.bool true))]⟩)]) 325
noncomputable abbrev s9:World->OsState->SharedT:=ss 129 (fun P=>[(3,ns P (en P "__name__" 165 (.str "duskbook.errors" 209)) 19 20),(12,ft 33),(41,⟨(.type "type"),none,(.cls ⟨"DuskError",[(.type "ValueError")],[(.ref 41),(.type "ValueError"),(.type "Exception"),(.type "BaseException"),(.type "object")],40,"DuskError",true,[],[(.ref 54),(.ref 66),(.ref 78),(.ref 90),(.ref 102),(.ref 114),(.ref 126)],false,none,false⟩),#[(some (.ref 32)),none,(some (.str "DuskError" 211)),(some (.str "DuskError" 219)),(some (.builtin "ValueError.__new__")),(some (.bool true))]⟩)]) 341
noncomputable abbrev s10:World->OsState->SharedT:=ss 168 (fun P=>[(3,ns P (en P "__name__" 165 (.str "duskbook.books" 357)) 28 29),(12,ft 48)]) 397
noncomputable abbrev s11:World->OsState->SharedT:=ss 234 (fun P=>[(3,ns P (en P "__name__" 165 (.str "duskbook.tables" 473)) 41 42),(12,ft 81)]) 490
noncomputable abbrev s12:World->OsState->SharedT:=ss 316 (fun P=>[(3,ns P (en P "__name__" 165 (.str "law_duskbook_k54_tables_refused" 564)) 55 56),(12,ft 123)]) 589
noncomputable abbrev s13:World->OsState->SharedT:=ss 354 (fun P=>[]) 643
noncomputable def h14(P:Params):Heap:=⟨⟨upd [] ((al P).take 354)⟩,{}⟩
noncomputable abbrev s14(w:World)(os:OsState):Shared:=⟨h14 w.params,.mk [],boot_drawn,643,os⟩
noncomputable abbrev sz(w:World)(os:OsState):Shared:=⟨boot_heap w.params,.mk [],boot_drawn,boot_toks,os⟩
theorem e0:∀w:World,(fun os=>topGo treeTable pg w 11 (some (.ref 6)) 12 (sz w os) (topStub pg))=fun os=>some (s0 w os,⟨denote treeTable cE,cE,⟨0,0,0,0⟩,B⟩):=by
 rw[W.Fast.te15667345088766844465,W.Fast.te14364793385576792824,W.Fast.te11892475500146522536];intro w;kernel_rfl
theorem e1:∀w:World,(fun os=>segRun treeTable pg w 11 (some (.ref 6)) 1 1 (s0 w os) (blockOf bd env cE ⟨0,0,0,0⟩ B))=fun os=>some (.next,(s1 w os).abs,cE,⟨0,0,0,0⟩):=by
 rw[W.Fast.te14374325043358763698,W.Fast.te14364793385576792824];intro w;kernel_rfl
theorem e2:∀w:World,(fun os=>segRunT treeTable pg w 11 (some (.ref 6)) 1 287 (s1 w os) (piecesOf (sl 0 6) env cE ⟨0,0,0,0⟩ B))=fun os=>some (.next,s2 w os,cE,⟨16,0,17,8⟩):=by
 rw[W.Fast.te10110043849684766642,W.Fast.te14364793385576792824];intro w;kernel_rfl
theorem e3:∀w:World,(fun os=>segRunT treeTable pg w 11 (some (.ref 6)) 1 214 (s2 w os) (piecesOf (sl 6 1) env cE ⟨16,0,17,8⟩ B))=fun os=>some (.next,s3 w os,cE,⟨18,0,19,8⟩):=by
 rw[W.Fast.te10110043849684766642,W.Fast.te14364793385576792824];intro w;kernel_rfl
theorem e4:∀w:World,(fun os=>segRunT treeTable pg w 11 (some (.ref 6)) 1 214 (s3 w os) (piecesOf (sl 7 1) env cE ⟨18,0,19,8⟩ B))=fun os=>some (.next,s4 w os,cE,⟨20,0,21,8⟩):=by
 rw[W.Fast.te10110043849684766642,W.Fast.te14364793385576792824];intro w;kernel_rfl
theorem e5:∀w:World,(fun os=>segRunT treeTable pg w 11 (some (.ref 6)) 1 214 (s4 w os) (piecesOf (sl 8 1) env cE ⟨20,0,21,8⟩ B))=fun os=>some (.next,s5 w os,cE,⟨22,0,23,8⟩):=by
 rw[W.Fast.te10110043849684766642,W.Fast.te14364793385576792824];intro w;kernel_rfl
theorem e6:∀w:World,(fun os=>segRunT treeTable pg w 11 (some (.ref 6)) 1 214 (s5 w os) (piecesOf (sl 9 1) env cE ⟨22,0,23,8⟩ B))=fun os=>some (.next,s6 w os,cE,⟨24,0,25,8⟩):=by
 rw[W.Fast.te10110043849684766642,W.Fast.te14364793385576792824];intro w;kernel_rfl
theorem e7:∀w:World,(fun os=>segRunT treeTable pg w 11 (some (.ref 6)) 1 214 (s6 w os) (piecesOf (sl 10 1) env cE ⟨24,0,25,8⟩ B))=fun os=>some (.next,s7 w os,cE,⟨26,0,27,8⟩):=by
 rw[W.Fast.te10110043849684766642,W.Fast.te14364793385576792824];intro w;kernel_rfl
theorem e8:∀w:World,(fun os=>segRunT treeTable pg w 11 (some (.ref 6)) 1 214 (s7 w os) (piecesOf (sl 11 1) env cE ⟨26,0,27,8⟩ B))=fun os=>some (.next,s8 w os,cE,⟨28,0,29,8⟩):=by
 rw[W.Fast.te10110043849684766642,W.Fast.te14364793385576792824];intro w;kernel_rfl
theorem e9:∀w:World,(fun os=>segRunT treeTable pg w 11 (some (.ref 6)) 1 214 (s8 w os) (piecesOf (sl 12 1) env cE ⟨28,0,29,8⟩ B))=fun os=>some (.next,s9 w os,cE,⟨30,0,31,8⟩):=by
 rw[W.Fast.te10110043849684766642,W.Fast.te14364793385576792824];intro w;kernel_rfl
theorem e10:∀w:World,(fun os=>segRunT treeTable pg w 11 (some (.ref 6)) 1 377 (s9 w os) (piecesOf (sl 13 10) env cE ⟨30,0,31,8⟩ B))=fun os=>some (.next,s10 w os,cE,⟨49,0,53,33⟩):=by
 rw[W.Fast.te10110043849684766642,W.Fast.te14364793385576792824];intro w;kernel_rfl
theorem e11:∀w:World,(fun os=>segRunT treeTable pg w 11 (some (.ref 6)) 1 395 (s10 w os) (piecesOf (sl 23 14) env cE ⟨49,0,53,33⟩ B))=fun os=>some (.next,s11 w os,cE,⟨101,0,101,14⟩):=by
 rw[W.Fast.te10110043849684766642,W.Fast.te14364793385576792824];refine byRow2 "special-get-raises" ?_ ?_<;>(intro w;kernel_rfl)
theorem e12:∀w:World,(fun os=>segRunT treeTable pg w 11 (some (.ref 6)) 1 399 (s11 w os) (piecesOf (sl 37 15) env cE ⟨101,0,101,14⟩ B))=fun os=>some (.next,s12 w os,cE,⟨168,0,169,55⟩):=by
 rw[W.Fast.te10110043849684766642,W.Fast.te14364793385576792824];intro w;kernel_rfl
theorem e13:∀w:World,(fun os=>segRunT treeTable pg w 11 (some (.ref 6)) 1 183 (s12 w os) (piecesOf (sl 52 6) env cE ⟨168,0,169,55⟩ B))=fun os=>some (.next,s13 w os,cE,⟨199,0,230,15⟩):=by
 rw[W.Fast.te10110043849684766642,W.Fast.te14364793385576792824];intro w;kernel_rfl
theorem e14:∀w:World,(fun os=>topRun treeTable pg w 11 (some (.ref 6)) 2 (s13 w os).abs ⟨doneF .next,cE,⟨199,0,230,15⟩,B⟩)=fun os=>some (s14 w os):=by
 rw[W.Fast.te14082659384304107361,W.Fast.te14364793385576792824];intro w;kernel_rfl
noncomputable abbrev m14:Nat:=2
noncomputable abbrev t14:List Stmt:=[]
noncomputable abbrev R(w:World)(os:OsState)(m:Nat)(s:Shared)(t:List Stmt)(p:Pos):Prop:=topRun treeTable pg w 11 (some (.ref 6)) m s (restOf t env cE p B)=some (s14 w os)
theorem r14(w:World)(os:OsState):R w os m14 (s13 w os).abs t14 ⟨199,0,230,15⟩:=congrFun (e14 w) os
noncomputable abbrev m13:Nat:=183+m14
noncomputable abbrev t13:List Stmt:=sl 52 6++t14
theorem r13(w:World)(os:OsState):R w os m13 (s12 w os).abs t13 ⟨168,0,169,55⟩:=piece_app (segRun_of (congrFun (e13 w) os)) (r14 w os)
noncomputable abbrev m12:Nat:=399+m13
noncomputable abbrev t12:List Stmt:=sl 37 15++t13
theorem r12(w:World)(os:OsState):R w os m12 (s11 w os).abs t12 ⟨101,0,101,14⟩:=piece_app (segRun_of (congrFun (e12 w) os)) (r13 w os)
noncomputable abbrev m11:Nat:=395+m12
noncomputable abbrev t11:List Stmt:=sl 23 14++t12
theorem r11(w:World)(os:OsState):R w os m11 (s10 w os).abs t11 ⟨49,0,53,33⟩:=piece_app (segRun_of (congrFun (e11 w) os)) (r12 w os)
noncomputable abbrev m10:Nat:=377+m11
noncomputable abbrev t10:List Stmt:=sl 13 10++t11
theorem r10(w:World)(os:OsState):R w os m10 (s9 w os).abs t10 ⟨30,0,31,8⟩:=piece_app (segRun_of (congrFun (e10 w) os)) (r11 w os)
noncomputable abbrev m9:Nat:=214+m10
noncomputable abbrev t9:List Stmt:=sl 12 1++t10
theorem r9(w:World)(os:OsState):R w os m9 (s8 w os).abs t9 ⟨28,0,29,8⟩:=piece_app (segRun_of (congrFun (e9 w) os)) (r10 w os)
noncomputable abbrev m8:Nat:=214+m9
noncomputable abbrev t8:List Stmt:=sl 11 1++t9
theorem r8(w:World)(os:OsState):R w os m8 (s7 w os).abs t8 ⟨26,0,27,8⟩:=piece_app (segRun_of (congrFun (e8 w) os)) (r9 w os)
noncomputable abbrev m7:Nat:=214+m8
noncomputable abbrev t7:List Stmt:=sl 10 1++t8
theorem r7(w:World)(os:OsState):R w os m7 (s6 w os).abs t7 ⟨24,0,25,8⟩:=piece_app (segRun_of (congrFun (e7 w) os)) (r8 w os)
noncomputable abbrev m6:Nat:=214+m7
noncomputable abbrev t6:List Stmt:=sl 9 1++t7
theorem r6(w:World)(os:OsState):R w os m6 (s5 w os).abs t6 ⟨22,0,23,8⟩:=piece_app (segRun_of (congrFun (e6 w) os)) (r7 w os)
noncomputable abbrev m5:Nat:=214+m6
noncomputable abbrev t5:List Stmt:=sl 8 1++t6
theorem r5(w:World)(os:OsState):R w os m5 (s4 w os).abs t5 ⟨20,0,21,8⟩:=piece_app (segRun_of (congrFun (e5 w) os)) (r6 w os)
noncomputable abbrev m4:Nat:=214+m5
noncomputable abbrev t4:List Stmt:=sl 7 1++t5
theorem r4(w:World)(os:OsState):R w os m4 (s3 w os).abs t4 ⟨18,0,19,8⟩:=piece_app (segRun_of (congrFun (e4 w) os)) (r5 w os)
noncomputable abbrev m3:Nat:=214+m4
noncomputable abbrev t3:List Stmt:=sl 6 1++t4
theorem r3(w:World)(os:OsState):R w os m3 (s2 w os).abs t3 ⟨16,0,17,8⟩:=piece_app (segRun_of (congrFun (e3 w) os)) (r4 w os)
noncomputable abbrev m2:Nat:=287+m3
noncomputable abbrev t2:List Stmt:=sl 0 6++t3
theorem r2(w:World)(os:OsState):R w os m2 (s1 w os).abs t2 ⟨0,0,0,0⟩:=piece_app (segRun_of (congrFun (e2 w) os)) (r3 w os)
theorem tb:bd=t2:=by kernel_rfl
theorem run(w:World)(os:OsState):topRun treeTable pg w 11 (some (.ref 6)) (12+(1+m2)) (sz w os) (topStub pg)=some (s14 w os):=by
 have r:=r2 w os
 unfold R at r
 rw[<-congrArg (fun x=>restOf x env cE ⟨0,0,0,0⟩ B) tb]at r
 exact go_top (congrFun (e0 w) os) (piece_block (congrFun (e1 w) os) r)
theorem op:∀w:World,(fencedOpening treeTable pg w 6380).map (fun s=>(s.heap,s.gens,s.drawn,s.toks))=some (boot_heap w.params,Array.mk [],boot_drawn,boot_toks):=
 boot_open (by kernel_rfl) (by decide) (fun s=>by kernel_rfl)
theorem size:∀w:World,((boot_heap w.params).isNs mainGlobals&&(Array.mk []:Array GenState).size==0,(boot_heap w.params).objs.size,(boot_heap w.params).nsMap mainGlobals "__annotations__")=(true,11,(some (.ref 6))):=by
 rw[W.Fast.te8920871248978507458];intro w;kernel_rfl
noncomputable def K(P:Params):Frag:=(nat_lit 3,ns P (en P "__name__" 165 (.str "law_duskbook_k54_tables_refused" 564)) 61 62)::(nat_lit 20,oC "blended_light" 189 2 2 15 (.ref 17) (.ref 18) 19 181 194)::(nat_lit 21,oF "blended_light" 1 p0 20)::(nat_lit 25,oC "lit_count_at" 197 10 2 22 .none .none 24 181 200)::(nat_lit 26,oF "lit_count_at" 2 p0 25)::(nat_lit 30,oC "blended" 203 12 2 27 .none .none 29 181 206)::(nat_lit 31,oF "blended" 3 p0 30)::(nat_lit 40,⟨(.type "dict"),none,(.dict #[en P "__module__" 218 (.str "duskbook.errors" 209),en P "__firstlineno__" 222 (.int (16) 221),en P "__static_attributes__" 223 (.ref 39),en P "__weakref__" 225 (.ref 42),en P "__doc__" 226 .none] 3),#[]⟩)::(nat_lit 41,⟨(.type "type"),none,(.cls ⟨"DuskError",[(.type "ValueError")],[(.ref 41),(.type "ValueError"),(.type "Exception"),(.type "BaseException"),(.type "object")],40,"DuskError",true,[],[(.ref 54),(.ref 66),(.ref 78),(.ref 90),(.ref 102),(.ref 114),(.ref 126),(.ref 138)],false,none,false⟩),#[(some (.ref 32)),none,(some (.str "DuskError" 211)),(some (.str "DuskError" 219)),(some (.builtin "ValueError.__new__")),(some (.bool true))]⟩)::(nat_lit 53,⟨(.type "dict"),none,(.dict #[en P "__module__" 236 (.str "duskbook.errors" 209),en P "__firstlineno__" 240 (.int (18) 239),en P "__static_attributes__" 241 (.ref 52),en P "__doc__" 242 .none] 2),#[]⟩)::(nat_lit 54,⟨(.type "type"),none,(.cls ⟨"NoBook",[(.ref 41)],[(.ref 54),(.ref 41),(.type "ValueError"),(.type "Exception"),(.type "BaseException"),(.type "object")],53,"NoBook",true,[],[],false,none,false⟩),#[(some (.ref 45)),none,(some (.str "NoBook" 229)),(some (.str "NoBook" 237)),(some (.builtin "ValueError.__new__")),(some (.bool true))]⟩)::(nat_lit 65,⟨(.type "dict"),none,(.dict #[en P "__module__" 252 (.str "duskbook.errors" 209),en P "__firstlineno__" 256 (.int (20) 255),en P "__static_attributes__" 257 (.ref 64),en P "__doc__" 258 .none] 2),#[]⟩)::(nat_lit 66,⟨(.type "type"),none,(.cls ⟨"NoHands",[(.ref 41)],[(.ref 66),(.ref 41),(.type "ValueError"),(.type "Exception"),(.type "BaseException"),(.type "object")],65,"NoHands",true,[],[],false,none,false⟩),#[(some (.ref 57)),none,(some (.str "NoHands" 245)),(some (.str "NoHands" 253)),(some (.builtin "ValueError.__new__")),(some (.bool true))]⟩)::(nat_lit 77,⟨(.type "dict"),none,(.dict #[en P "__module__" 268 (.str "duskbook.errors" 209),en P "__firstlineno__" 272 (.int (22) 271),en P "__static_attributes__" 273 (.ref 76),en P "__doc__" 274 .none] 2),#[]⟩)::(nat_lit 78,⟨(.type "type"),none,(.cls ⟨"Over",[(.ref 41)],[(.ref 78),(.ref 41),(.type "ValueError"),(.type "Exception"),(.type "BaseException"),(.type "object")],77,"Over",true,[],[],false,none,false⟩),#[(some (.ref 69)),none,(some (.str "Over" 261)),(some (.str "Over" 269)),(some (.builtin "ValueError.__new__")),(some (.bool true))]⟩)::(nat_lit 89,⟨(.type "dict"),none,(.dict #[en P "__module__" 284 (.str "duskbook.errors" 209),en P "__firstlineno__" 288 (.int (24) 287),en P "__static_attributes__" 289 (.ref 88),en P "__doc__" 290 .none] 2),#[]⟩)::(nat_lit 90,⟨(.type "type"),none,(.cls ⟨"NoLight",[(.ref 41)],[(.ref 90),(.ref 41),(.type "ValueError"),(.type "Exception"),(.type "BaseException"),(.type "object")],89,"NoLight",true,[],[],false,none,false⟩),#[(some (.ref 81)),none,(some (.str "NoLight" 277)),(some (.str "NoLight" 285)),(some (.builtin "ValueError.__new__")),(some (.bool true))]⟩)::(nat_lit 101,⟨(.type "dict"),none,(.dict #[en P "__module__" 300 (.str "duskbook.errors" 209),en P "__firstlineno__" 304 (.int (26) 303),en P "__static_attributes__" 305 (.ref 100),en P "__doc__" 306 .none] 2),#[]⟩)::(nat_lit 102,⟨(.type "type"),none,(.cls ⟨"NoneSettled",[(.ref 41)],[(.ref 102),(.ref 41),(.type "ValueError"),(.type "Exception"),(.type "BaseException"),(.type "object")],101,"NoneSettled",true,[],[],false,none,false⟩),#[(some (.ref 93)),none,(some (.str "NoneSettled" 293)),(some (.str "NoneSettled" 301)),(some (.builtin "ValueError.__new__")),(some (.bool true))]⟩)::(nat_lit 113,⟨(.type "dict"),none,(.dict #[en P "__module__" 316 (.str "duskbook.errors" 209),en P "__firstlineno__" 320 (.int (28) 319),en P "__static_attributes__" 321 (.ref 112),en P "__doc__" 322 .none] 2),#[]⟩)::(nat_lit 114,⟨(.type "type"),none,(.cls ⟨"NoTable",[(.ref 41)],[(.ref 114),(.ref 41),(.type "ValueError"),(.type "Exception"),(.type "BaseException"),(.type "object")],113,"NoTable",true,[],[],false,none,false⟩),#[(some (.ref 105)),none,(some (.str "NoTable" 309)),(some (.str "NoTable" 317)),(some (.builtin "ValueError.__new__")),(some (.bool true))]⟩)::(nat_lit 125,⟨(.type "dict"),none,(.dict #[en P "__module__" 332 (.str "duskbook.errors" 209),en P "__firstlineno__" 336 (.int (30) 335),en P "__static_attributes__" 337 (.ref 124),en P "__doc__" 338 .none] 2),#[]⟩)::(nat_lit 126,⟨(.type "type"),none,(.cls ⟨"NoPage",[(.ref 41)],[(.ref 126),(.ref 41),(.type "ValueError"),(.type "Exception"),(.type "BaseException"),(.type "object")],125,"NoPage",true,[],[],false,none,false⟩),#[(some (.ref 117)),none,(some (.str "NoPage" 325)),(some (.str "NoPage" 333)),(some (.builtin "ValueError.__new__")),(some (.bool true))]⟩)::(nat_lit 137,⟨(.type "dict"),none,(.dict #[en P "__module__" 348 (.str "duskbook.errors" 209),en P "__firstlineno__" 352 (.int (32) 351),en P "__static_attributes__" 353 (.ref 136),en P "__doc__" 354 .none] 2),#[]⟩)::(nat_lit 138,⟨(.type "type"),none,(.cls ⟨"NoPaper",[(.ref 41)],[(.ref 138),(.ref 41),(.type "ValueError"),(.type "Exception"),(.type "BaseException"),(.type "object")],137,"NoPaper",true,[],[],false,none,false⟩),#[(some (.ref 129)),none,(some (.str "NoPaper" 341)),(some (.str "NoPaper" 349)),(some (.builtin "ValueError.__new__")),(some (.bool true))]⟩)::(nat_lit 141,tu [(.str "eithers" 359),(.str "sums" 360),(.str "ifs" 361),(.str "nots" 362)])::(nat_lit 147,oC "is_beacon" 370 39 1 142 (.ref 144) (.ref 145) 146 181 374)::(nat_lit 148,oF "is_beacon" 19 p1 147)::(nat_lit 154,oC "checked_beacon" 377 41 1 149 (.ref 151) (.ref 152) 153 181 381)::(nat_lit 155,oF "checked_beacon" 20 p1 154)::(nat_lit 161,oC "checked_truth" 384 45 1 156 (.ref 158) (.ref 159) 160 181 388)::(nat_lit 162,oF "checked_truth" 21 p1 161)::(nat_lit 166,oC "checked_beacons" 391 49 1 163 .none .none 165 181 394)::(nat_lit 167,oF "checked_beacons" 22 p1 166)::(nat_lit 171,oC "either_made" 397 54 1 168 .none .none 170 181 400)::(nat_lit 172,oF "either_made" 23 p1 171)::(nat_lit 178,oC "sum_made" 403 61 1 173 (.ref 175) (.ref 176) 177 181 407)::(nat_lit 179,oF "sum_made" 24 p1 178)::(nat_lit 185,oC "if_made" 410 63 1 180 (.ref 182) (.ref 183) 184 181 415)::(nat_lit 186,oF "if_made" 25 p1 185)::(nat_lit 192,oC "rule_made" 418 68 2 187 (.ref 189) (.ref 190) 191 181 423)::(nat_lit 193,oF "rule_made" 26 p1 192)::(nat_lit 197,oC "book_made" 426 74 2 194 .none .none 196 181 429)::(nat_lit 198,oF "book_made" 27 p1 197)::(nat_lit 202,oC "either_holds" 432 80 2 199 .none .none 201 181 435)::(nat_lit 203,oF "either_holds" 28 p1 202)::(nat_lit 207,oC "sum_holds" 438 82 2 204 .none .none 206 181 441)::(nat_lit 208,oF "sum_holds" 29 p1 207)::(nat_lit 212,oC "if_holds" 444 85 3 209 .none .none 211 181 447)::(nat_lit 213,oF "if_holds" 30 p1 212)::(nat_lit 219,oC "rule_holds" 450 89 3 214 (.ref 216) (.ref 217) 218 181 456)::(nat_lit 220,oF "rule_holds" 31 p1 219)::(nat_lit 224,oC "broken_rules" 459 95 2 221 .none .none 223 181 462)::(nat_lit 225,oF "broken_rules" 32 p1 224)::(nat_lit 231,oC "holds" 465 97 2 226 (.ref 228) (.ref 229) 230 181 470)::(nat_lit 232,oF "holds" 33 p1 231)::(nat_lit 233,⟨(.type "dict"),none,(.dict #[en P "eithers" 477 (.int (3) 478),en P "sums" 479 (.int (3) 480),en P "ifs" 481 (.int (2) 482),en P "nots" 483 (.int (2) 484)] 4),#[]⟩)::(nat_lit 239,oC "is_length" 490 102 1 234 (.ref 236) (.ref 237) 238 181 494)::(nat_lit 240,oF "is_length" 37 p2 239)::(nat_lit 244,oC "check_table" 497 104 2 241 .none .none 243 181 500)::(nat_lit 245,oF "check_table" 38 p2 244)::(nat_lit 249,oC "all_evenings" 503 109 1 246 .none .none 248 181 506)::(nat_lit 250,oF "all_evenings" 39 p2 249)::(nat_lit 254,oC "groups_of" 509 114 2 251 .none .none 253 181 512)::(nat_lit 255,oF "groups_of" 40 p2 254)::(nat_lit 261,oC "small_groups" 515 121 2 256 (.ref 258) (.ref 259) 260 181 522)::(nat_lit 262,oF "small_groups" 41 p2 261)::(nat_lit 266,oC "eithers_over" 525 126 1 263 .none .none 265 181 528)::(nat_lit 267,oF "eithers_over" 42 p2 266)::(nat_lit 271,oC "rules_over" 531 129 2 268 .none .none 270 181 534)::(nat_lit 272,oF "rules_over" 43 p2 271)::(nat_lit 276,oC "holds_on_all" 537 138 3 273 .none .none 275 181 540)::(nat_lit 277,oF "holds_on_all" 44 p2 276)::(nat_lit 281,oC "book_of" 543 140 3 278 .none .none 280 181 546)::(nat_lit 282,oF "book_of" 45 p2 281)::(nat_lit 288,oC "lacking_blend" 549 149 2 283 (.ref 285) (.ref 286) 287 181 555)::(nat_lit 289,oF "lacking_blend" 46 p2 288)::(nat_lit 293,oC "table_told" 558 154 3 290 .none .none 292 181 561)::(nat_lit 294,oF "table_told" 47 p2 293)::(nat_lit 300,oC "_law_cell" 566 162 2 295 (.ref 297) (.ref 298) 299 181 571)::(nat_lit 301,oF "_law_cell" 49 p3 300)::(nat_lit 307,oC "_law_mixed" 574 166 2 302 (.ref 304) (.ref 305) 306 181 579)::(nat_lit 308,oF "_law_mixed" 50 p3 307)::(nat_lit 314,oC "_law_kind" 582 168 1 309 (.ref 311) (.ref 312) 313 181 586)::(nat_lit 315,oF "_law_kind" 51 p3 314)::(nat_lit 321,oC "_law_bits" 589 170 2 316 (.ref 318) (.ref 319) 320 181 597)::(nat_lit 322,oF "_law_bits" 52 p3 321)::(nat_lit 326,oC "_law_all" 600 177 1 323 .none .none 325 181 603)::(nat_lit 327,oF "_law_all" 53 p3 326)::(nat_lit 333,oC "_law_kinds" 606 182 3 328 (.ref 330) (.ref 331) 332 181 616)::(nat_lit 334,oF "_law_kinds" 54 p3 333)::(nat_lit 340,oC "_law_no_length" 619 191 1 335 (.ref 337) (.ref 338) 339 181 624)::(nat_lit 341,oF "_law_no_length" 55 p3 340)::(nat_lit 347,oC "_law_book_of" 627 194 3 342 (.ref 344) (.ref 345) 346 181 634)::(nat_lit 348,oF "_law_book_of" 56 p3 347)::(nat_lit 352,oC "law" 637 199 1 349 .none .none 351 181 640)::(nat_lit 353,oF "law" 57 p3 352)::[]
noncomputable def hk:Hook:=kHook K (3::20::21::25::26::30::31::40::41::53::54::65::66::77::78::89::90::101::102::113::114::125::126::137::138::141::147::148::154::155::161::162::166::167::171::172::178::179::185::186::192::193::197::198::202::203::207::208::212::213::219::220::224::225::231::232::233::239::240::244::245::249::250::254::255::261::262::266::267::271::272::276::277::281::282::288::289::293::294::300::301::307::308::314::315::321::322::326::327::333::334::340::341::347::348::352::353::[]) (fun _=>by kernel_rfl)
noncomputable def Q:Program:={ pg with main:={ pg.main with body:=[Lw.top 57] } }
noncomputable def ls:List Str:=(["blended_light","lit_count_at","blended","DuskError","NoBook","NoHands","Over","NoLight","NoneSettled","NoTable","NoPage","NoPaper","KINDS","BEACON_COUNT","MOST_RULES","MOST_SAYINGS","is_beacon","checked_beacon","checked_truth","checked_beacons","either_made","sum_made","if_made","rule_made","book_made","either_holds","sum_holds","if_holds","rule_holds","broken_rules","holds","MOST_LENGTH","BLENDED_COUNTS","is_length","check_table","all_evenings","groups_of","small_groups","eithers_over","rules_over","holds_on_all","book_of","lacking_blend","table_told","_law_cell","_law_mixed","_law_kind","_law_bits","_law_all","_law_kinds"]++["_law_no_length","_law_book_of"]).map Str.ofString
noncomputable abbrev Xt(s:Shared):Bool:=xlAt Q [] s&&recOk (RowW.records (OpenRow.toRowW PySem.Challenge.rw_duskbook_k54_tables_refused.row)) s
theorem y4s:∀w:World,(fun os=>((staticsOk (importedModules pg.main.body) (boot_heap w.params) (h14 w.params)&&namesBound pg (h14 w.params)&&gensDone (s14 w os)&&laidKept (boot_heap w.params) (h14 w.params)),openSeen Q ls (importedModules pg.main.body) Xt true (s14 w os),Hook.obs hk (s14 w os)))=fun _=>(true,openGood Q ls,Hook.val hk w):=by
 rw[W.Fast.te5923862056798008813,W.Fast.te4187177175401517315];intro w;kernel_rfl
theorem left:LeftO pg Q ls Xt (Hook.obs hk) (Hook.val hk) 6380:=LeftO.of_pieces (H₁:=h14) (M:=12+(1+m2)) op size run (by decide) y4s
end Op
open PySem PySem.W PyProof.Rows
set_option maxRecDepth 100000 in
theorem PySem.Challenge.cw_duskbook_k54_tables_refused_holds : PySem.Challenge.rw_duskbook_k54_tables_refused.Holds := by
 w_on;o_law
 refine holds_open (q:=Op.Q) (loose:=Op.ls) (Xt:=Op.Xt) (XP:=XL Op.Q []) (Yf:=Hook.obs Op.hk) (Ya:=Hook.val Op.hk) (YP:=InK Op.K) (N:=6380) Op.left (Hook.of Op.hk) (Hook.keeps Op.hk) (fun s e=>xl_of s (Bool.and_eq_true_iff.mp e).1) XL.keeps (by rfl) (by rfl) (by rfl) (fun s e=>recFacts_of (Bool.and_eq_true_iff.mp e).2) (by rfl) (by assumption) (by decide +kernel) ⟨rfl,rfl,rfl,rfl,rfl,by decide +kernel⟩ ?hw ?hc
 (case hw=>w_witness2)
 k_fill
 refine Lw.walk Lw.law_true (l:=PySem.Challenge.rw_duskbook_k54_tables_refused) rfl rfl (K:=Op.K) (fun w h Y=>Y) ?F
 case F=>
  intro w mg fa h KX G hmg
  refine' Lw.all_mk KX G hmg ?_ ?_ ?_ ?_ ?_ ?_ ?_ ?_ ?_ ?_ ?_ ?_ ?_ ?_ ?_ ?_ ?_ ?_ ?_ ?_ ?_ ?_ ?_ ?_ ?_ ?_ ?_ ?_ ?_ ?_ ?_ ?_ ?_ ?_ ?_ ?_ ?_ ?_ ?_ ?_ ?_ ?_ ?_ ?_ ?_ ?_ ?_ ?_ ?_ ?_ ?_ ?_ ?_ ?_ ?_ ?_ ?_ ?_ ?_ ?_ ?_ ?_ ?_ ?_ ?_ ?_ ?_ ?_ ?_ ?_ ?_ ?_
  all_goals (try (first | (refine' M.xk_mk ?a ?b ?c ?d ?e ?f;(case a=>k_is);(case b=>k_is);(case c=>kernel_rfl);(case d=>kernel_rfl);(case e=>kernel_rfl);(case f=>kernel_rfl)) | (refine' Lw.fk_mk ?a ?l ?c ?k;(case a=>k_is);(case l=>k_is);(case c=>k_is);(case k=>k_is)) | k_is))
