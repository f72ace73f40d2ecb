import PyProof.Rows.All
import Wide.All
import OpenK.AllK
import Wide.FinOn
import Lean
import PyProof.EqAt
import PyProof.EqKinds
import PyProof.TupleCall
import PySem.Challenge.RW_duskbook_k55_pages_written
set_option Elab.async false
set_option linter.all false
set_option maxRecDepth 100000
abbrev fsc(l:List (PySem.Str × PySem.NameKind)):PySem.Scope:={ kind:=.function,names:=l,isGenerator:=false,isCoroutine:=false,more:=[] }
theorem qa{α β:Type _}{o:Option α}{f:α->Option β}{b:β}(h:o.bind f=some b):∃a,o=some a/\f a=some b:=Option.bind_eq_some_iff.mp h
theorem qb{α β:Type _}{o:Option α}{f:α->β}{b:β}(h:o.map f=some b):∃a,o=some a/\f a=b:=Option.map_eq_some_iff.mp h
def qc:=@Option.bind_some
def qd:=@PySem.Heap.get?_push_of_some
def qe:=@List.length_map
def qf:=@List.mem_cons_of_mem
def qg:=@List.mem_cons_self
def qh:=@Bool.false_ne_true
def qi:=@Array.length_toList
def qj:=@List.size_toArray
def qk:=@PySem.Heap.lt_size
def ql:=@Nat.ne_of_lt
theorem qm{α:Type _}{l:List α}{i:Nat}{a:α}(h:l[i]?=some a):∃h:i < l.length,l[i]=a:=List.getElem?_eq_some_iff.mp h
def qo:=@PySem.Heap.get?_push_size
def qp:=@List.getElem?_eq_getElem
def qq:=@List.length_cons
theorem qr{α:Type _}{a b:α}{l:List α}(h:a∈b::l):a=b\/a∈l:=List.mem_cons.mp h
def qs:=@Nat.le_refl
theorem qt{α:Type _}{a:α}{s t:List α}(h:a∈s++t):a∈s\/a∈t:=List.mem_append.mp h
def qu:=@Nat.lt_succ_of_lt
theorem qv{α β:Type _}{b:β}{f:α->β}{l:List α}(h:b∈l.map f):∃a,a∈l/\f a=b:=List.mem_map.mp h
def qw:=@List.length_append
def qx:=@Nat.lt_succ_self
def qy:=@List.map_cons
def qz:=@Nat.le_trans
def Qa:=@List.getElem?_set_ne
def Qb:=@Nat.lt_of_lt_of_le
def Qc:=@List.getElem?_map
def Qd:=@List.lookup_cons
def Qe:=@List.mem_append_right
set_option maxHeartbeats 4000000
noncomputable section
namespace L2
open PySem PySem.Spec PyProof.Rows
abbrev Key:=Sum Int Str
def Ywn:Key->Value->Bool
 | .inl k,v=>Value.isInt k v
 | .inr x,v=>Value.isStrOf x v
def keyH(w:World):Key->Int
 | .inl k=>hashInt k
 | .inr x=>hashStr w x
theorem Yal:∀{k:Key} {v:Value},Ywn k v=true->(∃i t,k=Sum.inl i/\v=Value.int i t)\/(∃x t,k=Sum.inr x/\v=Value.str x t)
 | .inl i,v,h=>by
   obtain⟨t,e⟩:=Value.isInt_shape (k:=i) (v:=v) h
   exact .inl ⟨i,t,rfl,e⟩
 | .inr x,v,h=>by
   obtain⟨t,e⟩:=Value.isStrOf_shape (x:=x) (v:=v) h
   exact .inr ⟨x,t,rfl,e⟩
theorem Ywo(a b:Int):decide ((Sum.inl a:Key)=Sum.inl b)=(a==b):=by
 by_cases e:a=b
 ·subst e;simp
 ·have h:¬(Sum.inl a:Key)=Sum.inl b:=fun q=>e (Sum.inl.inj q)
  rw[decide_eq_false h]
  exact(beq_eq_false_iff_ne.mpr e).symm
theorem Ywp(a b:Str):decide ((Sum.inr a:Key)=Sum.inr b)=decide (a=b):=by
 by_cases e:a=b
 ·subst e;simp
 ·have h:¬(Sum.inr a:Key)=Sum.inr b:=fun q=>e (Sum.inr.inj q)
  rw[decide_eq_false h,decide_eq_false e]
theorem Ywq(a:Int)(b:Str):decide ((Sum.inl a:Key)=Sum.inr b)=false:=decide_eq_false (fun q=>nomatch q)
theorem Ywr(a:Str)(b:Int):decide ((Sum.inr a:Key)=Sum.inl b)=false:=decide_eq_false (fun q=>nomatch q)
def Ylp(prog:Program)(w:World):KeyKind prog w Key where
 is:=Ywn
 hash:=keyH w
 inj:=fun v a b ha hb=>by
  rcases Yal ha with⟨i,t,rfl,rfl⟩ | ⟨x,t,rfl,rfl⟩
  ·rcases Yal hb with⟨j,u,rfl,e⟩ | ⟨y,u,rfl,e⟩
   ·injection e with e1 _;rw[e1]
   ·exact nomatch e
  ·rcases Yal hb with⟨j,u,rfl,e⟩ | ⟨y,u,rfl,e⟩
   ·exact nomatch e
   ·injection e with e1 _;rw[e1]
 byValue:=fun k v h=>by
  rcases Yal h with⟨i,t,rfl,rfl⟩ | ⟨x,t,rfl,rfl⟩<;>rfl
 pyHash:=fun hv h=>by
  rcases Yal hv with⟨i,t,rfl,rfl⟩ | ⟨x,t,rfl,rfl⟩
  ·exact wpAny_pyHash_int h
  ·exact wpAny_pyHash_str h
 eqBool:=fun hu hv h=>by
  rcases Yal hu with⟨i,t,rfl,rfl⟩ | ⟨x,t,rfl,rfl⟩
  ·rcases Yal hv with⟨j,u,rfl,rfl⟩ | ⟨y,u,rfl,rfl⟩
   ·rw[Ywo]at h;exact wpAny_eqBool_int h
   ·rw[Ywq]at h;exact SeqAt.EqAt.int_str i t y u _ _ _ _ h
  ·rcases Yal hv with⟨j,u,rfl,rfl⟩ | ⟨y,u,rfl,rfl⟩
   ·rw[Ywr]at h;exact SeqAt.EqAt.str_int x t j u _ _ _ _ h
   ·rw[Ywp]at h;exact wpAny_eqBool_str h
 «strs»:=fun k x t v h=>by
  rcases Yal h with⟨i,u,rfl,e⟩ | ⟨y,u,rfl,e⟩
  ·exact nomatch e
  ·injection e with e1 _
   subst e1
   cases v<;>rfl
end L2
namespace L2
open PySem PySem.Spec PyProof.Rows
inductive V where
 | non | bl (b:Bool) | int (i:Int) | str (x:Str) | byt (b:Array UInt8) | flt (b:UInt64) | ref (a:Addr) | ty (n:String)
 deriving DecidableEq
def RelV:V->Value->Prop
 | .non,u=>u=Value.none
 | .bl b,u=>u=Value.bool b
 | .int i,u=>∃t,u=Value.int i t
 | .str x,u=>∃t,u=Value.str x t
 | .byt b,u=>∃t,u=Value.bytes b t
 | .flt b,u=>∃t,u=Value.float b t
 | .ref a,u=>u=Value.ref a
 | .ty n,u=>u=Value.type n
abbrev Vals:List V->List Value->Prop:=Paired RelV
theorem Vals.length{xs:List V}{us:List Value}(r:Vals xs us):xs.length=us.length:=Paired.length r
theorem Vals.get:∀{xs:List V} {us:List Value} {i:Nat} {x:V},Vals xs us->xs[i]?=some x->∃u,us[i]?=some u/\RelV x u
 | _,_,_,_,.nil,e=>by simp at e
 | _,_,0,_,.cons r _,e=>by simp at e;subst e;exact⟨_,rfl,r⟩
 | _,_,i+1,x,.cons _ t,e=>by
   obtain⟨u,h1,h2⟩:=Vals.get (i:=i) (x:=x) t (by simpa using e)
   exact⟨u,by simpa using h1,h2⟩
theorem Vals.set{x:V}{u:Value}(r:RelV x u):∀{xs:List V} {us:List Value} (i:Nat),Vals xs us->Vals (xs.set i x) (us.set i u)
 | _,_,_,.nil=>.nil
 | _,_,0,.cons _ t=>.cons r t
 | _,_,i+1,.cons q t=>.cons q (Vals.set r i t)
theorem Vals.append:∀{xs ys:List V} {us ws:List Value},Vals xs us->Vals ys ws->Vals (xs++ys) (us++ws)
 | _,_,_,_,.nil,s=>s
 | _,_,_,_,.cons r t,s=>.cons r (Vals.append t s)
theorem Vals.take:∀{xs:List V} {us:List Value} (n:Nat),Vals xs us->Vals (xs.take n) (us.take n)
 | _,_,0,_=>.nil
 | _,_,_+1,.nil=>.nil
 | _,_,n+1,.cons r t=>.cons r (Vals.take n t)
theorem Vals.drop:∀{xs:List V} {us:List Value} (n:Nat),Vals xs us->Vals (xs.drop n) (us.drop n)
 | _,_,0,r=>r
 | _,_,_+1,.nil=>.nil
 | _,_,n+1,.cons _ t=>Vals.drop n t
def RelO:Option V->Option Value->Prop
 | some v,some u=>RelV v u
 | none,none=>True
 | _,_=>False
def KV{κ:Type}:List (κ × V)->List (κ × Value)->Prop:=Paired fun(p:κ × V) (q:κ × Value)=>p.1=q.1/\RelV p.2 q.2
def kV:Key->V
 | .inl i=>.int i
 | .inr x=>.str x
inductive HO where
 | lst (xs:List V)
 | tup (xs:List V)
 | dK (kvs:List (Key × V)) | dT (kvs:List (List Key × V))
 | set (S:Int->Bool) (n:Nat)
 | ins (C dx:Addr) (fs:List (Str × V))
 | own (x:Addr)
 | xd (fs:List (Str × V))
 | met (f x:Addr)
 | rng (lo hi:Int)
 | frz (o:Obj) (u:HO)
 | tbl (ps:Array Value)
 | ext (φ:Heap->Prop)
abbrev Hp:=Addr->Option HO
def upd(H:Hp)(a:Addr)(o:HO):Hp:=fun b=>if b=a then some o else H b
theorem Yl{H:Hp}{a:Addr}{o:HO}:upd H a o a=some o:=by unfold upd;rw[if_pos rfl]
theorem Yj{H:Hp}{a b:Addr}{o:HO}(h:b≠a):upd H a o b=H b:=by unfold upd;rw[if_neg h]
theorem Yt{H:Hp}{a b:Addr}{o:HO}(h:H a=some o)(h':H b=none):a≠b:=by
 intro e;subst e;rw[h]at h';cases h'
section
variable (P:Program) (w:World)
def ObjOk(H:Hp)(h:Heap)(a:Addr):HO->Prop
 | .lst xs=>xs.length<=sizeLine/\∃(its:List Value) (n:Nat),Vals xs its/\h.get? a=some { cls:=.type "list",data:=.seq its.toArray n }
 | .tup xs=>xs.length<=sizeLine/\∃its:List Value,Vals xs its/\IsTup h a its.toArray
 | .dK kvs=>kvs.length<=sizeLine/\(a==sysModules)=false/\∃vs,KV kvs vs/\h.DictOf (Ylp P w) a vs
 | .dT kvs=>kvs.length<=sizeLine/\(a==sysModules)=false/\∃xs:List (List Key × Addr × Value),
  Paired (fun(p:List Key × V) (q:List Key × Addr × Value)=>p.1=q.1/\H q.2.1=some (.tup (p.1.map kV))/\RelV p.2 q.2.2) kvs xs/\
  ∃o es ep,h.get? a=some o/\o.ExactDict/\o.data=.dict es ep/\es.toList=xs.map (entryOfKey (tupleKind (Ylp P w)))/\(xs.map (·.1)).Nodup
 | .set S n=>h.SetOf (intKind P w) a S n
 | .ins C dx fs=>H dx=some (.own a)/\fs.length<=1000/\dx≠a/\h.get? a=some (W.instObj C dx)/\
  ∃mA,h.Ns1 dx mA/\(∀f,RelO (fs.lookup f) (mA f))/\PySem.Within mA (fs.map (·.1))
 | .own _=>∃o,h.get? a=some o
 | .xd fs=>∃mA,h.Ns1 a mA/\∀f,RelO (fs.lookup f) (mA f)
 | .rng lo hi=>∃t u v,h.get? a=some { cls:=.type "range",data:=.fields #[.int lo t,.int hi u,.int 1 v] }
 | .frz o u=>h.get? a=some o/\ObjOk H h a u
 | .tbl ps=>h.get? a=some { cls:=.none,data:=.fields ps }
 | .met f x=>h.get? a=some (W.methodObj (.ref f) (.ref x))
 | .ext φ=>φ h/\(∃o,h.get? a=some o)/\∀h1 h2:Heap,φ h1->(∀o,h1.get? a=some o->h2.get? a=some o)->φ h2
def HOk(H:Hp)(h:Heap):Prop:=∀a o,H a=some o->ObjOk P w H h a o
end
section
variable {P:Program} {w:World} {H H':Hp} {h h':Heap} {a:Addr} {o:HO}
theorem ObjOk.lt(x:ObjOk P w H h a o):a < h.objs.size:=by
 cases o with
 | lst xs=>obtain⟨_,_,_,_,e⟩:=x;exact qk e
 | tup xs=>obtain⟨_,_,_,p⟩:=x;exact p.lt
 | dK kvs=>obtain⟨_,_,_,_,o,_,_,e,_⟩:=x;exact qk e
 | dT kvs=>obtain⟨_,_,_,_,o,_,_,e,_⟩:=x;exact qk e
 | set S n=>obtain⟨o,_,_,_,e,_⟩:=x;exact qk e
 | ins C dx fs=>obtain⟨_,_,_,e,_⟩:=x;exact qk e
 | own y=>obtain⟨_,e⟩:=x;exact qk e
 | xd fs=>obtain⟨_,⟨_,_,_,e,_⟩,_⟩:=x;exact qk e
 | rng lo hi=>obtain⟨_,_,_,e⟩:=x;exact qk e
 | frz ob u=>obtain⟨e,_⟩:=x;exact qk e
 | tbl ps=>exact qk (show h.get? a=some _ from x)
 | met f y=>exact qk (show h.get? a=some _ from x)
 | ext φ=>obtain⟨_,⟨_,e⟩,_⟩:=x;exact qk e
theorem Paired.mapP{α β:Type}{F G:α->β->Prop}:∀{l₁:List α} {l₂:List β},Paired F l₁ l₂->(∀a b,F a b->G a b)->Paired G l₁ l₂
 | _,_,.nil,_=>.nil
 | _,_,.cons r t,f=>.cons (f _ _ r) (Paired.mapP t f)
theorem ObjOk.stay(x:ObjOk P w H h a o)(k:∀b u,(b=a\/H b=some (.own a))->h.get? b=some u->h'.get? b=some u)
 (ho:∀b,H b=some (.own a)->H' b=some (.own a)) (ht:∀b xs,H b=some (.tup xs)->H' b=some (.tup xs)):ObjOk P w H' h' a o:=by
 induction o with
 | lst xs=>obtain⟨z,its,n,r,e⟩:=x;exact⟨z,its,n,r,k _ _ (.inl rfl) e⟩
 | tup xs=>obtain⟨z,its,r,ob,e,c⟩:=x;exact⟨z,its,r,ob,k _ _ (.inl rfl) e,c⟩
 | dK kvs=>obtain⟨z,y,vs,r,ob,es,ep,e,c⟩:=x;exact⟨z,y,vs,r,ob,es,ep,k _ _ (.inl rfl) e,c⟩
 | dT kvs=>
   obtain⟨z,y,xs,r,ob,es,ep,e,c⟩:=x
   exact⟨z,y,xs,Paired.mapP r fun p q z=>⟨z.1,ht _ _ z.2.1,z.2.2⟩,ob,es,ep,k _ _ (.inl rfl) e,c⟩
 | set S n=>obtain⟨ob,es,ep,t,e,c⟩:=x;exact⟨ob,es,ep,t,k _ _ (.inl rfl) e,c⟩
 | ins C dx fs=>
   obtain⟨d,z,ne,e,mA,⟨od,es,ep,e2,c⟩,r⟩:=x
   exact⟨ho _ d,z,ne,k _ _ (.inl rfl) e,mA,⟨od,es,ep,k _ _ (.inr d) e2,c⟩,r⟩
 | own y=>obtain⟨ob,e⟩:=x;exact⟨ob,k _ _ (.inl rfl) e⟩
 | xd fs=>obtain⟨mA,⟨od,es,ep,e,c⟩,r⟩:=x;exact⟨mA,⟨od,es,ep,k _ _ (.inl rfl) e,c⟩,r⟩
 | rng lo hi=>obtain⟨t,u,v,e⟩:=x;exact⟨t,u,v,k _ _ (.inl rfl) e⟩
 | frz ob u ih=>obtain⟨e,q⟩:=x;exact⟨k _ _ (.inl rfl) e,ih q⟩
 | tbl ps=>
   have e:h.get? a=some { cls:=.none,data:=.fields ps }:=x
   show h'.get? a=some { cls:=.none,data:=.fields ps }
   exact k a _ (.inl rfl) e
 | met f y=>
   have e:h.get? a=some (W.methodObj (.ref f) (.ref y)):=x
   show h'.get? a=some (W.methodObj (.ref f) (.ref y))
   exact k a _ (.inl rfl) e
 | ext φ=>obtain⟨p,⟨o,e⟩,st⟩:=x;exact⟨st _ _ p fun o q=>k _ _ (.inl rfl) q,⟨o,k _ _ (.inl rfl) e⟩,st⟩
theorem HOk.lt(x:HOk P w H h)(e:H a=some o):a < h.objs.size:=(x a o e).lt
theorem HOk.fresh(x:HOk P w H h)(e:h.objs.size<=a):H a=none:=by
 cases q:H a with
 | none=>rfl
 | some u=>exact absurd (Qb (x.lt q) e) (Nat.lt_irrefl _)
theorem HOk.kept(x:HOk P w H h)(k:∀b u,h.get? b=some u->h'.get? b=some u):HOk P w H h':=fun a o e=>
 (x a o e).stay (fun b u _ q=>k b u q) (fun _ q=>q) fun _ _ q=>q
theorem HOk.laid(x:HOk P w H h)(k:∀b u,h.get? b=some u->h'.get? b=some u)(hp:h.objs.size<=a)(new:ObjOk P w (upd H a o) h' a o):HOk P w (upd H a o) h':=fun b u e=>by
 have hn:=x.fresh hp
 by_cases hb:b=a
 ·subst hb;rw[Yl]at e;cases e;exact new
 ·rw[Yj hb]at e
  exact(x b u e).stay (fun c v _ q=>k c v q) (fun c q=>by rw[Yj (Yt q hn)];exact q) fun c xs q=>by rw[Yj (Yt q hn)];exact q
end
def Rd(H:Hp)(a:Addr)(u:HO):Prop:=H a=some u\/∃o,H a=some (.frz o u)
theorem Rd.ok{P:Program}{w:World}{H:Hp}{h:Heap}{a:Addr}{u:HO}(r:Rd H a u)(x:HOk P w H h):ObjOk P w H h a u:=by
 rcases r with r | ⟨o,r⟩
 ·exact x a u r
 ·obtain⟨_,q⟩:=x a _ r
  exact q
def Mut:Option HO->Prop
 | some (.lst _)=>True
 | some (.dK _)=>True
 | some (.dT _)=>True
 | some (.set _ _)=>True
 | some (.ins _ _ _)=>True
 | some (.ext _)=>True
 | _=>False
section
variable {P:Program} {w:World} {H:Hp} {h h':Heap} {x e:Addr} {o':HO}
theorem HOk.write(ok:HOk P w H h)(mu:Mut (H x))(he:e=x\/H e=some (.own x))(k:∀b u,b≠e->h.get? b=some u->h'.get? b=some u)(heo:∃u,h'.get? e=some u)
 (new:ObjOk P w (upd H x o') h' x o'):HOk P w (upd H x o') h':=fun b u q=>by
 have nown:∀c y,H c=some (.own y)->c≠x:=fun c y r z=>by subst z;rw[r]at mu;exact mu
 have ntup:∀c xs,H c=some (.tup xs)->c≠x:=fun c xs r z=>by subst z;rw[r]at mu;exact mu
 by_cases hb:b=x
 ·subst hb;rw[Yl]at q;cases q;exact new
 ·rw[Yj hb]at q
  by_cases hbe:b=e
  ·have q':H b=some (.own x):=by
    rcases he with z | z
    ·exact absurd (hbe.trans z) hb
    ·rw[hbe];exact z
   rw[q]at q';cases q'
   obtain⟨v,hv⟩:=heo
   exact⟨v,by rw[hbe];exact hv⟩
  ·refine(ok b u q).stay (fun c v hc r=>k c v ?_ r) (fun c r=>by rw[Yj (nown c b r)];exact r) fun c xs r=>by rw[Yj (ntup c xs r)];exact r
   rcases hc with rfl | hc
   ·exact hbe
   ·rintro rfl
    rcases he with z | z
    ·exact nown c b hc z
    ·rw[hc]at z;cases z;exact hb rfl
end
structure Un(fs ex:List Addr)(H H':Hp)(h h':Heap):Prop where
 keep:∀b o,h.get? b=some o->H b=none->b∉fs->b∉ex->h'.get? b=some o
 slot:∀b o,h.get? b=some o->H b=none->b∈fs->b∉ex->∃sl,h'.get? b=some { o with slots:=sl }
 free:∀b o,h.get? b=some o->H b=none->b∉ex->H' b=none
 there:∀b o,h.get? b=some o->b∉ex->∃o',h'.get? b=some o'
 tups:∀b xs,H b=some (.tup xs)->H' b=some (.tup xs)
 frzs:∀b o u,H b=some (.frz o u)->H' b=some (.frz o u)
 tbls:∀b ps,H b=some (.tbl ps)->∃more,H' b=some (.tbl (ps++more))
section
variable {fs fs' ex ex':List Addr} {H H1 H2:Hp} {h h1 h2 h':Heap} {a x e:Addr} {o:HO}
theorem Un.any(u:Un fs ex H H1 h h1){b:Addr}{ob:Obj}(q:h.get? b=some ob)(n:H b=none)(hx:b∉ex):∃sl,h1.get? b=some { ob with slots:=sl }:=by
 by_cases hb:b∈fs
 ·exact u.slot b ob q n hb hx
 ·exact⟨ob.slots,u.keep b ob q n hb hx⟩
theorem Un.kept(k:∀b u,h.get? b=some u->h'.get? b=some u):Un fs ex H H h h':=
 ⟨fun b ob q _ _ _=>k b ob q,fun b ob q _ _ _=>⟨ob.slots,k b ob q⟩,fun _ _ _ n _=>n,fun b ob q _=>⟨ob,k b ob q⟩,fun _ _ q=>q,fun _ _ _ q=>q,fun _ ps q=>⟨#[],by rw[q];simp⟩⟩
theorem Un.refl:Un fs ex H H h h:=Un.kept fun _ _ q=>q
theorem Un.laid(k:∀b u,h.get? b=some u->h'.get? b=some u)(hp:h.objs.size<=a)(hn:H a=none):Un fs ex H (upd H a o) h h' where
 keep:=fun b u q _ _ _=>k b u q
 slot:=fun b u q _ _ _=>⟨u.slots,k b u q⟩
 free:=fun b u q n _=>by rw[Yj (ql (Qb (qk q) hp))];exact n
 there:=fun b u q _=>⟨u,k b u q⟩
 tups:=fun b xs q=>by rw[Yj (Yt q hn)];exact q
 frzs:=fun b u xs q=>by rw[Yj (Yt q hn)];exact q
 tbls:=fun b ps q=>⟨#[],by rw[Yj (Yt q hn),q];simp⟩
theorem Un.write(mu:Mut (H x))(he:e=x\/H e=some (.own x))(k:∀b u,b≠e->h.get? b=some u->h'.get? b=some u)(heo:∃u,h'.get? e=some u):Un fs ex H (upd H x o) h h':=by
 have hx:∀b,H b=none->b≠x:=fun b n z=>by subst z;rw[n]at mu;exact mu
 have hb:∀b,H b=none->b≠e:=fun b n z=>by
  subst z
  rcases he with r | r
  ·exact hx b n r
  ·rw[n]at r;cases r
 have hm:∀b u,H b=some u->¬Mut (some u)->b≠x:=fun b u q nm z=>by subst z;rw[q]at mu;exact nm mu
 refine⟨fun b u q n _ _=>k b u (hb b n) q,fun b u q n _ _=>⟨u.slots,k b u (hb b n) q⟩,fun b u q n _=>by rw[Yj (hx b n)];exact n,fun b u q _=>?_,
  fun b xs q=>by rw[Yj (hm b _ q fun z=>z)];exact q,fun b u xs q=>by rw[Yj (hm b _ q fun z=>z)];exact q,fun b ps q=>⟨#[],by rw[Yj (hm b _ q fun z=>z),q];simp⟩⟩
 by_cases hbe:b=e
 ·subst hbe;exact heo
 ·exact⟨u,k b u hbe q⟩
end
def trk(h:Heap)(H:Hp):List Addr:=(List.range h.objs.size).filter fun a=>(H a).isSome
def hidT(h:Heap)(H:Hp):Heap:=W.hideAll h (trk h H)
theorem Yos(h:Heap)(H:Hp):(hidT h H).objs.size=h.objs.size:=W.hideAll_size _ _
theorem Yrk{h:Heap}{H:Hp}{b:Addr}{o:Obj}(e:h.get? b=some o)(n:H b=none):(hidT h H).get? b=some o:=
 W.hideAll_get _ e fun hm=>by
  have q:(H b).isSome=true:=(List.mem_filter.mp hm).2
  rw[n]at q;simp at q
theorem Yty{h:Heap}{H:Hp}{b:Addr}{o:Obj}(e:(hidT h H).get? b=some o):h.get? b=some o/\H b=none:=by
 have e':h.get? b=some o:=W.of_hideAll (trk h H) e
 refine⟨e',?_⟩
 cases q:H b with
 | none=>rfl
 | some x=>
   have hm:b∈trk h H:=List.mem_filter.mpr ⟨List.mem_range.mpr (qk e'),by simp[q]⟩
   have z:(hidT h H).get? b=none:=W.hideAll_none (trk h H) hm
   rw[z]at e;cases e
end L2
namespace L2
open PySem PySem.Spec PyProof.Rows
structure Mod(K:W.Frag)(mg:Str->Option Value)(base:Heap):Prop where
 kin:K.In base
 glob:base.Ns mainGlobals mg
 blt:∃mb,base.Ns builtinsNs mb/\∀x:Str,x≠"__name__"->mb x=bootBuiltins x
 nolimit:base.NoLimit
structure Cx where
 prog:Program
 w:World
 K:W.Frag
 mg:Str->Option Value
 base:Heap
 A:Around
 N:List Str
 s₀:Shared
 H₀:Hp
 env:Env
 outer:List Env
 stack:List Env
 ex:List Addr
 fn:Str->Bool
 calm:Bool
 pn:List (Addr × Obj)
 xe:Value->Shared->Prop
def frs(l:List Env):List Addr:=l.filterMap (·.frame)
abbrev Cx.fs(X:Cx):List Addr:=frs X.outer
def Vis(sc:Scope)(x:Str):Prop:=sc.names.lookup x=some .local\/sc.names.lookup x=some .cell\/sc.names.lookup x=some .free
def Loc(sc:Scope)(x:Str):Prop:=sc.names.lookup x=some .local\/sc.names.lookup x=some .cell
def Look(env:Env)(h:Heap)(m:Str->Option Value)(x:Str)(u:Value):Prop:=
 (env.kindOf x=some .local/\m x=some u)\/((env.kindOf x=some .cell\/env.kindOf x=some .free)/\∃c,env.cells.lookup x=some c/\h.IsCell c (some u))
structure Cx.Ok(X:Cx):Prop where
 mod:Mod X.K X.mg X.base
 kind:X.env.scope.kind=.function
 glob:X.env.globals=mainGlobals
 blt:X.env.builtins=builtinsNs
 above:X.s₀.heap.objs.size<=X.env.locals
 inj:∀x y c,X.env.cells.lookup x=some c->X.env.cells.lookup y=some c->x=y
 has:∀x,(X.env.kindOf x=some .cell\/X.env.kindOf x=some .free)->∃c,X.env.cells.lookup x=some c
 cab:∀x c,X.fn x=true->X.env.cells.lookup x=some c->X.s₀.heap.objs.size<=c
 hd:X.calm=true->X.A.handled=none
 frames:X.A.frames=some X.stack
 stk:X.stack=X.outer\/(X.stack=X.env::X.outer/\X.env.frame=some X.env.locals)
 exf:∀b∈X.ex,b≠X.env.locals/\∀x c,X.env.cells.lookup x=some c->c≠b
 bs:∀b o,X.base.get? b=some o->X.s₀.heap.get? b=some o/\X.H₀ b=none
 bsz:X.base.objs.size<=X.s₀.heap.objs.size
 noex:∀b o,X.base.get? b=some o->b∉X.ex
 exfs:∀b∈X.ex,b∉X.fs
 funs:X.s₀.heap.FunFrames X.base X.outer
 frf:∀b∈X.fs,X.H₀ b=none
structure Inv(X:Cx)(pins:List (Addr × Obj))(σ:List (Option V))(H:Hp)(s:Shared):Prop where
 ok:X.Ok
 os:s.os=X.s₀.os
 bare:AllBare s.gens
 base:Un X.fs X.ex X.H₀ H X.s₀.heap s.heap
 loc:∃m,s.heap.Ns X.env.locals m/\∀(i:Nat) (x:Str) (v:V),X.N[i]?=some x->σ[i]?=some (some v)->Vis X.env.scope x->∃u,RelV v u/\Look X.env s.heap m x u
 cell:∀x c,X.env.cells.lookup x=some c->∃v,s.heap.IsCell c v
 free:H X.env.locals=none
 freeC:∀x c,X.env.cells.lookup x=some c->H c=none
 pin:∀p∈X.pn++pins,s.heap.get? p.1=some p.2/\H p.1=none/\p.1≠X.env.locals/\p.1∉X.fs/\∀v,p.2.data≠.cell v
 hok:HOk X.prog X.w H s.heap
 len:σ.length=X.N.length
section
variable {X:Cx} {pins:List (Addr × Obj)} {σ:List (Option V)} {H H':Hp} {s:Shared} {h':Heap}
theorem Cx.Ok.nofr(ok:X.Ok){b:Addr}{o:Obj}(e:X.base.get? b=some o):b∉X.fs:=fun hb=>by
 have:=(ok.funs.mem hb).1
 rw[e]at this;cases this
theorem Inv.bs(I:Inv X pins σ H s):∀b o,X.base.get? b=some o->s.heap.get? b=some o/\H b=none:=fun b o e=>
 ⟨I.base.keep b o (I.ok.bs b o e).1 (I.ok.bs b o e).2 (I.ok.nofr e) (I.ok.noex b o e),I.base.free b o (I.ok.bs b o e).1 (I.ok.bs b o e).2 (I.ok.noex b o e)⟩
theorem Inv.bk(I:Inv X pins σ H s):∀b o,X.base.get? b=some o->s.heap.get? b=some o:=fun b o e=>(I.bs b o e).1
theorem Inv.mod(I:Inv X pins σ H s):Mod X.K X.mg X.base:=I.ok.mod
theorem Inv.kIn(I:Inv X pins σ H s):X.K.In s.heap:=I.ok.mod.kin.keeps I.bk
theorem Inv.lt(I:Inv X pins σ H s):X.env.locals < s.heap.objs.size:=let ⟨_,hn,_⟩:=I.loc;hn.lt
theorem Inv.sz(I:Inv X pins σ H s):X.s₀.heap.objs.size<=s.heap.objs.size:=qz I.ok.above (Nat.le_of_lt I.lt)
theorem Inv.nofs(I:Inv X pins σ H s){a:Addr}(h:s.heap.objs.size<=a):a∉X.fs:=fun hb=>by
 obtain⟨_,o,ho,_⟩:=I.ok.funs.mem hb
 exact absurd (Qb (qk ho) (qz I.sz h)) (Nat.lt_irrefl _)
theorem Inv.cne(I:Inv X pins σ H s):∀x c,X.env.cells.lookup x=some c->c≠X.env.locals:=fun x c e z=>by
 obtain⟨v,o,ho,hd⟩:=I.cell x c e
 obtain⟨m,⟨o',es,ep,ho',hd',_⟩,_⟩:=I.loc
 rw[z,ho']at ho;cases ho;rw[hd']at hd;cases hd
theorem Inv.funs(I:Inv X pins σ H s):s.heap.FunFrames X.base X.outer:=by
 have all:∀(l:List Env),(∀b∈frs l,b∈X.fs)->X.s₀.heap.FunFrames X.base l->s.heap.FunFrames X.base l:=by
  intro l
  induction l with
  | nil=>intro _ _;trivial
  | cons env r ih=>
    intro hs hl
    obtain⟨hk,⟨L,o,hf,hn,ho,hd⟩,hr⟩:=hl
    have hL:L∈X.fs:=hs L (by unfold frs;rw[List.filterMap_cons,hf];exact qg)
    obtain⟨sl,e⟩:=I.base.slot L o ho (I.ok.frf L hL) hL fun z=>I.ok.exfs L z hL
    exact⟨hk,⟨L,_,hf,hn,e,hd⟩,ih (fun b hb=>hs b (by unfold frs;rw[List.filterMap_cons,hf];exact qf _ hb)) hr⟩
 exact all X.outer (fun _ hb=>hb) I.ok.funs
theorem Inv.stack(I:Inv X pins σ H s):s.heap.FunFrames X.base X.stack:=by
 rcases I.ok.stk with e | ⟨e,hf⟩
 ·rw[e];exact I.funs
 ·rw[e]
  obtain⟨m,hn,_⟩:=I.loc
  refine .cons (by rw[I.ok.kind];decide) hf hn ?_ I.funs
  exact Heap.get?_none_of_le (qz I.ok.bsz I.ok.above)
theorem Inv.stkSub(I:Inv X pins σ H s):∀b∈frs X.stack,b∈X.env.locals::X.fs:=fun b hb=>by
 rcases I.ok.stk with e | ⟨e,hf⟩
 ·rw[e]at hb;exact qf _ hb
 ·rw[e]at hb
  unfold frs at hb
  rw[List.filterMap_cons,hf]at hb
  exact hb
theorem Inv.stkFree(I:Inv X pins σ H s):∀b∈frs X.stack,H b=none:=fun b hb=>by
 rcases qr (I.stkSub b hb)with e | hb
 ·rw[e];exact I.free
 ·obtain⟨_,o,ho,_⟩:=I.ok.funs.mem hb
  exact I.base.free b o ho (I.ok.frf b hb) fun z=>I.ok.exfs b z hb
theorem Inv.step{g':Array GenState}{t':Nat}{d':Drawn}{ch:List Addr}(I:Inv X pins σ H s)
 (hch:∀b∈ch,(b∈X.ex\/X.s₀.heap.objs.size<=b)/\b≠X.env.locals/\(∀x c,X.env.cells.lookup x=some c->c≠b)/\∀p∈X.pn++pins,p.1≠b)
 (keep:∀b o,b≠X.env.locals->b∉X.fs->b∉ch->s.heap.get? b=some o->H b=none->h'.get? b=some o)
 (slot:∀b o,b≠X.env.locals->b∈X.fs->b∉ch->s.heap.get? b=some o->H b=none->∃sl,h'.get? b=some { o with slots:=sl }) (free:∀b o,b∉ch->s.heap.get? b=some o->H b=none->H' b=none)
 (there:∀b o,b∉ch->s.heap.get? b=some o->∃o',h'.get? b=some o')
 (tups:∀b xs,H b=some (.tup xs)->H' b=some (.tup xs)) (frzs:∀b o u,H b=some (.frz o u)->H' b=some (.frz o u)) (tbls:∀b ps,H b=some (.tbl ps)->∃more,H' b=some (.tbl (ps++more)))
 (ns:∀m,s.heap.Ns X.env.locals m->h'.Ns X.env.locals m) (hok:HOk X.prog X.w H' h') (hg:AllBare g') :
 Inv X pins σ H' { s with heap:=h',gens:=g',drawn:=d',toks:=t' }:=by
 have neL:∀b o,X.s₀.heap.get? b=some o->b≠X.env.locals:=fun b o e=>ql (Qb (qk e) I.ok.above)
 have neC:∀b o,X.s₀.heap.get? b=some o->b∉X.ex->b∉ch:=fun b o e hx hb=>by
  rcases(hch b hb).1 with z | z
  ·exact hx z
  ·exact absurd (Qb (qk e) z) (Nat.lt_irrefl _)
 have cellK:∀x c,X.env.cells.lookup x=some c->∀v,s.heap.IsCell c v->h'.IsCell c v:=fun x c e v hx_=>by
  obtain⟨o,ho,hd⟩:=hx_
  have nch:c∉ch:=fun z=>(hch c z).2.2.1 x c e rfl
  by_cases hc:c∈X.fs
  ·obtain⟨sl,q⟩:=slot c o (I.cne x c e) hc nch ho (I.freeC x c e)
   exact⟨_,q,hd⟩
  ·exact⟨o,keep c o (I.cne x c e) hc nch ho (I.freeC x c e),hd⟩
 refine⟨I.ok,I.os,hg,⟨fun b o e n hb hx=>?_,fun b o e n hb hx=>?_,fun b o e n hx=>?_,fun b o e hx=>?_,fun b xs e=>tups b xs (I.base.tups b xs e),fun b o xs e=>frzs b o xs (I.base.frzs b o xs e),fun b ps e=>?_⟩,?_,fun x c e=>?_,?_,fun x c e=>?_,fun p hp=>?_,hok,I.len⟩
 ·exact keep b o (neL b o e) hb (neC b o e hx) (I.base.keep b o e n hb hx) (I.base.free b o e n hx)
 ·obtain⟨sl,e1⟩:=I.base.slot b o e n hb hx
  obtain⟨sl',e2⟩:=slot b _ (neL b o e) hb (neC b o e hx) e1 (I.base.free b o e n hx)
  exact⟨sl',e2⟩
 ·obtain⟨o',e1⟩:=I.base.there b o e hx
  exact free b o' (neC b o e hx) e1 (I.base.free b o e n hx)
 ·obtain⟨o',e1⟩:=I.base.there b o e hx
  exact there b o' (neC b o e hx) e1
 ·obtain⟨m1,e1⟩:=I.base.tbls b ps e
  obtain⟨m2,e2⟩:=tbls b _ e1
  exact⟨m1++m2,by rw[e2,Array.append_assoc]⟩
 ·obtain⟨m,hn,hl⟩:=I.loc
  refine⟨m,ns m hn,fun i x v e1 e2 e3=>?_⟩
  obtain⟨u,r,l⟩:=hl i x v e1 e2 e3
  refine⟨u,r,?_⟩
  rcases l with l | ⟨k,c,e,z⟩
  ·exact .inl l
  ·exact .inr ⟨k,c,e,cellK x c e _ z⟩
 ·obtain⟨v,z⟩:=I.cell x c e
  exact⟨v,cellK x c e v z⟩
 ·obtain⟨m,⟨o,_,_,ho,_⟩,_⟩:=I.loc
  exact free _ o (fun z=>(hch _ z).2.1 rfl) ho I.free
 ·obtain⟨v,o,ho,hd⟩:=I.cell x c e
  exact free c o (fun z=>(hch c z).2.2.1 x c e rfl) ho (I.freeC x c e)
 ·obtain⟨e,n,ne,nf,d⟩:=I.pin p hp
  have nch:p.1∉ch:=fun z=>(hch p.1 z).2.2.2 p hp rfl
  exact⟨keep p.1 p.2 ne nf nch e n,free p.1 p.2 nch e n,ne,nf,d⟩
theorem Inv.un{t':Nat}(I:Inv X pins σ H s)(u:Un X.fs [] H H' s.heap h')(hok:HOk X.prog X.w H' h'):Inv X pins σ H' { s with heap:=h',toks:=t' }:=by
 obtain⟨m,⟨o,es,ep,ho,r⟩,_⟩:=id I.loc
 obtain⟨sl,hL⟩:=u.any ho I.free (by simp)
 exact I.step (g':=s.gens) (d':=s.drawn) (ch:=[]) (fun _ z=>nomatch z) (fun b o _ hb _ e n=>u.keep b o e n hb (by simp)) (fun b o _ hb _ e n=>u.slot b o e n hb (by simp)) (fun b o _ e n=>u.free b o e n (by simp)) (fun b o _ e=>u.there b o e (by simp)) u.tups u.frzs u.tbls (fun m' hm=>by
  obtain⟨o',es',ep',ho',r'⟩:=hm
  rw[ho]at ho';cases ho'
  exact⟨_,es',ep',hL,r'⟩) hok I.bare
theorem Inv.call{g':Array GenState}{t':Nat}{d':Drawn}{ch:List Addr}(I:Inv X pins σ H s)(u:Un (frs X.stack) ch H H' s.heap h')(hok:HOk X.prog X.w H' h')(hg:AllBare g')
 (hch:∀b∈ch,(b∈X.ex\/X.s₀.heap.objs.size<=b)/\b≠X.env.locals/\(∀x c,X.env.cells.lookup x=some c->c≠b)/\∀p∈X.pn++pins,p.1≠b) :
 Inv X pins σ H' { s with heap:=h',gens:=g',drawn:=d',toks:=t' }:=by
 obtain⟨m,⟨o,es,ep,ho,r⟩,_⟩:=id I.loc
 obtain⟨sl,hL⟩:=u.any ho I.free fun z=>(hch _ z).2.1 rfl
 exact I.step (ch:=ch) hch (fun b o hL hb hc e n=>u.keep b o e n (fun z=>(qr (I.stkSub b z)).elim hL hb) hc) (fun b o _ _ hc e n=>u.any e n hc) (fun b o hc e n=>u.free b o e n hc) (fun b o hc e=>u.there b o e hc) u.tups u.frzs u.tbls (fun m' hm=>by
  obtain⟨o',es',ep',ho',r'⟩:=hm
  rw[ho]at ho';cases ho'
  exact⟨_,es',ep',hL,r'⟩) hok hg
theorem Inv.turned{t':Nat}{it:Addr}(I:Inv X pins σ H s)(k:∀b o,b≠it->s.heap.get? b=some o->h'.get? b=some o)(hn:H it=none)(hL:it≠X.env.locals)
 (h1:it∈X.ex\/X.s₀.heap.objs.size<=it) (h2:∀x c,X.env.cells.lookup x=some c->c≠it) (h3:∀p∈X.pn++pins,p.1≠it):Inv X pins σ H { s with heap:=h',toks:=t' }:=by
 have nit:∀b u,H b=some u->b≠it:=fun b u e z=>by rw[z,hn]at e;cases e
 refine I.step (g':=s.gens) (d':=s.drawn) (ch:=[it]) (fun b hb=>?_) (fun b o _ _ hc e _=>k b o (fun z=>hc (by simp[z])) e) (fun b o _ _ hc e _=>⟨o.slots,k b o (fun z=>hc (by simp[z])) e⟩) (fun _ _ _ _ n=>n)
  (fun b o hc e=>⟨o,k b o (fun z=>hc (by simp[z])) e⟩) (fun _ _ e=>e) (fun _ _ _ e=>e) (fun b ps e=>⟨#[],by rw[e];simp⟩) (fun m hm=>?_) (fun b u e=>?_) I.bare
 ·have e:b=it:=by simpa using hb
  subst e
  exact⟨h1,hL,h2,h3⟩
 ·obtain⟨o,es,ep,ho,r⟩:=hm
  exact⟨o,es,ep,k _ o (Ne.symm hL) ho,r⟩
 ·refine(I.hok b u e).stay (fun c v hc q=>k c v ?_ q) (fun _ q=>q) fun _ _ q=>q
  rcases hc with z | z
  ·rw[z];exact nit b u e
  ·exact nit c _ z
theorem Inv.tok(I:Inv X pins σ H s)(t:Nat):Inv X pins σ H { s with toks:=t }:=I.un (h':=s.heap) (t':=t) Un.refl I.hok
theorem Inv.kept{t':Nat}(I:Inv X pins σ H s)(k:∀b u,s.heap.get? b=some u->h'.get? b=some u):Inv X pins σ H { s with heap:=h',toks:=t' }:=I.un (Un.kept k) (I.hok.kept k)
theorem Inv.laid{a:Addr}{o:HO}{t':Nat}(I:Inv X pins σ H s)(k:∀b u,s.heap.get? b=some u->h'.get? b=some u)(hp:s.heap.objs.size<=a)(new:ObjOk X.prog X.w (upd H a o) h' a o) :
 Inv X pins σ (upd H a o) { s with heap:=h',toks:=t' }:=I.un (Un.laid k hp (I.hok.fresh hp)) (I.hok.laid k hp new)
theorem Inv.write{x e:Addr}{o:HO}{t':Nat}(I:Inv X pins σ H s)(mu:Mut (H x))(he:e=x\/H e=some (.own x))(k:∀b u,b≠e->s.heap.get? b=some u->h'.get? b=some u)(heo:∃u,h'.get? e=some u)
 (new:ObjOk X.prog X.w (upd H x o) h' x o):Inv X pins σ (upd H x o) { s with heap:=h',toks:=t' }:=I.un (Un.write mu he k heo) (I.hok.write mu he k heo new)
theorem Inv.pins_of{pins':List (Addr × Obj)}(I:Inv X pins σ H s)(h:∀p∈pins',s.heap.get? p.1=some p.2/\H p.1=none/\p.1≠X.env.locals/\p.1∉X.fs/\∀v,p.2.data≠.cell v):Inv X pins' σ H s:=
 ⟨I.ok,I.os,I.bare,I.base,I.loc,I.cell,I.free,I.freeC,fun p hp=>(qt hp).elim (fun z=>I.pin p (List.mem_append_left _ z)) (h p),I.hok,I.len⟩
theorem Ymp{N:List Str}(hN:N.Nodup){i j:Nat}{x:Str}(a:N[i]?=some x)(b:N[j]?=some x):i=j:=by
 obtain⟨h1,e1⟩:=qm a
 obtain⟨h2,e2⟩:=qm b
 exact(List.getElem_inj hN).mp (e1.trans e2.symm)
theorem Yke{M:Model}{A:Around}{E:Value->Shared->Prop}{i:Nat}{x:Str}{v:V}{u:Value}{Q:Unit->Shared->Prop}(I:Inv X pins σ H s)(hN:X.N.Nodup)(hi:X.N[i]?=some x)(hx:Loc X.env.scope x)(r:RelV v u)
 (h:∀s',Inv X pins (σ.set i (some v)) H s'->(∃a,Heap.SameBut a s.heap s'.heap/\(a=X.env.locals\/X.env.cells.lookup x=some a))->Q () s') (hf:X.fn x=true\/X.env.scope.names.lookup x=some .local:=by first | exact .inl rfl | exact .inr rfl | assumption):wpAny M A (storeName X.env x u) Q E s:=by
 obtain⟨m,hn,hl⟩:=id I.loc
 have hcls:(X.env.scope.kind==.class||(X.env.scope.kind==.module&&X.env.locals != X.env.globals))=false:=by rw[I.ok.kind];rfl
 have hiσ:i < σ.length:=by rw[I.len];exact(qm hi).1
 have cne:=I.cne
 have tracked:∀{a:Addr} {h':Heap},(∃o,s.heap.get? a=some o/\H a=none)->Heap.SameBut a s.heap h'->HOk X.prog X.w H h':=fun {a h'} ha hs b ob e=>by
  obtain⟨_,_,hfree⟩:=ha
  refine(I.hok b ob e).stay (fun c w' hc q=>(hs.2 c ?_).trans q) (fun _ q=>q) fun _ _ q=>q
  rintro rfl
  rcases hc with rfl | hc
  ·rw[hfree]at e;cases e
  ·rw[hfree]at hc;cases hc
 rcases hx with hk | hk
 ·refine wpAny_storeName_local hk hn (fun h' hn' hs=>?_) hcls
  obtain⟨oL,_,_,hoL,_⟩:=id hn
  refine h _ ⟨I.ok,I.os,I.bare,⟨fun b o e n hb hx=>?_,fun b o e n hb hx=>?_,I.base.free,fun b o e hx=>?_,I.base.tups,I.base.frzs,I.base.tbls⟩,⟨_,hn',fun j y v' e1 e2 e3=>?_⟩,fun y c e=>?_,I.free,I.freeC,fun p hp=>?_,tracked ⟨oL,hoL,I.free⟩ hs,by simpa using I.len⟩ ⟨_,hs,.inl rfl⟩
  ·exact(hs.2 b (ql (Qb (qk e) I.ok.above))).trans (I.base.keep b o e n hb hx)
  ·obtain⟨sl,e1⟩:=I.base.slot b o e n hb hx
   exact⟨sl,(hs.2 b (ql (Qb (qk e) I.ok.above))).trans e1⟩
  ·obtain⟨o',e1⟩:=I.base.there b o e hx
   exact⟨o',(hs.2 b (ql (Qb (qk e) I.ok.above))).trans e1⟩
  ·by_cases hj:j=i
   ·subst hj
    rw[hi]at e1;cases e1
    rw[List.getElem?_set_self hiσ]at e2
    cases e2
    exact⟨u,r,.inl ⟨hk,by simp⟩⟩
   ·rw[Qa (Ne.symm hj)]at e2
    obtain⟨u',r',q⟩:=hl j y v' e1 e2 e3
    refine⟨u',r',?_⟩
    rcases q with⟨k,e⟩ | ⟨k,c,e,z⟩
    ·refine .inl ⟨k,?_⟩
     have:y≠x:=fun e=>hj (Ymp hN e1 (e ▸ hi))
     simp[this,e]
    ·exact .inr ⟨k,c,e,z.sameBut hs (cne y c e)⟩
  ·obtain⟨w',z⟩:=I.cell y c e
   exact⟨w',z.sameBut hs (cne y c e)⟩
  ·obtain⟨e,n,ne,nf,d⟩:=I.pin p hp
   exact⟨(hs.2 p.1 ne).trans e,n,ne,nf,d⟩
 ·have hfn:X.fn x=true:=by
   rcases hf with z | z
   ·exact z
   ·rw[z]at hk;cases hk
  obtain⟨c,hc⟩:=I.ok.has x (.inl hk)
  obtain⟨w',z⟩:=I.cell x c hc
  refine wpAny_storeName_cell I.ok.kind hk hc z (fun h' hc' hs=>?_)
  obtain⟨oc,hoc,hocd⟩:=id z
  refine h { s with heap:=h' } ⟨I.ok,I.os,I.bare,⟨fun b o e n hb hx=>?_,fun b o e n hb hx=>?_,I.base.free,fun b o e hx=>?_,I.base.tups,I.base.frzs,I.base.tbls⟩,⟨m,hn.sameBut hs (Ne.symm (cne x c hc)),fun j y v' e1 e2 e3=>?_⟩,fun y c' e=>?_,I.free,I.freeC,fun p hp=>?_,tracked ⟨oc,hoc,I.freeC x c hc⟩ hs,by simpa using I.len⟩ ⟨c,hs,.inr hc⟩
  ·exact(hs.2 b (ql (Qb (qk e) (I.ok.cab x c hfn hc)))).trans (I.base.keep b o e n hb hx)
  ·obtain⟨sl,e1⟩:=I.base.slot b o e n hb hx
   exact⟨sl,(hs.2 b (ql (Qb (qk e) (I.ok.cab x c hfn hc)))).trans e1⟩
  ·obtain⟨o',e1⟩:=I.base.there b o e hx
   exact⟨o',(hs.2 b (ql (Qb (qk e) (I.ok.cab x c hfn hc)))).trans e1⟩
  ·by_cases hj:j=i
   ·subst hj
    rw[hi]at e1;cases e1
    rw[List.getElem?_set_self hiσ]at e2
    cases e2
    exact⟨u,r,.inr ⟨.inl hk,c,hc,hc'⟩⟩
   ·rw[Qa (Ne.symm hj)]at e2
    obtain⟨u',r',q⟩:=hl j y v' e1 e2 e3
    refine⟨u',r',?_⟩
    rcases q with q | ⟨k,c',e,z'⟩
    ·exact .inl q
    ·refine .inr ⟨k,c',e,z'.sameBut hs ?_⟩
     rintro rfl
     exact hj (Ymp hN e1 (I.ok.inj _ _ _ e hc ▸ hi))
  ·by_cases hcc:c'=c
   ·subst hcc;exact⟨_,hc'⟩
   ·obtain⟨w2,z2⟩:=I.cell y c' e
    exact⟨w2,z2.sameBut hs hcc⟩
  ·obtain⟨e,n,ne,nf,d⟩:=I.pin p hp
   refine⟨(hs.2 p.1 ?_).trans e,n,ne,nf,d⟩
   intro q
   rw[q,hoc]at e
   have q':oc=p.2:=Option.some.inj e
   exact d w' (by rw[<-q'];exact hocd)
theorem Ymq{M:Model}{A:Around}{E:Value->Shared->Prop}{i:Nat}{x:Str}{v:V}{u:Value}{Q:Unit->Shared->Prop}(I:Inv X pins σ H s)(hN:X.N.Nodup)(hi:X.N[i]?=some x)(hx:Loc X.env.scope x)(r:RelV v u)
 (h:∀s',Inv X pins (σ.set i (some v)) H s'->Q () s') (hf:X.fn x=true\/X.env.scope.names.lookup x=some .local:=by first | exact .inl rfl | exact .inr rfl | assumption):wpAny M A (storeName X.env x u) Q E s:=
 Yke I hN hi hx r (fun s' I' _=>h s' I') hf
theorem Inv.call'{s':Shared}{ch:List Addr}(I:Inv X pins σ H s)(ho:s'.os=s.os)(u:Un (frs X.stack) ch H H' s.heap s'.heap)(hok:HOk X.prog X.w H' s'.heap)(hg:AllBare s'.gens)
 (hch:∀b∈ch,(b∈X.ex\/X.s₀.heap.objs.size<=b)/\b≠X.env.locals/\(∀x c,X.env.cells.lookup x=some c->c≠b)/\∀p∈X.pn++pins,p.1≠b):Inv X pins σ H' s':=by
 obtain⟨h',g',d',t',o'⟩:=s'
 have e:o'=s.os:=ho
 subst e
 exact I.call (g':=g') (t':=t') (d':=d') u hok hg hch
end
abbrev XK:=Value->Option Addr->Hp->Prop
abbrev St:=List (Option V)
abbrev VK:=V->Hp->Prop
abbrev TE:=St->Hp->VK->Prop
abbrev TT:=St->Hp->(Bool->Hp->Prop)->Prop
abbrev TA:=St->Hp->(List V->Hp->Prop)->Prop
structure Ends where
 nx:St->Hp->Prop
 rt:VK
 bk:St->Hp->Prop:=fun _ _=>False
 ct:St->Hp->Prop:=fun _ _=>False
abbrev TS:=Ends->St->Hp->Prop
def EP(X:Cx)(pins:List (Addr × Obj))(σ:St)(Q:VK)(u:Value)(s':Shared):Prop:=∃v H',Inv X pins σ H' s'/\RelV v u/\Q v H'
def TP(X:Cx)(pins:List (Addr × Obj))(σ:St)(Q:Bool->Hp->Prop)(b:Bool)(s':Shared):Prop:=∃H',Inv X pins σ H' s'/\Q b H'
def AP(X:Cx)(pins:List (Addr × Obj))(σ:St)(Q:List V->Hp->Prop)(us:List Value)(s':Shared):Prop:=∃vs H',Inv X pins σ H' s'/\Vals vs us/\Q vs H'
def SP(X:Cx)(pins:List (Addr × Obj))(D:Ends)(f:Flow)(s':Shared):Prop:=
 match f with
 | .next=>∃σ' H',Inv X pins σ' H' s'/\D.nx σ' H'
 | .brk=>∃σ' H',Inv X pins σ' H' s'/\D.bk σ' H'
 | .cont=>∃σ' H',Inv X pins σ' H' s'/\D.ct σ' H'
 | .ret u=>∃v σ' H',Inv X pins σ' H' s'/\RelV v u/\D.rt v H'
def PE(X:Cx)(e:Expr)(t:TE):Prop:=
 ∀(pins:List (Addr × Obj)) (s:Shared) (σ:St) (H:Hp) (Q:VK),Inv X pins σ H s->t σ H Q->wpAny (model X.prog X.w) X.A (eval e X.env) (EP X pins σ Q) X.xe s
def PT(X:Cx)(e:Expr)(t:TT):Prop:=
 ∀(pins:List (Addr × Obj)) (s:Shared) (σ:St) (H:Hp) (Q:Bool->Hp->Prop),Inv X pins σ H s->t σ H Q->wpAny (model X.prog X.w) X.A (isTrue e X.env (eval e X.env)) (TP X pins σ Q) X.xe s
def PW(X:Cx)(e:Expr)(t:TT):Prop:=
 ∀(whole:Sem Value) (pins:List (Addr × Obj)) (s:Shared) (σ:St) (H:Hp) (Q:Bool->Hp->Prop),Inv X pins σ H s->t σ H Q->wpAny (model X.prog X.w) X.A (isTrue e X.env whole) (TP X pins σ Q) X.xe s
theorem PW.pt{X:Cx}{e:Expr}{t:TT}(h:PW X e t):PT X e t:=h _
def PA(X:Cx)(es:List Expr)(t:TA):Prop:=
 ∀(pos:Pos) (pins:List (Addr × Obj)) (s:Shared) (σ:St) (H:Hp) (Q:List V->Hp->Prop),Inv X pins σ H s->t σ H Q->wpAny (model X.prog X.w) X.A (spliced (backTo pos (starEach es X.env))) (AP X pins σ Q) X.xe s
def PS(X:Cx)(st:Stmt)(t:TS):Prop:=
 ∀(pins:List (Addr × Obj)) (s:Shared) (σ:St) (H:Hp) (D:Ends),Inv X pins σ H s->t D σ H->wpAny (model X.prog X.w) X.A (exec st X.env) (SP X pins D) X.xe s
def PSs(X:Cx)(st:List Stmt)(t:TS):Prop:=
 ∀(pins:List (Addr × Obj)) (s:Shared) (σ:St) (H:Hp) (D:Ends),Inv X pins σ H s->t D σ H->wpAny (model X.prog X.w) X.A (execs st X.env) (SP X pins D) X.xe s
theorem thn{α:Type}{t:Sem α}{Q Q':α->Shared->Prop}{M:Model}{A:Around}{E:Value->Shared->Prop}{s:Shared}(h:wpAny M A t Q E s)(hQ:∀a s,Q a s->Q' a s):wpAny M A t Q' E s:=wpAny_mono h hQ fun _ _ x=>x
end L2
namespace L2
open PySem PySem.Spec PyProof.Rows
section
variable {X:Cx}
def tVar(i:Nat):TE:=fun σ H Q=>∃v,σ[i]?=some (some v)/\Q v H
def tC(v:V):TE:=fun _ H Q=>Q v H
theorem Ydx{i:Nat}{x:Str}{pos:Pos}(hN:X.N[i]?=some x)(hv:Vis X.env.scope x)(hd:(x==("__debug__":Str))=false:=by decide)(hcd:(x==("__classdict__":Str))=false:=by decide):PE X (.Name x pos) (tVar i):=by
 intro pins s σ H Q I h
 obtain⟨v,e,h⟩:=h
 obtain⟨m,hn,hl⟩:=I.loc
 obtain⟨u,r,l⟩:=hl i x v hN e hv
 have fin:EP X pins σ Q u s:=⟨v,H,I,r,h⟩
 rcases l with⟨hk,hm⟩ | ⟨hk,c,hc,hcell⟩
 ·exact wpAny_Name (wpAny_loadName_local I.ok.kind hk hn hm fin) hd
 ·rcases hk with hk | hk
  ·exact wpAny_Name (wpAny_loadName_cell I.ok.kind hk hc hcell fin) hd
  ·exact wpAny_Name (wpAny_loadName_free I.ok.kind hk hc hcell fin hcd) hd
theorem Ytb{i j pos}:PE X (.Constant (.int i) j pos) (tC (.int i)):=fun _ _ _ H _ I h=>wpAny_Constant_int ⟨.int i,H,I.tok _,⟨_,rfl⟩,h⟩
theorem Yzj{b j pos}:PE X (.Constant (.bool b) j pos) (tC (.bl b)):=fun _ _ _ H _ I h=>Constant_bool ⟨.bl b,H,I,rfl,h⟩
theorem Yws{j pos}:PE X (.Constant .none j pos) (tC .non):=fun _ _ _ H _ I h=>Constant_none ⟨.non,H,I,rfl,h⟩
theorem Ytc{x j pos}:PE X (.Constant (.str x) j pos) (tC (.str x)):=fun _ _ _ H _ I h=>Calls.Constant_str ⟨.str x,H,I.tok _,⟨_,rfl⟩,h⟩
def Gl(X:Cx)(x:Str):Prop:=X.env.kindOf x=some .globalImplicit
theorem Yi2{E:Value->Shared->Prop}{pins:List (Addr × Obj)}{s:Shared}{σ:St}{H:Hp}{x:Str}{u:Value}{pos:Pos}{Q:Value->Shared->Prop}(I:Inv X pins σ H s)(hg:Gl X x)(hm:X.mg x=some u)(h:Q u s)
 (hd:(x==("__debug__":Str))=false:=by decide):wpAny (model X.prog X.w) X.A (eval (.Name x pos) X.env) Q E s:=
 Calls.Name_function_global I.ok.kind hg (Calls.loadGlobal_global (by rw[I.ok.glob];exact I.mod.glob.keeps I.bk) hm h) hd
theorem Ykf{E:Value->Shared->Prop}{pins:List (Addr × Obj)}{s:Shared}{σ:St}{H:Hp}{x:Str}{u:Value}{pos:Pos}{Q:Value->Shared->Prop}(I:Inv X pins σ H s)(hg:Gl X x)(hm:X.mg x=none)(hv:bootBuiltins x=some u)(h:Q u s)
 (hn:x≠"__name__":=by decide) (hd:(x==("__debug__":Str))=false:=by decide):wpAny (model X.prog X.w) X.A (eval (.Name x pos) X.env) Q E s:=by
 obtain⟨mb,h1,h2⟩:=I.mod.blt
 exact Calls.Name_function_global I.ok.kind hg (Calls.loadGlobal_builtin (by rw[I.ok.glob];exact I.mod.glob.keeps I.bk) hm (by rw[I.ok.blt];exact h1.keeps I.bk) ((h2 x hn).trans hv) h) hd
theorem Yot{x:Str}{v:V}{u:Value}{pos:Pos}(hg:Gl X x)(hm:X.mg x=some u)(r:RelV v u)(hd:(x==("__debug__":Str))=false:=by decide):PE X (.Name x pos) (tC v):=
 fun _ _ _ H _ I h=>Yi2 I hg hm ⟨v,H,I,r,h⟩ hd
theorem Ytz{x:Str}{v:V}{u:Value}{pos:Pos}(hg:Gl X x)(hm:X.mg x=none)(hv:bootBuiltins x=some u)(r:RelV v u)(hn:x≠"__name__":=by decide)(hd:(x==("__debug__":Str))=false:=by decide):PE X (.Name x pos) (tC v):=
 fun _ _ _ H _ I h=>Ykf I hg hm hv ⟨v,H,I,r,h⟩ hn hd
variable {a b:Expr} {ta tb:TE} {pos:Pos}
variable {tA tB':TT} {rest:List Expr}
def tAnd(t u:TT):TT:=fun σ H Q=>t σ H fun c H1=>if c=true then u σ H1 Q else Q false H1
def tOr(t u:TT):TT:=fun σ H Q=>t σ H fun c H1=>if c=true then Q true H1 else u σ H1 Q
def tNot(t:TT):TT:=fun σ H Q=>t σ H fun c H1=>Q (!c) H1
theorem Yt0(ha:PT X a tA):PW X (.BoolOp .And [a] pos) tA:=by
 intro wh pins s σ H Q I h
 refine isTrue_and (thn (ha pins s σ H Q I h) fun c s1 e=>?_)
 cases c with
 | true=>exact isTrue_and_nil e
 | false=>exact e
theorem Ywt(ha:PT X a tA):PW X (.BoolOp .Or [a] pos) tA:=by
 intro wh pins s σ H Q I h
 refine isTrue_or (thn (ha pins s σ H Q I h) fun c s1 e=>?_)
 cases c with
 | false=>exact isTrue_or_nil e
 | true=>exact e
theorem Ywu(ha:PT X a tA)(hb:PW X (.BoolOp .And (b::rest) pos) tB'):PW X (.BoolOp .And (a::b::rest) pos) (tAnd tA tB'):=by
 intro wh pins s σ H Q I h
 refine isTrue_and (thn (ha pins s σ H _ I h) fun c s1 hx_=>?_)
 obtain⟨H1,I1,q1⟩:=hx_
 cases c with
 | true=>exact hb wh pins s1 σ H1 Q I1 q1
 | false=>exact⟨H1,I1,q1⟩
theorem Yzk(ha:PT X a tA)(hb:PW X (.BoolOp .Or (b::rest) pos) tB'):PW X (.BoolOp .Or (a::b::rest) pos) (tOr tA tB'):=by
 intro wh pins s σ H Q I h
 refine isTrue_or (thn (ha pins s σ H _ I h) fun c s1 hx_=>?_)
 obtain⟨H1,I1,q1⟩:=hx_
 cases c with
 | true=>exact⟨H1,I1,q1⟩
 | false=>exact hb wh pins s1 σ H1 Q I1 q1
theorem Ywv(ha:PT X a tA):PT X (.UnaryOp .Not a pos) (tNot tA):=by
 intro pins s σ H Q I h
 exact isTrue_not (ha pins s σ H (fun c H1=>Q (!c) H1) I h)
def Yzl(ta tb:TE):TE:=fun σ H Q=>ta σ H fun x H1=>∃c,x=.bl c/\if c=true then tb σ H1 Q else Q (.bl false) H1
def Yzm(ta:TE):TE:=fun σ H Q=>ta σ H fun x H1=>∃c,x=.bl c/\Q (.bl (!c)) H1
theorem Yww{op}{t:TE}(h:PE X a t):PE X (.BoolOp op [a] pos) t:=fun pins s σ H Q I hw=>BoolOp_one (h pins s σ H Q I hw)
theorem Ywx(ha:PE X a ta)(hb:PE X (.BoolOp .And (b::rest) pos) tb):PE X (.BoolOp .And (a::b::rest) pos) (Yzl ta tb):=by
 intro pins s σ H Q I h
 refine BoolOp_and (thn (ha pins s σ H _ I h) fun v s1 hx_=>?_)
 obtain⟨x,H1,I1,r1,q1⟩:=hx_
 obtain⟨c,rfl,q1⟩:=q1
 cases r1
 refine wpAny_truthy_bool ?_
 cases c with
 | true=>exact hb pins s1 σ H1 Q I1 q1
 | false=>exact⟨.bl false,H1,I1,rfl,q1⟩
theorem Ywy(ha:PE X a ta):PE X (.UnaryOp .Not a pos) (Yzm ta):=by
 intro pins s σ H Q I h
 refine UnaryOp_ (thn (ha pins s σ H _ I h) fun v s1 hx_=>?_)
 obtain⟨x,H1,I1,r1,q1⟩:=hx_
 obtain⟨c,rfl,q1⟩:=q1
 cases r1
 exact not_of (wpAny_truthy_bool ⟨.bl (!c),H1,I1,rfl,q1⟩)
def tIf(t:TT)(ta tb:TE):TE:=fun σ H Q=>t σ H fun c H1=>if c=true then ta σ H1 Q else tb σ H1 Q
theorem Yrl{c:Expr}(hc:PT X c tA)(ha:PE X a ta)(hb:PE X b tb):PE X (.IfExp c a b pos) (tIf tA ta tb):=by
 intro pins s σ H Q I h
 refine wpAny_IfExp (thn (hc pins s σ H _ I h) fun d s1 hx_=>?_)
 obtain⟨H1,I1,q1⟩:=hx_
 cases d with
 | true=>exact ha pins s1 σ H1 Q I1 q1
 | false=>exact hb pins s1 σ H1 Q I1 q1
end
end L2
namespace L2
open PySem PySem.Spec PyProof.Rows
def SqL(K:W.Frag)(H:Hp)(a:Addr)(xs:List V):Prop:=
 Rd H a (.lst xs)\/
  ∃(o:Obj) (its:Array Value) (n:Nat),K.lookup a=some o/\o.cls=.type "list"/\o.dict=none/\o.data=.seq its n/\its.size<=sizeLine/\Vals xs its.toList
def SqT(K:W.Frag)(H:Hp)(a:Addr)(xs:List V):Prop:=
 Rd H a (.tup xs)\/
  ∃(o:Obj) (its:Array Value) (n:Nat),K.lookup a=some o/\o.cls=.type "tuple"/\o.data=.seq its n/\its.size<=sizeLine/\Vals xs its.toList
def absV:Value->Option V
 | .none=>some .non
 | .bool b=>some (.bl b)
 | .int i _=>some (.int i)
 | .str x _=>some (.str x)
 | .bytes b _=>some (.byt b)
 | .float b _=>some (.flt b)
 | .ref a=>some (.ref a)
 | .type n=>some (.ty n)
 | _=>none
theorem RelV.abs{x:V}{u:Value}(r:RelV x u):absV u=some x:=by
 cases x with
 | non=>cases r;rfl
 | bl _=>cases r;rfl
 | int _=>obtain⟨t,rfl⟩:=r;rfl
 | str _=>obtain⟨t,rfl⟩:=r;rfl
 | byt _=>obtain⟨t,rfl⟩:=r;rfl
 | flt _=>obtain⟨t,rfl⟩:=r;rfl
 | ref _=>cases r;rfl
 | ty _=>cases r;rfl
theorem RelV.inj{x y:V}{u:Value}(r:RelV x u)(q:RelV y u):x=y:=Option.some.inj (r.abs.symm.trans q.abs)
theorem Vals.inj:∀{xs ys:List V} {us:List Value},Vals xs us->Vals ys us->xs=ys
 :=by
  intro xs ys us h
  induction h generalizing ys with
  | nil=>
    intro h2
    cases h2
    rfl
  | cons r t ih=>
    intro h2
    cases h2 with
    | cons r' t'=>rw[r.inj r',ih t']
section
variable {X:Cx} {pins:List (Addr × Obj)} {σ:St} {H:Hp} {s:Shared} {a:Addr} {xs ys:List V}
theorem SqL.of{K:W.Frag}(h:H a=some (.lst xs)):SqL K H a xs:=.inl (.inl h)
theorem Inv.list(I:Inv X pins σ H s)(h:SqL X.K H a xs):∃its:List Value,Vals xs its/\PlainL s.heap a its.toArray/\xs.length<=sizeLine:=by
 rcases h with h | ⟨o,its,n,hk,hc,hd,hs,hz,r⟩
 ·obtain⟨z,its,n,r,e⟩:=h.ok I.hok
  exact⟨its,r,⟨_,n,e,rfl,rfl,rfl⟩,z⟩
 ·refine⟨its.toList,r,⟨o,n,I.kIn a o hk,hc,hd,by simpa using hs⟩,?_⟩
  have e:=r.length
  simp only[qi]at e
  lia
theorem Inv.tuple(I:Inv X pins σ H s)(h:SqT X.K H a xs):∃its:List Value,Vals xs its/\IsTup s.heap a its.toArray/\xs.length<=sizeLine:=by
 rcases h with h | ⟨o,its,n,hk,hc,hs,hz,r⟩
 ·obtain⟨z,its,r,p⟩:=h.ok I.hok
  exact⟨its,r,p,z⟩
 ·refine⟨its.toList,r,⟨o,I.kIn a o hk,hc,n,by simpa using hs⟩,?_⟩
  have e:=r.length
  simp only[qi]at e
  lia
theorem Inv.list_inj(I:Inv X pins σ H s)(h:SqL X.K H a xs)(h':SqL X.K H a ys):xs=ys:=by
 obtain⟨its,r,⟨o,n,e,_,_,d⟩,_⟩:=I.list h
 obtain⟨its',r',⟨o',n',e',_,_,d'⟩,_⟩:=I.list h'
 rw[e]at e';cases e'
 rw[d]at d'
 injection d' with d1 _
 have:its=its':=by simpa using congrArg Array.toList d1
 subst this
 exact r.inj r'
theorem Inv.tuple_inj(I:Inv X pins σ H s)(h:SqT X.K H a xs)(h':SqT X.K H a ys):xs=ys:=by
 obtain⟨its,r,⟨o,e,_,n,d⟩,_⟩:=I.tuple h
 obtain⟨its',r',⟨o',e',_,n',d'⟩,_⟩:=I.tuple h'
 rw[e]at e';cases e'
 rw[d]at d'
 injection d' with d1 _
 have:its=its':=by simpa using congrArg Array.toList d1
 subst this
 exact r.inj r'
end
abbrev Cx.wish(X:Cx)(E:Value->Shared->Prop):Cx:={ X with xe:=E }
abbrev Cx.nox(X:Cx):Cx:=X.wish fun _ _=>False
theorem Cx.Ok.wish{X:Cx}(ok:X.Ok)(E:Value->Shared->Prop):(X.wish E).Ok:=
 ⟨ok.mod,ok.kind,ok.glob,ok.blt,ok.above,ok.inj,ok.has,ok.cab,ok.hd,ok.frames,ok.stk,ok.exf,ok.bs,ok.bsz,ok.noex,ok.exfs,ok.funs,ok.frf⟩
theorem Cx.Ok.unwish{X:Cx}{E:Value->Shared->Prop}(ok:(X.wish E).Ok):X.Ok:=
 ⟨ok.mod,ok.kind,ok.glob,ok.blt,ok.above,ok.inj,ok.has,ok.cab,ok.hd,ok.frames,ok.stk,ok.exf,ok.bs,ok.bsz,ok.noex,ok.exfs,ok.funs,ok.frf⟩
section
variable {X:Cx} {pins:List (Addr × Obj)} {σ:St} {H:Hp} {s:Shared} {E:Value->Shared->Prop} {st:Stmt} {rest:List Stmt} {t u:TS} {e:Expr} {te:TE} {pos:Pos}
theorem Inv.wish(I:Inv X pins σ H s)(E:Value->Shared->Prop):Inv (X.wish E) pins σ H s:=⟨I.ok.wish E,I.os,I.bare,I.base,I.loc,I.cell,I.free,I.freeC,I.pin,I.hok,I.len⟩
theorem Inv.unwish(I:Inv (X.wish E) pins σ H s):Inv X pins σ H s:=⟨I.ok.unwish,I.os,I.bare,I.base,I.loc,I.cell,I.free,I.freeC,I.pin,I.hok,I.len⟩
theorem SP.unwish{D:Ends}{f:Flow}{s':Shared}(h:SP (X.wish E) pins D f s'):SP X pins D f s':=by
 cases f with
 | next=>obtain⟨σ',H',I,q⟩:=h;exact⟨σ',H',I.unwish,q⟩
 | brk=>obtain⟨σ',H',I,q⟩:=h;exact⟨σ',H',I.unwish,q⟩
 | cont=>obtain⟨σ',H',I,q⟩:=h;exact⟨σ',H',I.unwish,q⟩
 | ret u=>obtain⟨v,σ',H',I,r,q⟩:=h;exact⟨v,σ',H',I.unwish,r,q⟩
theorem PSs.nox{st:List Stmt}{t:TS}(h:PSs X.nox st t):PSs X st t:=fun pins s σ H D I hw=>
 wpAny_mono (h pins s σ H D (I.wish _) hw) (fun _ _ q=>q.unwish) fun _ _ z=>False.elim z
def Yzn:TS:=fun D σ H=>D.nx σ H
def tSeq(t u:TS):TS:=fun D σ H=>t { D with nx:=u D } σ H
theorem Ylq:PSs X [] Yzn:=fun _ _ σ H _ I h=>wpAny_execs_nil ⟨σ,H,I,h⟩
theorem Ycq(h1:PS X st t)(h2:PSs X rest u):PSs X (st::rest) (tSeq t u):=by
 intro pins s σ H D I h
 refine wpAny_execs_cons (thn (h1 pins s σ H { D with nx:=u D } I h) fun f s1 q=>?_)
 cases f with
 | next=>
   obtain⟨σ',H',I',q⟩:=q
   exact h2 pins s1 σ' H' D I' q
 | ret v=>exact q
 | brk=>exact q
 | cont=>exact q
theorem Yi3(h1:PS X st t):PSs X [st] t:=by
 intro pins s σ H D I h
 refine wpAny_execs_cons (thn (h1 pins s σ H D I h) fun f s1 q=>?_)
 cases f with
 | next=>exact wpAny_execs_nil q
 | ret v=>exact q
 | brk=>exact q
 | cont=>exact q
theorem Inv.quiet{pins:List (Addr × Obj)}{σ:St}{H:Hp}{s:Shared}(I:Inv X pins σ H s):interactive X.env=false:=by simp[interactive,I.ok.kind]
def Yzo(te:TE):TS:=fun D σ H=>te σ H fun _ H1=>D.nx σ H1
theorem Yep(he:PE X e te)(hs:swapsWith e none pos.line X.env=pure false:=by rfl):PS X (.Expr e pos) (Yzo te):=by
 intro pins s σ H D I h
 refine wpAny_Expr_any (thn (he pins s σ H _ I h) fun v s1 hx_=>?_) I.quiet hs
 obtain⟨x,H1,I1,r1,q1⟩:=hx_
 exact⟨σ,H1,I1,q1⟩
def tRet(te:TE):TS:=fun D σ H=>te σ H D.rt
theorem You(he:PE X e te):PS X (.Return (some e) pos) (tRet te):=by
 intro pins s σ H D I h
 refine wpAny_Return_some (thn (he pins s σ H _ I h) fun v s1 hx_=>?_)
 obtain⟨x,H1,I1,r1,q1⟩:=hx_
 exact⟨x,σ,H1,I1,r1,q1⟩
def tIfS(c:TT)(t u:TS):TS:=fun D σ H=>c σ H fun b H1=>if b=true then t D σ H1 else u D σ H1
theorem Yt1{c:Expr}{a b:List Stmt}{tc:TT}(hc:PT X c tc)(ha:PSs X a t)(hb:PSs X b u):PS X (.If c a b pos) (tIfS tc t u):=by
 intro pins s σ H D I h
 refine wpAny_If (thn (hc pins s σ H _ I h) fun d s1 hx_=>?_)
 obtain⟨H1,I1,q1⟩:=hx_
 cases d with
 | true=>exact ha pins s1 σ H1 D I1 q1
 | false=>exact hb pins s1 σ H1 D I1 q1
end
abbrev TG:=V->St->Hp->(St->Hp->Prop)->Prop
abbrev TGs:=List V->St->Hp->(St->Hp->Prop)->Prop
def PG(X:Cx)(target:Expr)(t:TG):Prop:=
 ∀(pins:List (Addr × Obj)) (s:Shared) (σ:St) (H:Hp) (v:V) (u:Value) (Q:St->Hp->Prop),Inv X pins σ H s->RelV v u->t v σ H Q->
  wpAny (model X.prog X.w) X.A (assign target X.env u) (fun _ s'=>∃σ' H',Inv X pins σ' H' s'/\Q σ' H') X.xe s
def PGs(X:Cx)(ts:List Expr)(t:TGs):Prop:=
 ∀(pins:List (Addr × Obj)) (s:Shared) (σ:St) (H:Hp) (vs:List V) (us:List Value) (Q:St->Hp->Prop),Inv X pins σ H s->Vals vs us->t vs σ H Q->
  wpAny (model X.prog X.w) X.A (assignInOrder ((assignEach ts X.env).map (·.2)) us) (fun _ s'=>∃σ' H',Inv X pins σ' H' s'/\Q σ' H') X.xe s
abbrev TSet:=V->V->V->Hp->(Hp->Prop)->Prop
def PSet(X:Cx)(t:TSet):Prop:=
 ∀(pins:List (Addr × Obj)) (s:Shared) (σ:St) (H:Hp) (o i v:V) (ov iv u:Value) (Q:Hp->Prop),Inv X pins σ H s->RelV o ov->RelV i iv->RelV v u->t o i v H Q->
  wpAny (model X.prog X.w) X.A (setItem ov iv u) (fun _ s'=>∃H',Inv X pins σ H' s'/\Q H') X.xe s
section
variable {X:Cx} {pos:Pos}
def Ynt(i:Nat):TG:=fun v σ H Q=>Q (σ.set i (some v)) H
theorem Yeq{i:Nat}{x:Str}(hN:X.N.Nodup)(hi:X.N[i]?=some x)(hx:Loc X.env.scope x)(hf:X.fn x=true\/X.env.scope.names.lookup x=some .local:=by first | exact .inl rfl | exact .inr rfl | assumption):PG X (.Name x pos) (Ynt i):=by
 intro pins s σ H v u Q I r h
 exact wpAny_assign_Name (Ymq I hN hi hx r (fun s' I'=>⟨_,H,I',h⟩) hf)
def gNil:TGs:=fun vs σ H Q=>vs=[]/\Q σ H
def Yzp(t:TG)(u:TGs):TGs:=fun vs σ H Q=>∃v r,vs=v::r/\t v σ H fun σ' H'=>u r σ' H' Q
theorem Yov:PGs X [] gNil:=by
 intro pins s σ H vs us Q I r h
 obtain⟨e,h⟩:=h
 subst e
 cases r
 exact assignInOrder_nil ⟨σ,H,I,h⟩
theorem Yea{e:Expr}{es:List Expr}{t:TG}{u:TGs}(h1:PG X e t)(h2:PGs X es u)
 (hs:(assignEach (e::es) X.env).map (·.2)=assign e X.env::(assignEach es X.env).map (·.2):=by rfl):PGs X (e::es) (Yzp t u):=by
 intro pins s σ H vs us Q I r h
 obtain⟨v,vr,e1,h⟩:=h
 subst e1
 cases r with
 | cons r rr=>
   rw[hs]
   refine assignInOrder_cons (thn (h1 pins s σ H _ _ _ I r h) fun _ s1 hx_=>?_)
   obtain⟨σ1,H1,I1,q1⟩:=hx_
   exact h2 pins s1 σ1 H1 _ _ Q I1 rr q1
def gTup(K:W.Frag)(n:Nat)(t:TGs):TG:=fun v σ H Q=>∃a xs,v=.ref a/\SqT K H a xs/\xs.length=n/\t xs σ H Q
theorem Ywz{es:List Expr}{k:Nat}{t:TGs}{n:Nat}(hc:X.calm=true)(h:PGs X es t)
 (hn:(assignEach es X.env).length=n:=by rfl) (hst:(assignEach es X.env).findIdx? (·.1)=none:=by rfl):PG X (.Tuple es k pos) (gTup X.K n t):=by
 intro pins s σ H v u Q I r hw
 obtain⟨a,xs,e1,hq,hl,hw⟩:=hw
 subst e1
 cases r
 obtain⟨its,rv,ht,hz⟩:=I.tuple hq
 refine assign_Tuple_tuple (I.ok.hd hc) ht (by simp[hn,<-hl,rv.length]) hst fun h' hx=>?_
 have I1:Inv X pins σ H { s with heap:=h' }:=I.kept (t':=s.toks) fun b o e=>hx b o (ql (qk e)) e
 exact h pins _ σ H xs _ Q I1 (by simpa using rv) hw
def gSub(to ti:TE)(t:TSet):TG:=fun v σ H Q=>to σ H fun o H1=>ti σ H1 fun i H2=>t o i v H2 fun H3=>Q σ H3
theorem Yw0{o i:Expr}{to ti:TE}{t:TSet}(ho:PE X o to)(hi:PE X i ti)(hs:PSet X t)
 (ha:∀v,assign (.Subscript o i pos) X.env v=(do
  let ov <-holding [v] (eval o X.env)
  let iv <-holding [v,ov] (eval i X.env)
  standAt pos
  holding [v,ov,iv] (setItem ov iv v)
  release [v,ov,iv] []):=by intro _;rfl):PG X (.Subscript o i pos) (gSub to ti t):=by
 intro pins s σ H v u Q I r h
 rw[ha]
 refine wpAny_bind (wpAny_holding (thn (ho pins s σ H _ I h) fun ov s1 hx_=>?_))
 obtain⟨x,H1,I1,r1,q1⟩:=hx_
 refine wpAny_bind (wpAny_holding (thn (hi pins s1 σ H1 _ I1 q1) fun iv s2 hx_=>?_))
 obtain⟨y,H2,I2,r2,q2⟩:=hx_
 refine wpAny_bind (wpAny_standAt (wpAny_bind (wpAny_holding (thn (hs pins s2 σ H2 x y v ov iv u _ I2 r1 r2 r q2) fun _ s3 hx_=>?_))))
 obtain⟨H3,I3,q3⟩:=hx_
 exact wpAny_release ⟨σ,H3,I3,q3⟩
def tAsg(te:TE)(g:TG):TS:=fun D σ H=>te σ H fun x H1=>g x σ H1 D.nx
theorem Ytd{tg e:Expr}{te:TE}{g:TG}(he:PE X e te)(hg:PG X tg g)(hs:swapsWithSole [tg] e pos.line X.env=pure false:=by rfl)(hw:swappedStores [tg] e X.env=pure none:=by rfl)
 (h1:(assignEach [tg] X.env).map (·.2)=[assign tg X.env]:=by rfl):PS X (.Assign [tg] e pos) (tAsg te g):=by
 intro pins s σ H D I h
 refine wpAny_Assign_stores (thn (he pins s σ H _ I h) fun v s1 hx_=>?_) hs hw
 obtain⟨x,H1,I1,r1,q1⟩:=hx_
 rw[h1]
 exact thn (hg pins s1 σ H1 x v _ I1 r1 q1) fun _ s2 q=>q
theorem Ymr{i:Nat}{x:Str}{e:Expr}{te:TE}{pos':Pos}(hN:X.N.Nodup)(hi:X.N[i]?=some x)(hx:Loc X.env.scope x)(he:PE X e te)(hs:swapsWith e (some (.Name x pos')) pos.line X.env=pure false:=by rfl)(hf:X.fn x=true\/X.env.scope.names.lookup x=some .local:=by first | exact .inl rfl | exact .inr rfl | assumption) :
 PS X (.Assign [.Name x pos'] e pos) (tAsg te (Ynt i)):=by
 intro pins s σ H D I h
 refine wpAny_Assign_Name (thn (he pins s σ H _ I h) fun v s1 hx_=>?_) hs
 obtain⟨y,H1,I1,r1,q1⟩:=hx_
 exact Ymq I1 hN hi hx r1 (fun s2 I2=>⟨_,H1,I2,q1⟩) hf
end
structure It where
 go:Nat->Hp->Prop
 yld:Nat->Hp->V->Hp->Prop
 stop:Nat->Hp->Prop
def FpOk(X:Cx)(pins:List (Addr × Obj))(H:Hp)(b:Addr):Prop:=
 H b=none/\b≠X.env.locals/\b∉X.fs/\(b∈X.ex\/X.s₀.heap.objs.size<=b)/\(∀x c,X.env.cells.lookup x=some c->c≠b)/\∀p∈X.pn++pins,p.1≠b
theorem Inv.fpOk{X:Cx}{pins:List (Addr × Obj)}{σ:St}{H H':Hp}{s:Shared}{b:Addr}(I:Inv X pins σ H s)(hb:s.heap.objs.size<=b)(hn:H' b=none):FpOk X pins H' b:=by
 refine⟨hn,Nat.ne_of_gt (Qb I.lt hb),I.nofs hb,.inr (qz I.sz hb),fun x c e z=>?_,fun p hp z=>?_⟩
 ·obtain⟨v,q⟩:=I.cell x c e
  exact absurd (Qb q.lt (by rw[z];exact hb)) (Nat.lt_irrefl _)
 ·exact absurd (Qb (qk (I.pin p hp).1) (by rw[z];exact hb)) (Nat.lt_irrefl _)
structure Turn(P:Program)(w:World)(K:W.Frag)(tg:Expr)(J:It)(fp:List Addr)(it:Addr)(tn:Nat->Heap->Prop):Prop where
 mem:it∈fp
 obj:∀i h,tn i h->∀b∈fp,∃o,h.get? b=some o/\∀v,o.data≠.cell v
 keep:∀i h h',tn i h->(∀b∈fp,∀o,h.get? b=some o->h'.get? b=some o)->tn i h'
 item:∀(X:Cx),X.prog=P->X.w=w->X.K=K->X.calm=true->∀(i:Nat) (pins:List (Addr × Obj)) (s:Shared) (σ:St) (H:Hp) (E:Value->Shared->Prop),Inv X pins σ H s->(∀b∈fp,FpOk X pins H b)->tn i s.heap->J.go i H->
  wpAny (model P w) X.A (pyNext (.ref it)) (fun r s1=>∃u,r=some u/\
   wpAny (model P w) X.A (letOwnedTupleGo tg (.ref it) u) (fun _ s2=>∃x H',Inv X pins σ H' s2/\RelV x u/\J.yld i H x H'/\tn (i+1) s2.heap/\∀b∈fp,H' b=none) E s1) E s
 done:∀(X:Cx),X.prog=P->X.w=w->X.K=K->X.calm=true->∀(i:Nat) (pins:List (Addr × Obj)) (s:Shared) (σ:St) (H:Hp) (E:Value->Shared->Prop),Inv X pins σ H s->(∀b∈fp,FpOk X pins H b)->tn i s.heap->J.stop i H->
  wpAny (model P w) X.A (pyNext (.ref it)) (fun r s1=>r=none/\Inv X pins σ H s1) E s
 self:∀(A:Around) (i:Nat) (s:Shared) (Q:Value->Shared->Prop) (E:Value->Shared->Prop),tn i s.heap->Q (.ref it) s->wpAny (model P w) A (pyIter (.ref it)) Q E s
abbrev TI:=St->Hp->(It->Hp->Prop)->Prop
def PIE(X:Cx)(pins:List (Addr × Obj))(σ:St)(tg:Expr)(R:It->Hp->Prop)(itv:Value)(s2:Shared):Prop:=
 ∃(it:Addr) (fp:List Addr) (tn:Nat->Heap->Prop) (J:It) (H':Hp),itv=.ref it/\Inv X pins σ H' s2/\Turn X.prog X.w X.K tg J fp it tn/\tn 0 s2.heap/\(∀b∈fp,FpOk X pins H' b)/\R J H'
def PI(X:Cx)(tg iter:Expr)(wi:TI):Prop:=
 ∀(pins:List (Addr × Obj)) (s:Shared) (σ:St) (H:Hp) (R:It->Hp->Prop),Inv X pins σ H s->wi σ H R->
  wpAny (model X.prog X.w) X.A (eval iter X.env) (fun v s1=>wpAny (model X.prog X.w) X.A (pyIter v) (PIE X pins σ tg R) X.xe s1) X.xe s
theorem Yt2{M:Model}{A:Around}{E:Value->Shared->Prop}{s:Shared}{tg:Expr}{it:Addr}{u:Value}{o:Obj}{n:String}{vs:Array Value}{Q:Unit->Shared->Prop}(ho:s.heap.get? it=some o)(hc:o.cls=.type n)(hd:o.data=.fields vs)
 (hn:["enumerate","zip","dict_itemiterator","dict_reverseitemiterator","odict_iterator","itertools.zip_longest","itertools.pairwise"].contains n=false) (hQ:Q () s):wpAny M A (letOwnedTupleGo tg (.ref it) u) Q E s:=by
 unfold letOwnedTupleGo
 cases tg<;>first
  | exact wpAny_pure hQ
  | (cases u<;>first
   | exact wpAny_pure hQ
   | (refine wpAny_bind (wpAny_load ho ?_)
      rw[hc,hd]
      show wpAny M A (if (["enumerate","zip","dict_itemiterator","dict_reverseitemiterator","odict_iterator","itertools.zip_longest","itertools.pairwise"].contains n&&vs[0]?==some (rawInt _))=true then _ else _) Q E s
      rw[if_neg (by intro h;rw[hn,Bool.false_and]at h;cases h)]
      exact wpAny_pure hQ))
def Itl(K:W.Frag)(a:Addr):It:=
 ⟨fun i H=>∃xs x,SqL K H a xs/\xs[i]?=some x,fun i H x H'=>H'=H/\∀xs,SqL K H a xs->xs[i]?=some x,fun i H=>∃xs,SqL K H a xs/\xs.length<=i⟩
def Itt(K:W.Frag)(a:Addr):It:=
 ⟨fun i H=>∃xs x,SqT K H a xs/\xs[i]?=some x,fun i H x H'=>H'=H/\∀xs,SqT K H a xs->xs[i]?=some x,fun i H=>∃xs,SqT K H a xs/\xs.length<=i⟩
def Itr(lo:Int)(n:Nat):It:=⟨fun i _=>i < n,fun i H x H'=>H'=H/\x=.int (lo+i),fun i _=>n<=i⟩
theorem Yow{P:Program}{w:World}{K:W.Frag}{tg:Expr}(a it:Addr):Turn P w K tg (Itl K a) [it] it (fun i h=>h.IsListIter it a i) where
 mem:=by simp
 obj:=fun i h st b hb=>by
  have e:b=it:=by simpa using hb
  subst e
  obtain⟨o,e,c,d⟩:=st
  exact⟨o,e,fun v z=>by rw[d]at z;cases z⟩
 keep:=fun i h h' st k=>st.at fun o e=>k it (by simp) o e
 item:=by
  intro X hP hw hK hc i pins s σ H E I hf st hg
  subst hP hw hK
  obtain⟨xs,x,hq,hx⟩:=hg
  obtain⟨its,rv,p,hz⟩:=I.list hq
  obtain⟨u,hu,ru⟩:=rv.get hx
  obtain⟨f0,f1,f2,f3,f4,f5⟩:=hf it (by simp)
  refine wpAny_pyNext_list_item st p.isList (x:=u) (by simpa using hu) fun h' st' sb=>?_
  have I1:Inv X pins σ H { s with heap:=h' }:=I.turned (t':=s.toks) (fun b o hb e=>(sb.2 b hb).trans e) f0 f1 f3 f4 f5
  obtain⟨o,e,c,d⟩:=id st'
  exact⟨u,rfl,Yt2 (s:={ s with heap:=h' }) e c d (by decide) ⟨x,H,I1,ru,⟨rfl,fun ys hy=>by rw[I.list_inj hy hq];exact hx⟩,st',fun b hb=>(hf b hb).1⟩⟩
 done:=by
  intro X hP hw hK hc i pins s σ H E I hf st hg
  subst hP hw hK
  obtain⟨xs,hq,hx⟩:=hg
  obtain⟨its,rv,p,hz⟩:=I.list hq
  obtain⟨f0,f1,f2,f3,f4,f5⟩:=hf it (by simp)
  have hl:=rv.length
  exact wpAny_pyNext_list_end (I.ok.hd hc) st p.isList (by simp;lia) fun h' eb=>⟨rfl,I.turned (t':=s.toks) (fun b o hb e=>eb b o hb e) f0 f1 f3 f4 f5⟩
 self:=fun _ _ _ _ _ st h=>wpAny_pyIter_listiter st h
theorem Ynu{P:Program}{w:World}{K:W.Frag}{tg:Expr}(a it:Addr):Turn P w K tg (Itt K a) [it] it (fun i h=>h.IsTupleIter it a i) where
 mem:=by simp
 obj:=fun i h st b hb=>by
  have e:b=it:=by simpa using hb
  subst e
  obtain⟨o,e,c,d⟩:=st
  exact⟨o,e,fun v z=>by rw[d]at z;cases z⟩
 keep:=fun i h h' st k=>st.at fun o e=>k it (by simp) o e
 item:=by
  intro X hP hw hK hc i pins s σ H E I hf st hg
  subst hP hw hK
  obtain⟨xs,x,hq,hx⟩:=hg
  obtain⟨its,rv,p,hz⟩:=I.tuple hq
  obtain⟨u,hu,ru⟩:=rv.get hx
  obtain⟨f0,f1,f2,f3,f4,f5⟩:=hf it (by simp)
  refine wpAny_pyNext_tuple_item st (show s.heap.IsTuple a its.toArray from p) (x:=u) (by simpa using hu) fun h' st' sb=>?_
  have I1:Inv X pins σ H { s with heap:=h' }:=I.turned (t':=s.toks) (fun b o hb e=>(sb.2 b hb).trans e) f0 f1 f3 f4 f5
  obtain⟨o,e,c,d⟩:=id st'
  exact⟨u,rfl,Yt2 (s:={ s with heap:=h' }) e c d (by decide) ⟨x,H,I1,ru,⟨rfl,fun ys hy=>by rw[I.tuple_inj hy hq];exact hx⟩,st',fun b hb=>(hf b hb).1⟩⟩
 done:=by
  intro X hP hw hK hc i pins s σ H E I hf st hg
  subst hP hw hK
  obtain⟨xs,hq,hx⟩:=hg
  obtain⟨its,rv,p,hz⟩:=I.tuple hq
  obtain⟨f0,f1,f2,f3,f4,f5⟩:=hf it (by simp)
  have hl:=rv.length
  exact wpAny_pyNext_tuple_end (I.ok.hd hc) st (show s.heap.IsTuple a its.toArray from p) (by simp;lia) fun h' eb=>⟨rfl,I.turned (t':=s.toks) (fun b o hb e=>eb b o hb e) f0 f1 f3 f4 f5⟩
 self:=fun _ _ _ _ _ st h=>wpAny_pyIter_tupleiter st h
theorem Ynv{P:Program}{w:World}{K:W.Frag}{tg:Expr}(it:Addr)(lo:Int)(n:Nat):Turn P w K tg (Itr lo n) [it] it (fun i h=>IsRangeIter h it (lo+(i:Nat) * 1) ((n:Int) - (i:Nat)) 1) where
 mem:=by simp
 obj:=fun i h st b hb=>by
  have e:b=it:=by simpa using hb
  subst e
  exact⟨_,st,fun v z=>by
   have z':Data.fields _=Data.cell v:=z
   cases z'⟩
 keep:=fun i h h' st k=>k it (by simp) _ st
 item:=by
  intro X hP hw hK hc i pins s σ H E I hf st hg
  subst hP hw hK
  obtain⟨f0,f1,f2,f3,f4,f5⟩:=hf it (by simp)
  have W:=Walks.range (prog:=X.prog) (w:=X.w) (I.ok.hd hc) it lo 1 n
  refine W.item i s _ _ hg st fun v h' tk hv st' kk=>?_
  obtain⟨t,rfl⟩:=hv
  have I1:Inv X pins σ H { s with heap:=h',toks:=tk }:=I.turned (fun b o hb e=>kk b o (by simpa using hb) e) f0 f1 f3 f4 f5
  refine⟨_,rfl,Yt2 (s:={ s with heap:=h',toks:=tk }) (n:="range_iterator") st' rfl rfl (by decide) ⟨.int (lo+i),H,I1,⟨t,?_⟩,⟨rfl,rfl⟩,st',fun b hb=>(hf b hb).1⟩⟩
  rw[Int.mul_one]
 done:=by
  intro X hP hw hK hc i pins s σ H E I hf st hg
  subst hP hw hK
  obtain⟨f0,f1,f2,f3,f4,f5⟩:=hf it (by simp)
  exact wpAny_pyNext_range_end (I.ok.hd hc) st (by have:n<=i:=hg;lia) fun h' eb=>⟨rfl,I.turned (t':=s.toks) (fun b o hb e=>eb b o hb e) f0 f1 f3 f4 f5⟩
 self:=fun _ _ _ _ _ st h=>wpAny_pyIter_rangeiter st h
end L2
namespace L2
open PySem PySem.Spec PyProof.Rows
section
variable {X:Cx} {tg:Expr}
theorem Yrm{pins:List (Addr × Obj)}{σ:St}{H:Hp}{s:Shared}{R:It->Hp->Prop}{E:Value->Shared->Prop}{lo hi:Int}{t u v:Tok}{tk:Nat}(I:Inv X pins σ H s)(h1:-(2 ^ 62)<=lo)(h2:lo < 2 ^ 62)(h3:-(2 ^ 62)<=hi)(h4:hi < 2 ^ 62)
 (q:R (Itr lo (hi - lo).toNat) H):wpAny (model X.prog X.w) X.A (pyIter (.ref s.heap.objs.size)) (PIE X pins σ tg R) E { s with heap:=s.heap.push { cls:=.type "range",data:=.fields #[.int lo t,.int hi u,.int 1 v] },toks:=tk }:=by
 refine wpAny_pyIter_range (IsRange.new ..) (small_one h1 h2 h3 h4) ?_
 have I1:Inv X pins σ H { s with heap:=s.heap.push { cls:=.type "range",data:=.fields #[.int lo t,.int hi u,.int 1 v] },toks:=tk }:=I.kept fun b o e=>qd _ e
 refine⟨(s.heap.push { cls:=.type "range",data:=.fields #[.int lo t,.int hi u,.int 1 v] }).objs.size,[(s.heap.push { cls:=.type "range",data:=.fields #[.int lo t,.int hi u,.int 1 v] }).objs.size],_,_,H,rfl,
  I1.kept (t':=tk) fun b o e=>qd _ e,Ynv _ lo (hi - lo).toNat,?_,fun b hb=>?_,q⟩
 ·have e1:lo+((0:Nat):Int) * 1=lo:=by simp
  have e2:(((hi - lo).toNat:Nat):Int) - ((0:Nat):Int)=Builtin.Range.rangeSize lo hi 1:=by rw[rangeSize_one];split<;>lia
  show IsRangeIter _ _ (lo+((0:Nat):Int) * 1) ((((hi - lo).toNat:Nat):Int) - ((0:Nat):Int)) 1
  rw[e1,e2]
  exact qo _ rfl
 ·have e:b=(s.heap.push { cls:=.type "range",data:=.fields #[.int lo t,.int hi u,.int 1 v] }).objs.size:=by simpa using hb
  subst e
  exact I1.fpOk (qs _) (I1.hok.fresh (qs _))
def Yzq(ta:TA):TI:=fun σ H R=>ta σ H fun vs H1=>∃j:Int,vs=[.int j]/\-(2 ^ 62)<=j/\j < 2 ^ 62/\R (Itr 0 j.toNat) H1
theorem Yox{a:Expr}{ta:TA}{p pos:Pos}(hg:Gl X "range")(hm:X.mg "range"=none)(ha:PA X [a] ta)(hs:starEach [a] X.env=[(false,eval a X.env)]:=by rfl):PI X tg (.Call (.Name "range" p) [a] [] pos) (Yzq ta):=by
 intro pins s σ H R I h
 refine Call_ (Ykf I hg hm boot_range (PyProof.Rows.callWith_type1 (thn (ha pos pins s σ H _ I h) fun us s1 hx_=>?_) hs rfl))
 obtain⟨vs,H1,I1,r1,q1⟩:=hx_
 obtain⟨j,e,q1,q2,q⟩:=q1
 subst e
 cases r1 with
 | cons r rr=>
   cases rr
   obtain⟨t,rfl⟩:=r
   exact call_range_1 (Yrm I1 (by lia) (by lia) q1 q2 (by simpa using q))
def tFor(wi:TI)(g:TG)(tb:TS):TS:=fun D σ H=>wi σ H fun J H1=>∃W:Nat->Nat->St->Hp->Prop,(∃m,W 0 m σ H1)/\∀i m σ H,W i m σ H->
 (J.stop i H/\D.nx σ H)\/(J.go i H/\∃N:St->Hp->Prop,(∀σ' H',N σ' H'->∃m',m' < m/\W (i+1) m' σ' H')/\∀x H',J.yld i H x H'->g x σ H' fun σ2 H2=>tb { D with nx:=N,ct:=N,bk:=D.nx } σ2 H2)
def Ykg(fp:List Addr)(h:Heap):List (Addr × Obj):=fp.filterMap fun b=>(h.get? b).map fun o=>(b,o)
theorem Yeb{fp:List Addr}{h:Heap}{b:Addr}{o:Obj}(hb:b∈fp)(e:h.get? b=some o):(b,o)∈Ykg fp h:=List.mem_filterMap.mpr ⟨b,hb,by rw[e];rfl⟩
theorem Yoy{fp:List Addr}{h:Heap}{p:Addr × Obj}(hp:p∈Ykg fp h):p.1∈fp/\h.get? p.1=some p.2:=by
 obtain⟨b,hb,e⟩:=List.mem_filterMap.mp hp
 cases q:h.get? b with
 | none=>rw[q]at e;cases e
 | some o=>
   rw[q]at e
   have e':(b,o)=p:=Option.some.inj e
   subst e'
   exact⟨hb,q⟩
theorem Inv.pinned{pins:List (Addr × Obj)}{σ:St}{H:Hp}{s:Shared}{fp:List Addr}(I:Inv X pins σ H s)(hf:∀b∈fp,FpOk X pins H b)(ho:∀b∈fp,∃o,s.heap.get? b=some o/\∀v,o.data≠.cell v):Inv X (pins++Ykg fp s.heap) σ H s:=
 I.pins_of fun p hp=>(qt hp).elim (fun z=>I.pin p (Qe _ z)) fun z=>by
  obtain⟨hb,e⟩:=Yoy z
  obtain⟨f0,f1,f2,_⟩:=hf p.1 hb
  obtain⟨o,e',d⟩:=ho p.1 hb
  rw[e]at e';cases e'
  exact⟨e,f0,f1,f2,d⟩
theorem Inv.unpinned{pins pl:List (Addr × Obj)}{σ:St}{H:Hp}{s:Shared}(I:Inv X (pins++pl) σ H s):Inv X pins σ H s:=I.pins_of fun p hp=>I.pin p (Qe _ (List.mem_append_left _ hp))
theorem Yte{iter:Expr}{body:List Stmt}{wi:TI}{g:TG}{tb:TS}{pos:Pos}(hp:PassesOwn (model X.prog X.w) X.A X.env X.xe)(hc:X.calm=true)(hi:PI X tg iter wi)(hg:PG X tg g)(hb:PSs X body tb)
 (hs:∀x,foldedSetIterable iter X.env x=pure x:=by intro _;rfl):PS X (.For tg iter body [] pos) (tFor wi g tb):=by
 intro pins s σ H D I h
 refine wpAny_For (thn (hi pins s σ H _ I h) fun v s1 h1=>thn h1 fun itv s2 h2=>?_) hs
 obtain⟨it,fp,tn,J,H2,e,I2,T,st2,f2,W,⟨m0,w0⟩,turn⟩:=h2
 subst e
 have stat:∀{H':Hp},(∀b∈fp,H' b=none)->∀b∈fp,FpOk X pins H' b:=fun hn b hb=>⟨hn b hb,(f2 b hb).2⟩
 refine codeAny_forLoop_any (fun n s'=>∃i σ' H',Inv X pins σ' H' s'/\tn i s'.heap/\(∀b∈fp,H' b=none)/\W i n σ' H') ?_ m0 ⟨0,σ,H2,I2,st2,fun b hb=>(f2 b hb).1,w0⟩
 rintro n s3 ⟨i,σ3,H3,I3,st3,fr3,w3⟩
 rcases turn i n σ3 H3 w3 with⟨stop,qn⟩ | ⟨go,N,hN,step⟩
 ·refine wpAny_passesOwn hp (thn (T.done X rfl rfl rfl hc i pins s3 σ3 H3 X.xe I3 (stat fr3) st3 stop) fun r s4 hx_=>?_)
  obtain⟨hr,I4⟩:=hx_
  subst hr
  exact wpAny_execs_nil ⟨σ3,H3,I4,qn⟩
 ·refine wpAny_passesOwn hp (thn (T.item X rfl rfl rfl hc i pins s3 σ3 H3 X.xe I3 (stat fr3) st3 go) fun r s4 hx_=>?_)
  obtain⟨u,hr,h4⟩:=hx_
  subst hr
  refine wpAny_passesOwn hp (thn h4 fun _ s5 hx_=>?_)
  obtain⟨x,H5,I5,r5,y5,st5,fr5⟩:=hx_
  have I5':=I5.pinned (stat fr5) (T.obj _ _ st5)
  refine wpAny_passesOwn hp (thn (hg _ s5 σ3 H5 x u _ I5' r5 (step x H5 y5)) fun _ s6 hx_=>?_)
  obtain⟨σ6,H6,I6,q6⟩:=hx_
  refine wpAny_passesOwn hp (thn (hb _ s6 σ6 H6 _ I6 q6) fun f s7 q7=>?_)
  have again:∀{σ7:St} {H7:Hp},Inv X (pins++Ykg fp s5.heap) σ7 H7 s7->N σ7 H7->∃m,m < n/\∃i σ' H',Inv X pins σ' H' s7/\tn i s7.heap/\(∀b∈fp,H' b=none)/\W i m σ' H':=fun {σ7 H7} I7 n7=>by
   obtain⟨m',hm,w7⟩:=hN σ7 H7 n7
   refine⟨m',hm,i+1,σ7,H7,I7.unpinned,T.keep _ _ _ st5 fun b hb o e=>(I7.pin (b,o) (Qe _ (Qe _ (Yeb hb e)))).1,fun b hb=>?_,w7⟩
   obtain⟨o,e,d⟩:=T.obj _ _ st5 b hb
   exact(I7.pin (b,o) (Qe _ (Qe _ (Yeb hb e)))).2.1
  cases f with
  | next=>obtain⟨σ7,H7,I7,n7⟩:=q7;exact again I7 n7
  | cont=>obtain⟨σ7,H7,I7,n7⟩:=q7;exact again I7 n7
  | brk=>obtain⟨σ7,H7,I7,q7⟩:=q7;exact⟨σ7,H7,I7.unpinned,q7⟩
  | ret v=>obtain⟨x7,σ7,H7,I7,r7,q7⟩:=q7;exact⟨x7,σ7,H7,I7.unpinned,r7,q7⟩
end
end L2
namespace L2
open PySem PySem.Spec PyProof.Rows
abbrev R2:=V->V->Hp->VK->Prop
def OpR(X:Cx)(f:Value->Value->Sem Value)(r:R2):Prop:=
 ∀(pins:List (Addr × Obj)) (s:Shared) (σ:St) (H:Hp) (x y:V) (v u:Value) (Q:VK),Inv X pins σ H s->RelV x v->RelV y u->r x y H Q->
  wpAny (model X.prog X.w) X.A (f v u) (EP X pins σ Q) X.xe s
def UnR(X:Cx)(f:Value->Sem Value)(r:V->Hp->VK->Prop):Prop:=
 ∀(pins:List (Addr × Obj)) (s:Shared) (σ:St) (H:Hp) (x:V) (v:Value) (Q:VK),Inv X pins σ H s->RelV x v->r x H Q->
  wpAny (model X.prog X.w) X.A (f v) (EP X pins σ Q) X.xe s
def Yco(X:Cx)(f:Value)(r:List V->Hp->VK->Prop):Prop:=
 ∀(pins:List (Addr × Obj)) (s:Shared) (σ:St) (H:Hp) (xs:List V) (us:List Value) (Q:VK),Inv X pins σ H s->Vals xs us->r xs H Q->
  wpAny (model X.prog X.w) X.A (call f us) (EP X pins σ Q) X.xe s
def TruR(X:Cx)(r:V->Hp->(Bool->Hp->Prop)->Prop):Prop:=
 ∀(pins:List (Addr × Obj)) (s:Shared) (σ:St) (H:Hp) (x:V) (v:Value) (Q:Bool->Hp->Prop),Inv X pins σ H s->RelV x v->r x H Q->
  wpAny (model X.prog X.w) X.A (truthy v) (TP X pins σ Q) X.xe s
def tOp(r:R2)(ta tb:TE):TE:=fun σ H Q=>ta σ H fun x H1=>tb σ H1 fun y H2=>r x y H2 Q
def tUn(r:V->Hp->VK->Prop)(ta:TE):TE:=fun σ H Q=>ta σ H fun x H1=>r x H1 Q
def rI(C:Int->Int->Prop)(g:Int->Int->V):R2:=fun x y H Q=>∃i j,x=.int i/\y=.int j/\C i j/\Q (g i j) H
def rI0(g:Int->Int->V):R2:=fun x y H Q=>∃i j,x=.int i/\y=.int j/\Q (g i j) H
def rU(g:Int->V):V->Hp->VK->Prop:=fun x H Q=>∃i,x=.int i/\Q (g i) H
section
variable {X:Cx} {a b c:Expr} {ta tb tc:TE} {pos:Pos}
theorem binT(ha:PE X a ta)(hb:PE X b tb){pins:List (Addr × Obj)}{s:Shared}{σ:St}{H:Hp}{R:V->V->Hp->Prop}(I:Inv X pins σ H s)
 (h:ta σ H fun x H1=>tb σ H1 fun y H2=>R x y H2) {Q:Value->Shared->Prop} {f:Value->Value->Sem Value}
 (hf:∀v u s2 x y H2,Inv X pins σ H2 s2->RelV x v->RelV y u->R x y H2->wpAny (model X.prog X.w) X.A (f v u) Q X.xe s2) :
 wpAny (model X.prog X.w) X.A (eval a X.env) (fun v s₁=>wpAny (model X.prog X.w) X.A (eval b X.env) (fun u s₂=>wpAny (model X.prog X.w) X.A (f v u) Q X.xe s₂) X.xe s₁) X.xe s:=by
 refine thn (ha pins s σ H _ I h) fun v s1 hx_=>?_
 obtain⟨x,H1,I1,r1,q1⟩:=hx_
 refine thn (hb pins s1 σ H1 _ I1 q1) fun u s2 hx_=>?_
 obtain⟨y,H2,I2,r2,q2⟩:=hx_
 exact hf v u s2 x y H2 I2 r1 r2 q2
theorem Yw1{op:Operator}{r:R2}(ho:OpR X (binaryOp op) r)(ha:PE X a ta)(hb:PE X b tb):PE X (.BinOp a op b pos) (tOp r ta tb):=by
 intro pins s σ H Q I h
 exact wpAny_BinOp (binT ha hb I h fun v u s2 x y H2 I2 rx ry q=>ho pins s2 σ H2 x y v u Q I2 rx ry q)
theorem Yzr{op:UnaryOp}{r:V->Hp->VK->Prop}(ho:UnR X (unaryOp op) r)(ha:PE X a ta):PE X (.UnaryOp op a pos) (tUn r ta):=by
 intro pins s σ H Q I h
 refine UnaryOp_ (thn (ha pins s σ H _ I h) fun v s1 hx_=>?_)
 obtain⟨x,H1,I1,r1,q1⟩:=hx_
 exact ho pins s1 σ H1 x v Q I1 r1 q1
theorem opI{f:Value->Value->Sem Value}{C:Int->Int->Prop}{g:Int->Int->Int}
 (rule:∀(i j:Int) (t u:Tok) (s:Shared) (Q:Value->Shared->Prop) (E:Value->Shared->Prop),C i j->Q (.int (g i j) s.toks) { s with toks:=s.toks+1 }->wpAny (model X.prog X.w) X.A (f (.int i t) (.int j u)) Q E s) :
 OpR X f (rI C fun i j=>.int (g i j)):=by
 intro pins s σ H x y v u Q I rx ry h
 obtain⟨i,j,rfl,rfl,hc,q⟩:=h
 obtain⟨t,rfl⟩:=rx
 obtain⟨t',rfl⟩:=ry
 exact rule i j t t' s _ _ hc ⟨.int (g i j),H,I.tok _,⟨_,rfl⟩,q⟩
theorem opI0{f:Value->Value->Sem Value}{g:Int->Int->Int}
 (rule:∀(i j:Int) (t u:Tok) (s:Shared) (Q:Value->Shared->Prop) (E:Value->Shared->Prop),Q (.int (g i j) s.toks) { s with toks:=s.toks+1 }->wpAny (model X.prog X.w) X.A (f (.int i t) (.int j u)) Q E s) :
 OpR X f (rI0 fun i j=>.int (g i j)):=by
 intro pins s σ H x y v u Q I rx ry h
 obtain⟨i,j,rfl,rfl,q⟩:=h
 obtain⟨t,rfl⟩:=rx
 obtain⟨t',rfl⟩:=ry
 exact rule i j t t' s _ _ ⟨.int (g i j),H,I.tok _,⟨_,rfl⟩,q⟩
theorem opB0{f:Value->Value->Sem Value}{g:Int->Int->Bool}
 (rule:∀(i j:Int) (t u:Tok) (s:Shared) (Q:Value->Shared->Prop) (E:Value->Shared->Prop),Q (.bool (g i j)) s->wpAny (model X.prog X.w) X.A (f (.int i t) (.int j u)) Q E s) :
 OpR X f (rI0 fun i j=>.bl (g i j)):=by
 intro pins s σ H x y v u Q I rx ry h
 obtain⟨i,j,rfl,rfl,q⟩:=h
 obtain⟨t,rfl⟩:=rx
 obtain⟨t',rfl⟩:=ry
 exact rule i j t t' s _ _ ⟨.bl (g i j),H,I,rfl,q⟩
def CDiv(i j:Int):Prop:=0 < j/\j < 1073741824
def CMul(i j:Int):Prop:=(-(2 ^ 64) < i/\i < 2 ^ 64)\/(-(2 ^ 64) < j/\j < 2 ^ 64)
theorem CMul.ok{i j:Int}(h:CMul i j):IntMulOk i j:=by
 rcases h with⟨h1,h2⟩ | ⟨h1,h2⟩
 ·exact .of_left (intBits_le_64 h1 h2)
 ·exact .of_right (intBits_le_64 h1 h2)
theorem Yw2:OpR X (binaryOp .Add) (rI0 fun i j=>.int (i+j)):=opI0 fun _ _ _ _ _ _ _ q=>add_int q
theorem Yw3:OpR X (binaryOp .Mult) (rI CMul fun i j=>.int (i * j)):=opI fun _ _ _ _ _ _ _ hc q=>mul_int q hc.ok
theorem Yt3:OpR X (binaryOp .FloorDiv) (rI CDiv fun i j=>.int (i / j)):=opI fun i j _ _ _ _ _ hc q=>by
 have h1:(0:Int) < j:=hc.1
 have h2:j < 1073741824:=hc.2
 exact floordiv_int (by lia) (by rw[Int.fdiv_eq_ediv_of_nonneg i (by lia)];exact q) (.inl (PyProof.noPylong_small (by lia)))
theorem Yw4:OpR X (binaryOp .Mod) (rI (fun _ j=>0 < j) fun i j=>.int (i % j)):=opI fun i j _ _ _ _ _ hc q=>by
 have h1:(0:Int) < j:=hc
 exact mod_int' (by lia) (by rw[Int.fmod_eq_emod_of_nonneg i (by lia)];exact q)
theorem unI{f:Value->Sem Value}{g:Int->Int}
 (rule:∀(i:Int) (t:Tok) (s:Shared) (Q:Value->Shared->Prop) (E:Value->Shared->Prop),Q (.int (g i) s.toks) { s with toks:=s.toks+1 }->wpAny (model X.prog X.w) X.A (f (.int i t)) Q E s) :
 UnR X f (rU fun i=>.int (g i)):=by
 intro pins s σ H x v Q I rx h
 obtain⟨i,rfl,q⟩:=h
 obtain⟨t,rfl⟩:=rx
 exact rule i t s _ _ ⟨.int (g i),H,I.tok _,⟨_,rfl⟩,q⟩
theorem Yw5:UnR X (unaryOp .USub) (rU fun i=>.int (-i)):=unI fun _ _ _ _ _ q=>neg_int q
end
def scal:V->V->Bool
 | .non,.non=>true | .non,.int _=>true | .int _,.non=>true | .non,.bl _=>true | .bl _,.non=>true | .non,.str _=>true | .str _,.non=>true
 | .int _,.int _=>true | .bl _,.bl _=>true | .str _,.str _=>true | .byt _,.byt _=>true
 | .int _,.str _=>true | .str _,.int _=>true | .bl _,.str _=>true | .str _,.bl _=>true
 | _,_=>false
section
variable {X:Cx} {a b c:Expr} {ta tb tc:TE} {pos:Pos}
theorem Ytf{pins:List (Addr × Obj)}{σ:St}{H:Hp}{s:Shared}{Q:VK}{k k':Bool}(I:Inv X pins σ H s)(q:Q (.bl k) H)(e:k=k'):EP X pins σ Q (.bool k') s:=by
 subst e
 exact⟨.bl k,H,I,rfl,q⟩
theorem Yzs:OpR X (compareOp .Lt) (rI0 fun i j=>.bl (decide (i < j))):=opB0 fun _ _ _ _ _ _ _ q=>lt_int q
theorem Yzt:OpR X (compareOp .Gt) (rI0 fun i j=>.bl (decide (j < i))):=opB0 fun _ _ _ _ _ _ _ q=>gt_int q
theorem Yzu:OpR X (compareOp .GtE) (rI0 fun i j=>.bl (decide (j<=i))):=opB0 fun _ _ _ _ _ _ _ q=>ge_int q
theorem Yw6:OpR X (compareOp .Is) (fun x y H Q=>y=.non/\Q (.bl (decide (x=.non))) H):=by
 intro pins s σ H x y v u Q I rx ry h
 obtain⟨rfl,q⟩:=h
 cases ry
 refine is_none_gen (Ytf I q ?_)
 cases x<;>first
  | (cases rx;rfl)
  | (obtain⟨t,rfl⟩:=rx;rfl)
theorem Yoz:OpR X (compareOp .IsNot) (fun x y H Q=>y=.non/\Q (.bl (!decide (x=.non))) H):=by
 intro pins s σ H x y v u Q I rx ry h
 obtain⟨rfl,q⟩:=h
 cases ry
 refine isnot_none_gen (Ytf I q ?_)
 cases x<;>first
  | (cases rx;rfl)
  | (obtain⟨t,rfl⟩:=rx;rfl)
theorem Ydy(b:Expr){op:CmpOp}(h:op≠.In:=by decide)(h2:op≠.NotIn:=by decide):behindInMarks op b=false:=by
 have e1:(op==CmpOp.In)=false:=by cases op<;>first | rfl | exact absurd rfl h
 have e2:(op==CmpOp.NotIn)=false:=by cases op<;>first | rfl | exact absurd rfl h2
 cases b with
 | Set elts k p=>
   show((k==0)&&((op==CmpOp.In)||(op==CmpOp.NotIn))&&_)=false
   rw[e1,e2]
   cases (k==0)<;>rfl
 | _=>rfl
theorem Yo0{op:CmpOp}{r:R2}(ho:OpR X (compareOp op) r)(ha:PE X a ta)(hb:PE X b tb)(hm:behindInMarks op b=false):PE X (.Compare a [op] [b] pos) (tOp r ta tb):=by
 intro pins s σ H Q I h
 exact wpAny_Compare1 (binT ha hb I h fun v u s2 x y H2 I2 rx ry q=>ho pins s2 σ H2 x y v u Q I2 rx ry q) hm
def Yw7(t:TE):TT:=fun σ H Q=>t σ H fun x H'=>∃k,x=.bl k/\Q k H'
theorem Yt4{op:CmpOp}{r:R2}(ho:OpR X (compareOp op) r)(ha:PE X a ta)(hb:PE X b tb)(hm:behindInMarks op b=false):PT X (.Compare a [op] [b] pos) (Yw7 (tOp r ta tb)):=by
 intro pins s σ H Q I h
 refine wpAny_isTrue_Compare1 (thn (ha pins s σ H _ I h) fun v s1 hx_=>?_) hm
 obtain⟨x,H1,I1,r1,q1⟩:=hx_
 refine thn (hb pins s1 σ H1 _ I1 q1) fun u s2 hx_=>?_
 obtain⟨y,H2,I2,r2,q2⟩:=hx_
 refine thn (ho pins s2 σ H2 x y v u _ I2 r1 r2 q2) fun c s3 hx_=>?_
 obtain⟨z,H3,I3,r3,k,e,q3⟩:=hx_
 subst e
 cases r3
 exact wpAny_truthy_bool ⟨H3,I3,q3⟩
def TruV(K:W.Frag)(x:V)(H:Hp)(k:Bool):Prop:=
 match x with
 | .non=>k=false
 | .bl b=>k=b
 | .int i=>k=(i != 0)
 | .str y=>y.length<=sizeLine/\k=((y.length:Int) != 0)
 | .byt y=>y.size<=sizeLine/\k=((y.size:Int) != 0)
 | .ref p=>(∃xs,SqL K H p xs/\k=!xs.isEmpty)\/(∃xs,SqT K H p xs/\k=!xs.isEmpty)\/∃kvs,H p=some (.dK kvs)/\k=!kvs.isEmpty
 | _=>False
theorem Ynw{κ:Type}{kvs:List (κ × V)}{vs:List (κ × Value)}(r:KV kvs vs):(!vs.isEmpty)=!kvs.isEmpty:=by
 cases r<;>rfl
theorem Yih{xs:List V}{its:List Value}(r:Vals xs its):(!its.toArray.isEmpty)=!xs.isEmpty:=by
 cases r<;>simp
theorem Yii:(sizeLine:Nat) < 2 ^ 63:=by rw[sizeLine_eq];decide
theorem Yw8:TruR X (fun x H Q=>∃k,TruV X.K x H k/\Q k H):=by
 intro pins s σ H x v Q I rx h
 obtain⟨k,e,q⟩:=h
 have hl:=Yii
 have hs:sizeLine=16777216:=sizeLine_eq
 cases x with
 | non=>
   cases rx
   have e':k=false:=e
   subst e'
   exact truthy_none ⟨H,I,q⟩
 | bl b=>
   cases rx
   have e':k=b:=e
   subst e'
   exact wpAny_truthy_bool ⟨H,I,q⟩
 | int i=>
   obtain⟨t,rfl⟩:=rx
   have e':k=(i != 0):=e
   subst e'
   exact PySem.P.truthy_int ⟨H,I,q⟩
 | str y=>
   obtain⟨t,rfl⟩:=rx
   obtain⟨hy,e'⟩:y.length<=sizeLine/\k=((y.length:Int) != 0):=e
   subst e'
   exact PySem.P.truthy_str (by lia) ⟨H,I.tok _,q⟩
 | byt y=>
   obtain⟨t,rfl⟩:=rx
   obtain⟨hy,e'⟩:y.size<=sizeLine/\k=((y.size:Int) != 0):=e
   subst e'
   exact W.truthy_bytes (by lia) ⟨H,I.tok _,q⟩
 | ref p=>
   cases rx
   have e':(∃xs,SqL X.K H p xs/\k=!xs.isEmpty)\/(∃xs,SqT X.K H p xs/\k=!xs.isEmpty)\/∃kvs,H p=some (.dK kvs)/\k=!kvs.isEmpty:=e
   rcases e' with⟨xs,hx,e'⟩ | ⟨xs,hx,e'⟩ | ⟨kvs,hx,e'⟩
   ·subst e'
    obtain⟨its,r,pl,hz⟩:=I.list hx
    have hlen:=r.length
    exact wpAny_truthy_list pl.isList (by simp only[qj];lia) ⟨H,I.tok _,by rw[Yih r];exact q⟩
   ·subst e'
    obtain⟨its,r,pl,hz⟩:=I.tuple hx
    have hlen:=r.length
    exact truthy_tuple pl (by simp only[qj];lia) ⟨H,I.tok _,by rw[Yih r];exact q⟩
   ·subst e'
    obtain⟨hz,hS,vs,r,m⟩:kvs.length<=sizeLine/\(p==sysModules)=false/\∃vs,KV kvs vs/\s.heap.DictOf (Ylp X.prog X.w) p vs:=I.hok p _ hx
    have hlen:kvs.length=vs.length:=Paired.length r
    exact wpAny_truthy_dict hS m (by lia) ⟨H,I.tok _,by rw[Ynw r];exact q⟩
 | _=>exact(show False from e).elim
theorem Yrn(ha:PE X a ta)(he:∀whole,isTrue a X.env whole=(do let v <-whole;standAt a.pos;holding [v] (truthy v))) :
 PT X a (fun σ H Q=>ta σ H fun x H'=>∃k,TruV X.K x H' k/\Q k H'):=by
 intro pins s σ H Q I h
 refine isTrue_plain (thn (ha pins s σ H _ I h) fun v s1 hx_=>?_) (he _)
 obtain⟨x,H1,I1,r1,q1⟩:=hx_
 exact Yw8 pins s1 σ H1 x v Q I1 r1 q1
theorem Ynx:OpR X (binaryOp .Add) (fun x y H Q=>∃i j,x=.str i/\y=.str j/\i.length+j.length<=sizeLine/\Q (.str (i++j)) H):=by
 intro pins s σ H x y v u Q I rx ry h
 obtain⟨i,j,rfl,rfl,hz,q⟩:=h
 obtain⟨t,rfl⟩:=rx
 obtain⟨t',rfl⟩:=ry
 exact add_str (fun t' tk=>⟨.str (i++j),H,I.tok _,⟨_,rfl⟩,q⟩) hz
theorem Yft{x:V}{us:List Value}(r:Vals [x] us):∃u,us=[u]/\RelV x u:=by
 cases r with
 | cons r1 r2=>cases r2;exact⟨_,rfl,r1⟩
theorem Yo1{x y:V}{us:List Value}(r:Vals [x,y] us):∃u w',us=[u,w']/\RelV x u/\RelV y w':=by
 cases r with
 | cons r1 r2=>
   cases r2 with
   | cons r3 r4=>cases r4;exact⟨_,_,rfl,r1,r3⟩
theorem Ykh(hc:X.calm=true):Yco X (.builtin "max") (fun xs H Q=>∃i j,xs=[.int i,.int j]/\Q (.int (if j > i then j else i)) H):=by
 intro pins s σ H xs us Q I r h
 obtain⟨i,j,rfl,q⟩:=h
 obtain⟨u,w',rfl,⟨t,rfl⟩,⟨t',rfl⟩⟩:=Yo1 r
 refine max_two_ints (I.ok.hd hc) fun h' tk k=>⟨_,H,I.kept k,?_,q⟩
 by_cases hj:j > i
 ·rw[if_pos hj,if_pos hj];exact⟨_,rfl⟩
 ·rw[if_neg hj,if_neg hj];exact⟨_,rfl⟩
theorem Ygv:Yco X (.type "int") (fun xs H Q=>(∃i,xs=[.int i]/\Q (.int i) H)\/∃k,xs=[.bl k]/\Q (.int (if k then 1 else 0)) H):=by
 intro pins s σ H xs us Q I r h
 rcases h with⟨i,rfl,q⟩ | ⟨k,rfl,q⟩
 ·obtain⟨u,rfl,t,rfl⟩:=Yft r
  exact call_int_int ⟨.int i,H,I,⟨_,rfl⟩,q⟩
 ·obtain⟨u,rfl,r1⟩:=Yft r
  cases r1
  exact call_int_bool ⟨.int (if k then 1 else 0),H,I.tok _,⟨_,rfl⟩,q⟩
theorem Yb2:Yco X (.type "str") (fun xs H Q=>∃i,xs=[.int i]/\i.natAbs.log2 < 1920/\Q (.str (toString i)) H):=by
 intro pins s σ H xs us Q I r h
 obtain⟨i,rfl,hz,q⟩:=h
 obtain⟨u,rfl,t,rfl⟩:=Yft r
 exact PySem.P.str_of_int hz ⟨.str _,H,I.tok _,⟨_,rfl⟩,q⟩
end
end L2
namespace L2
open PySem PySem.Spec PyProof.Rows
structure ObjM(h:Heap)(x dx C:Addr)(mA:Str->Option Value):Prop where
 obj:h.get? x=some (W.instObj C dx)
 ns:h.Ns1 dx mA
 ne:dx≠x
theorem Yo2{h:Heap}{dx:Addr}{mA:Str->Option Value}(n:h.Ns1 dx mA):∃od,h.get? dx=some od/\∀name,W.lookIn name od=some (mA name):=by
 obtain⟨o,es,ep,ho,hd,hk,_,hm⟩:=n
 refine⟨o,ho,fun name=>?_⟩
 have e:=hm name
 unfold nsFind findBy at e
 rw[<-Array.find?_toList]at e
 unfold W.lookIn
 rw[hd]
 dsimp only
 split
 ·rename_i y q
  rw[q]at e
  exact congrArg some e
 ·rename_i q
  rw[q]at e
  have a:es.toList.any (·.refKey)=false:=by
   rw[List.any_eq_false]
   intro y hy
   obtain⟨z,t,hkey⟩:=hk y (Array.mem_toList_iff.mp hy)
   simp[DictEntry.refKey,hkey]
  have a':¬es.toList.any (·.refKey)=true:=by rw[a];exact qh
  rw[if_neg a']
  exact congrArg some e
theorem ObjM.look{h:Heap}{x dx C:Addr}{mA:Str->Option Value}(I:ObjM h x dx C mA):∃od,W.InstAt h x (W.instObj C dx) C (some od)/\∀name,W.lookIn name od=some (mA name):=
 let ⟨od,ho,hl⟩:=Yo2 I.ns
 ⟨od,⟨I.obj,rfl,rfl,ho⟩,hl⟩
section
variable {prog:Program} {w:World} {A:Around} {E:Value->Shared->Prop} {s:Shared} {K:W.Frag} {x dx C f:Addr} {mA:Str->Option Value} {name:Str} {v:Value}
theorem Yt5{expr:Bool}{Q:Value->Shared->Prop}(X:K.In s.heap)(I:ObjM s.heap x dx C mA)(hg:W.plainGet K C name=true)(hh:W.hasDictIn K C=true)
 (ha:W.findIn K (.ref C) name=some none) (hv:mA name=some v) (hv':W.handedIn v=true) (h:Q v { s with toks:=s.toks+1 }) :
 wpAny (model prog w) A (getAttr (.ref x) name expr) Q E s:=by
 obtain⟨od,J,hl⟩:=I.look
 exact W.get_value X J (W.plainGet_of hg).1 (W.findObj_own hh ha rfl (by rw[hl,hv])) hv' h
theorem Yro{pl:Sem Bool}{Q:Value × List Value->Shared->Prop}(X:K.In s.heap)(I:ObjM s.heap x dx C mA)(hg:W.plainGet K C name=true)
 (hf:W.findIn K (.ref C) name=some (some (.ref f))) (ht:W.isFn K (.ref f)=true) (hv:mA name=none) (h:Q (.ref f,[.ref x]) s) :
 wpAny (model prog w) A (getMethod (.ref x) name pl) Q E s:=by
 obtain⟨od,J,hl⟩:=I.look
 exact W.method_fn X J (W.plainGet_of hg).1 (W.plainGet_of hg).2 hf (beq_iff_eq.mp ht) (by show(W.lookIn name od).map (·.isSome)=some false;rw[hl,hv];rfl) h
theorem Yt6{ns:List Str}{Q:Unit->Shared->Prop}(X:K.In s.heap)(I:ObjM s.heap x dx C mA)
 (hs:W.findIn K (.ref C) "__setattr__"=some (some (.builtin "object.__setattr__"))) (hp:W.plainOver K C=true) (ht:W.takerIn K C name=some none) (hh:W.hasDictIn K C=true)
 (hw:PySem.Within mA ns) (hsz:ns.length<=sizeLine)
 (h:∀h',ObjM h' x dx C (fun y=>if y=name then some v else mA y)->Heap.SameBut dx s.heap h'->Q () { s with heap:=h',toks:=s.toks+2 }) :
 wpAny (model prog w) A (setAttr (.ref x) name v) Q E s:=by
 obtain⟨od,J,hl⟩:=I.look
 refine W.set_plain X J hs (W.osa_open (s:={ s with toks:=s.toks+1 }) (r:=none) X J hp ht fun b=>?_)
 obtain⟨cd,hc,hd'⟩:=W.any_some hh
 have hx:s.heap.get? x=some ⟨.ref C,some dx,.plain,#[]⟩:=I.obj
 refine wpAny_bind (wpAny_pure (wpAny_bind (wpAny_bind (wpAny_loadPart hx (wpAny_bind (W.Looks.here (s:={ s with toks:=s.toks+1 }) (W.looks_clsIn X hc) ?_))))))
 rw[hd']
 refine wpAny_pure (a:=some dx) (wpAny_bind (wpAny_pure (wpAny_bind ?_)))
 refine wpAny_nsSet1 (s:={ s with toks:=s.toks+1 }) I.ns fun h' hn2 hs2=>?_
 obtain⟨oD,esD,epD,hoD,hdD,hcD⟩:=hn2.count (PySem.Within.cons name v hw)
 refine wpAny_bind (wpAny_lookBehind hoD (by rw[hdD];exact pastItsLine_dict (qz hcD (by rw[qq];lia))) ?_)
 exact wpAny_pure (h _ ⟨(hs2.2 _ (Ne.symm I.ne)).trans I.obj,hn2,I.ne⟩ hs2)
theorem Yrp{R:Result->Shared->Prop}{vs:List Value}{kw:List (Str × Value)}(X:K.In s.heap)(hm:W.makesIn K C=true)
 (hi:W.findIn K (.ref C) "__init__"=some (some (.ref f))) (hf:W.typeIn K (.ref f)=some (.type "function"))
 (h:codeAny (model prog w) (A.under (.builtin "type.__call__" ⟨.ref C::vs,kw⟩)) (.call (.ref f) ⟨.ref (s.heap.objs.size+1)::vs,kw⟩) (W.InitBack (s.heap.objs.size+1) R)
  { s with heap:=(s.heap.push W.emptyDict).push (W.instObj C s.heap.objs.size) }) :
 codeAny (model prog w) A (.call (.ref C) ⟨vs,kw⟩) R s:=by
 obtain⟨hh,g,d,t,os⟩:=s
 exact W.make_core (W.makes_of X hm) (W.looks_findIn X hi) (fun self=>W.bind_fn X self hf) (.inl rfl) h
end
def putF(f:Str)(v:V):List (Str × V)->List (Str × V)
 | []=>[(f,v)]
 | (g,x)::r=>if g=f then (g,v)::r else (g,x)::putF f v r
theorem Ygw(f g:Str)(v:V):∀fs:List (Str × V),(putF f v fs).lookup g=if g=f then some v else fs.lookup g
 | []=>by
   show List.lookup g [(f,v)]=_
   by_cases h:g=f
   ·have hb:(g==f)=true:=beq_iff_eq.mpr h
    simp only[List.lookup,hb,if_pos h]
   ·have hb:(g==f)=false:=beq_eq_false_iff_ne.mpr h
    simp only[List.lookup,hb,if_neg h]
 | (k,x)::r=>by
   have ih:=Ygw f g v r
   rw[show putF f v ((k,x)::r)=(if k=f then (k,v)::r else (k,x)::putF f v r) from rfl]
   by_cases hk:k=f
   ·rw[if_pos hk]
    by_cases h:g=k
    ·have hb:(g==k)=true:=beq_iff_eq.mpr h
     simp only[List.lookup,hb,if_pos (h.trans hk)]
    ·have hb:(g==k)=false:=beq_eq_false_iff_ne.mpr h
     simp only[List.lookup,hb,if_neg (fun e:g=f=>h (e.trans hk.symm))]
   ·rw[if_neg hk]
    by_cases h:g=k
    ·have hb:(g==k)=true:=beq_iff_eq.mpr h
     simp only[List.lookup,hb,if_neg (fun e:g=f=>hk (h.symm.trans e))]
    ·have hb:(g==k)=false:=beq_eq_false_iff_ne.mpr h
     simp only[List.lookup,hb]
     exact ih
theorem Ygx(f:Str)(v:V):∀fs:List (Str × V),f∈(putF f v fs).map (·.1)/\∀g,g∈fs.map (·.1)->g∈(putF f v fs).map (·.1)
 | []=>⟨by simp[putF],fun g h=>by simp at h⟩
 | (k,x)::r=>by
   obtain⟨i1,i2⟩:=Ygx f v r
   rw[show putF f v ((k,x)::r)=(if k=f then (k,v)::r else (k,x)::putF f v r) from rfl]
   by_cases hk:k=f
   ·rw[if_pos hk]
    subst hk
    exact⟨by simp,fun g h=>by simpa using h⟩
   ·rw[if_neg hk]
    refine⟨?_,fun g h=>?_⟩
    ·rw[qy]
     exact qf _ i1
    ·rw[qy]at h ⊢
     rcases qr h with e | e
     ·exact List.mem_cons.mpr (.inl e)
     ·exact qf _ (i2 g e)
theorem Ygy(f:Str)(v:V):∀fs:List (Str × V),(putF f v fs).length<=fs.length+1
 | []=>by simp[putF]
 | (k,x)::r=>by
   have ih:=Ygy f v r
   rw[show putF f v ((k,x)::r)=(if k=f then (k,v)::r else (k,x)::putF f v r) from rfl]
   by_cases hk:k=f
   ·rw[if_pos hk,qq,qq];lia
   ·rw[if_neg hk,qq,qq];lia
theorem RelO.some_of{v:V}{o:Option Value}(r:RelO (some v) o):∃u,o=some u/\RelV v u:=by
 cases o with
 | none=>exact(show False from r).elim
 | some u=>exact⟨u,rfl,r⟩
theorem RelO.none_of{o:Option Value}(r:RelO none o):o=none:=by
 cases o with
 | none=>rfl
 | some u=>exact(show False from r).elim
theorem Yo3{v:V}{u:Value}(r:RelV v u):W.handedIn u=true:=by
 cases v with
 | non=>cases (show u=Value.none from r);rfl
 | bl b=>cases (show u=Value.bool b from r);rfl
 | int i=>obtain⟨t,e⟩:=(show ∃t,u=Value.int i t from r);cases e;rfl
 | str x=>obtain⟨t,e⟩:=(show ∃t,u=Value.str x t from r);cases e;rfl
 | byt b=>obtain⟨t,e⟩:=(show ∃t,u=Value.bytes b t from r);cases e;rfl
 | flt b=>obtain⟨t,e⟩:=(show ∃t,u=Value.float b t from r);cases e;rfl
 | ref a=>cases (show u=Value.ref a from r);rfl
 | ty n=>cases (show u=Value.type n from r);rfl
section
variable {P:Program} {w:World} {H H':Hp} {h h':Heap} {a C dx:Addr} {fs fs':List (Str × V)}
theorem Yi4(hok:HOk P w H h)(e:H a=some (.ins C dx fs)):∃mA,ObjM h a dx C mA/\(∀f,RelO (fs.lookup f) (mA f))/\PySem.Within mA (fs.map (·.1))/\fs.length<=1000/\H dx=some (.own a):=by
 obtain⟨d,z,ne,ob,mA,n,r,q⟩:=(show ObjOk P w H h a (.ins C dx fs) from hok a _ e)
 exact⟨mA,⟨ob,n,ne⟩,r,q,z,d⟩
end
structure Cls(K:W.Frag)(C:Addr):Prop where
 pg:W.plainGet K C Str.empty=true
 hd:W.hasDictIn K C=true
 po:W.plainOver K C=true
 sa:W.findIn K (.ref C) "__setattr__"=some (some (.builtin "object.__setattr__"))
theorem Cls.get{K:W.Frag}{C:Addr}(c:Cls K C)(f:Str):W.plainGet K C f=true:=c.pg
def NoAttr(K:W.Frag)(C:Addr)(f:Str):Prop:=W.findIn K (.ref C) f=some none
theorem NoAttr.taker{K:W.Frag}{C:Addr}{f:Str}(n:NoAttr K C f):W.takerIn K C f=some none:=by
 unfold W.takerIn
 rw[show W.findIn K (.ref C) f=some none from n]
 rfl
structure Con(K:W.Frag)(C:Addr)(f:Str)(v:V)(u:Value):Prop where
 at_:W.findIn K (.ref C) f=some (some u)
 rel:RelV v u
 get:W.specialIn K u "__get__"=some none
 cp:W.copiedNames.contains f=false
structure Meth(K:W.Frag)(C:Addr)(m:Str)(f:Addr):Prop where
 at_:W.findIn K (.ref C) m=some (some (.ref f))
 fn:W.isFn K (.ref f)=true
 kp:W.keepIn K (.ref f)=true
section
variable {X:Cx} {pins:List (Addr × Obj)} {σ:St} {H:Hp} {s:Shared} {a C dx:Addr} {fs:List (Str × V)} {f:Str} {v:V} {A:Around} {E:Value->Shared->Prop}
theorem Yny{b:Bool}{Q:Value->Shared->Prop}(I:Inv X pins σ H s)(e:H a=some (.ins C dx fs))(c:Cls X.K C)(n:NoAttr X.K C f)(l:fs.lookup f=some v)
 (h:∀u s',Inv X pins σ H s'->RelV v u->Q u s'):wpAny (model X.prog X.w) A (getAttr (.ref a) f b) Q E s:=by
 obtain⟨mA,O,r,_,_,_⟩:=Yi4 I.hok e
 obtain⟨u,hu,ru⟩:=RelO.some_of (v:=v) (o:=mA f) (by rw[<-l];exact r f)
 exact Yt5 I.kIn O (c.get f) c.hd n hu (Yo3 ru) (h u _ (I.tok _) ru)
theorem Yij{m:Str}{g:Addr}{pl:Sem Bool}{Q:Value × List Value->Shared->Prop}(I:Inv X pins σ H s)(e:H a=some (.ins C dx fs))(c:Cls X.K C)(k:Meth X.K C m g)(l:fs.lookup m=none)
 (h:Q (.ref g,[.ref a]) s):wpAny (model X.prog X.w) A (getMethod (.ref a) m pl) Q E s:=by
 obtain⟨mA,O,r,_,_,_⟩:=Yi4 I.hok e
 have hn:mA m=none:=RelO.none_of (by rw[<-l];exact r m)
 exact Yro I.kIn O (c.get m) k.at_ k.fn hn h
theorem Ynz{y:V}{u:Value}{Q:Unit->Shared->Prop}(I:Inv X pins σ H s)(e:H a=some (.ins C dx fs))(c:Cls X.K C)(n:NoAttr X.K C f)(hl:fs.length < 1000)(ry:RelV y u)
 (h:∀s',Inv X pins σ (upd H a (.ins C dx (putF f y fs))) s'->Q () s'):wpAny (model X.prog X.w) A (setAttr (.ref a) f u) Q E s:=by
 obtain⟨mA,O,r,wi,_,ho⟩:=Yi4 I.hok e
 have hz:(fs.map (·.1)).length<=sizeLine:=by rw[qe,sizeLine_eq];lia
 refine Yt6 I.kIn O c.sa c.po n.taker c.hd wi hz fun h' O' sb=>h _ ?_
 have hd:∃o,h'.get? dx=some o:=let ⟨o,_,_,e',_⟩:=O'.ns;⟨o,e'⟩
 refine I.write (x:=a) (e:=dx) (by rw[e];exact True.intro) (.inr ho) (fun b q hb z=>(sb.2 b hb).trans z) hd ?_
 refine⟨by rw[Yj O.ne];exact ho,?_,O.ne,O'.obj,_,O'.ns,fun g=>?_,fun g hg=>?_⟩
 ·have:=Ygy f y fs;lia
 ·show RelO ((putF f y fs).lookup g) (if g=f then some u else mA g)
  rw[Ygw]
  by_cases q:g=f
  ·rw[if_pos q,if_pos q];exact ry
  ·rw[if_neg q,if_neg q];exact r g
 ·by_cases q:g=f
  ·rw[q];exact(Ygx f y fs).1
  ·refine(Ygx f y fs).2 g (wi g fun z=>hg ?_)
   show(if g=f then some u else mA g)=none
   rw[if_neg q];exact z
theorem Inv.made(I:Inv X pins σ H s):Inv X pins σ (upd (upd H s.heap.objs.size (.own (s.heap.objs.size+1))) (s.heap.objs.size+1) (.ins C s.heap.objs.size []))
 { s with heap:=(s.heap.push W.emptyDict).push (W.instObj C s.heap.objs.size) }:=by
 have e1:(s.heap.push W.emptyDict).get? s.heap.objs.size=some W.emptyDict:=qo s.heap rfl
 have e2:((s.heap.push W.emptyDict).push (W.instObj C s.heap.objs.size)).get? (s.heap.objs.size+1)=some (W.instObj C s.heap.objs.size):=by
  have:=qo (s.heap.push W.emptyDict) (o:=W.instObj C s.heap.objs.size) rfl
  rwa [Heap.size_push]at this
 have e3:(s.heap.push W.emptyDict).Ns s.heap.objs.size (fun _=>none):=⟨W.emptyDict,#[],_,e1,rfl,(fun e he=>absurd he (by simp)),fun _=>rfl⟩
 have I1:=I.laid (a:=s.heap.objs.size) (o:=.own (s.heap.objs.size+1)) (h':=s.heap.push W.emptyDict) (t':=s.toks) (fun b u q=>qd _ q) (qs _) ⟨_,e1⟩
 refine I1.laid (a:=s.heap.objs.size+1) (o:=.ins C s.heap.objs.size []) (t':=s.toks) (fun b u q=>qd _ q) (Nat.le_of_eq (Heap.size_push _ _)) ?_
 have ne:s.heap.objs.size≠s.heap.objs.size+1:=ql (qx _)
 refine⟨by rw[Yj ne,Yl],Nat.zero_le _,ne,e2,fun _=>none,(Heap.Ns1.of_empty e3).at fun o q=>qd _ q,fun _=>True.intro,fun y hy=>absurd rfl hy⟩
theorem Yt7{prog:Program}{w:World}{env:Env}{e:Expr}{f:Str}{pos:Pos}{s:Shared}{Q:Value->Shared->Prop}(hb:attributeBase e f env (eval e env)=eval e env)
 (h:wpAny (model prog w) A (eval e env) (fun o s₁=>wpAny (model prog w) A (getAttr o f true) Q E s₁) E s):wpAny (model prog w) A (eval (.Attribute e f pos) env) Q E s:=
 Attribute_any_ h (by rw[arm_eval_Attribute,hb])
end
def tFld(K:W.Frag)(ta:TE)(f:Str):TE:=fun σ H Q=>ta σ H fun x H1=>∃a C dx fs v,x=.ref a/\H1 a=some (.ins C dx fs)/\Cls K C/\NoAttr K C f/\fs.lookup f=some v/\Q v H1
def sFld(K:W.Frag)(ta tv:TE)(f:Str):TS:=fun D σ H=>tv σ H fun y H1=>ta σ H1 fun x H2=>∃a C dx fs,x=.ref a/\H2 a=some (.ins C dx fs)/\Cls K C/\NoAttr K C f/\fs.length < 1000/\
 D.nx σ (upd H2 a (.ins C dx (putF f y fs)))
section
variable {X:Cx} {o e value:Expr} {f:Str} {pos pos' tpos:Pos} {ta tv:TE} {pins:List (Addr × Obj)} {σ:St} {H:Hp} {s:Shared} {A:Around} {E Q:Value->Shared->Prop} {c:Value} {b:Bool}
theorem Yo4(he:PE X e ta)(hb:attributeBase e f X.env (eval e X.env)=eval e X.env):PE X (.Attribute e f pos) (tFld X.K ta f):=by
 intro pins s σ H Q I h
 refine Yt7 hb (thn (he pins s σ H _ I h) fun u s1 hx_=>?_)
 obtain⟨x,H1,I1,rx,a,C,dx,fs,v,ex,ea,c,n,l,q⟩:=hx_
 subst ex
 obtain rfl:u=Value.ref a:=rx
 exact Yny I1 ea c n l fun u' s2 I2 ru=>⟨v,H1,I2,ru,q⟩
theorem Yo5(ha:PE X o ta)(hv:PE X value tv)(hs:swapsWith value (some (.Attribute o f pos')) pos.line X.env=pure false):PS X (.Assign [.Attribute o f pos'] value pos) (sFld X.K ta tv f):=by
 intro pins s σ H D I h
 refine plainObj_wpAny_Assign_Attribute (thn (hv pins s σ H _ I h) fun u s1 hx_=>?_) hs
 obtain⟨y,H1,I1,ry,q⟩:=hx_
 refine thn (ha pins s1 σ H1 _ I1 q) fun ov s2 hx_=>?_
 obtain⟨x,H2,I2,rx,a,C,dx,fs,ex,ea,c,n,l,q2⟩:=hx_
 subst ex
 obtain rfl:ov=Value.ref a:=rx
 exact Ynz I2 ea c n l ry fun s3 I3=>⟨σ,_,I3,q2⟩
inductive TyOf (K:W.Frag) (H:Hp):V->Value->Prop where
 | non:TyOf K H .non (.type "NoneType")
 | bl (x:Bool):TyOf K H (.bl x) (.type "bool")
 | int (i:Int):TyOf K H (.int i) (.type "int")
 | str (x:Str):TyOf K H (.str x) (.type "str")
 | flt (x:UInt64):TyOf K H (.flt x) (.type "float")
 | lst {a:Addr} {xs:List V} (e:H a=some (.lst xs)):TyOf K H (.ref a) (.type "list")
 | frz {a:Addr} {o:Obj} {xs:List V} (e:H a=some (.frz o (.lst xs))):TyOf K H (.ref a) (.type "list")
 | tup {a:Addr} {xs:List V} (e:H a=some (.tup xs)):TyOf K H (.ref a) (.type "tuple")
 | dK {a:Addr} {kvs:List (Key × V)} (e:H a=some (.dK kvs)):TyOf K H (.ref a) (.type "dict")
 | dT {a:Addr} {kvs:List (List Key × V)} (e:H a=some (.dT kvs)):TyOf K H (.ref a) (.type "dict")
 | ins {a C dx:Addr} {fs:List (Str × V)} (e:H a=some (.ins C dx fs)) (cl:Cls K C) (ha:W.findIn K (.ref C) "__class__"=some (some (.builtin "object.__class__")))
  (hn:W.specialIn K (.builtin "object.__class__") "__get__"=some (some (.builtin "getset_descriptor.__get__"))) (htk:W.takesIn K (.builtin "object.__class__")=some true)
  (hm:W.mroIn K C (.type "object")=some true):TyOf K H (.ref a) (.ref C)
theorem Yo6{x:V}{u t:Value}(I:Inv X pins σ H s)(rx:RelV x u)(ty:TyOf X.K H x t)(e:W.kitOne X.K t c=some b)(h:∀tk,Q (.bool b) { s with toks:=tk }) :
 wpAny (model X.prog X.w) A (call (.builtin "isinstance") [u,c]) Q E s:=by
 cases ty with
 | non=>cases (show u=Value.none from rx);exact W.kia_one W.kitx_none I.kIn True.intro e (fun z=>nomatch z) h
 | bl y=>cases (show u=Value.bool y from rx);exact W.kia_one W.kitx_bool I.kIn True.intro e (fun z=>nomatch z) h
 | int i=>obtain⟨t,q⟩:=(show ∃t,u=Value.int i t from rx);cases q;exact W.kia_one W.kitx_int I.kIn True.intro e (fun z=>nomatch z) h
 | str y=>obtain⟨t,q⟩:=(show ∃t,u=Value.str y t from rx);cases q;exact W.kia_one W.kitx_str I.kIn True.intro e (fun z=>nomatch z) h
 | flt y=>obtain⟨t,q⟩:=(show ∃t,u=Value.float y t from rx);cases q;exact W.kia_one W.kitx_float I.kIn True.intro e (fun z=>nomatch z) h
 | @lst a xs ea=>
   cases (show u=Value.ref a from rx)
   obtain⟨_,_,n,_,h1⟩:=(show ObjOk X.prog X.w H s.heap a (.lst xs) from I.hok a _ ea)
   exact W.kia_one W.kitx_list I.kIn ⟨_,h1,rfl⟩ e (fun z=>nomatch z) h
 | @frz a ob xs ea=>
   cases (show u=Value.ref a from rx)
   obtain⟨_,_,_,n,_,h1⟩:=(show ObjOk X.prog X.w H s.heap a (.frz ob (.lst xs)) from I.hok a _ ea)
   exact W.kia_one W.kitx_list I.kIn ⟨_,h1,rfl⟩ e (fun z=>nomatch z) h
 | @tup a xs ea=>
   cases (show u=Value.ref a from rx)
   obtain⟨_,_,_,p⟩:=(show ObjOk X.prog X.w H s.heap a (.tup xs) from I.hok a _ ea)
   obtain⟨o,h1,h2,_⟩:=p
   exact W.kia_one W.kitx_tuple I.kIn ⟨o,h1,h2⟩ e (fun z=>nomatch z) h
 | @dK a kvs ea=>
   cases (show u=Value.ref a from rx)
   obtain⟨_,_,vs,_,p⟩:=(show ObjOk X.prog X.w H s.heap a (.dK kvs) from I.hok a _ ea)
   obtain⟨o,es,ep,h1,h2,_⟩:=p
   exact W.kia_one W.kitx_dict I.kIn ⟨o,h1,h2.1⟩ e (fun z=>nomatch z) h
 | @dT a kvs ea=>
   cases (show u=Value.ref a from rx)
   obtain⟨_,_,xs,_,o,es,ep,h1,h2,_⟩:=(show ObjOk X.prog X.w H s.heap a (.dT kvs) from I.hok a _ ea)
   exact W.kia_one W.kitx_dict I.kIn ⟨o,h1,h2.1⟩ e (fun z=>nomatch z) h
 | @ins a C dx fs ea cl ha hn htk hm=>
   cases (show u=Value.ref a from rx)
   obtain⟨mA,O,_⟩:=Yi4 I.hok ea
   obtain⟨od,J,_⟩:=O.look
   exact W.kia_one (W.kitx_own (cl.get _) cl.hd ha hn htk hm) I.kIn J e (fun z=>nomatch z) h
end
end L2
namespace L2
open PySem PySem.Spec PyProof.Rows
structure Room(k:Nat)(A:Around):Prop where
 hd:A.handled=none
 dp:A.depth+3 * k+5 < recursionLimit
 un:A.units+16 * k+200 < cLine
theorem Room.mono{j k:Nat}{A:Around}(r:Room k A)(h:j<=k):Room j A:=⟨r.hd,by have:=r.dp;lia,by have:=r.un;lia⟩
theorem Room.deeper{k:Nat}{A:Around}(r:Room (k+1) A)(env:Env):Room k (A.deeper env):=
 ⟨r.hd,by have:=r.dp;show A.depth+1+3 * k+5 < _;lia,by have:=r.un;show A.units+3+16 * k+200 < _;lia⟩
theorem Yn0{A:Around}{C:Addr}{us:List Value}{kw:List (Str × Value)}:(A.under (.builtin "type.__call__" ⟨.ref C::us,kw⟩)).depth=A.depth+1:=by
 first | rfl | simp[Around.under,Code.weight,Code.isCreation,Code.isGuard,Code.isCaller,Code.frames,Code.isFrame,guardIds]
theorem Yn1{A:Around}{C:Addr}{us:List Value}{kw:List (Str × Value)}:(A.under (.builtin "type.__call__" ⟨.ref C::us,kw⟩)).units=A.units+1:=by
 first | rfl | simp[Around.under,Code.cUnits,Code.frames,Code.isFrame]
theorem Room.make{k:Nat}{A:Around}(r:Room (k+1) A)(C:Addr)(us:List Value)(kw:List (Str × Value)):Room k (A.under (.builtin "type.__call__" ⟨.ref C::us,kw⟩)):=
 ⟨r.hd,by have:=r.dp;rw[Yn0];lia,by have:=r.un;rw[Yn1];lia⟩
theorem Room.depth{k:Nat}{A:Around}(r:Room k A):A.depth < recursionLimit:=by have:=r.dp;lia
theorem Room.units{k:Nat}{A:Around}(r:Room k A):A.units+64 < cLine:=by have:=r.un;lia
def tNil:TA:=fun _ H Q=>Q [] H
def Yzv(ta:TE)(tr:TA):TA:=fun σ H Q=>ta σ H fun x H1=>tr σ H1 fun xs H2=>Q (x::xs) H2
section
variable {X:Cx} {e:Expr} {es:List Expr} {te:TE} {t:TA} {pos:Pos}
theorem Yc4:PA X [] tNil:=fun _ _ _ _ H Q I h=>Calls.spliced_nil ⟨[],H,I,.nil,h⟩
theorem Ya7(ha:PE X e te)(hr:PA X es t)(hs:starEach (e::es) X.env=(false,eval e X.env)::starEach es X.env:=by rfl):PA X (e::es) (Yzv te t):=by
 intro pos pins s σ H Q I h
 rw[hs]
 show wpAny _ _ (spliced ((false,eval e X.env)::backTo pos (starEach es X.env))) _ _ s
 refine Calls.spliced_cons (thn (ha pins s σ H _ I h) fun u s1 hx_=>?_)
 obtain⟨x,H1,I1,r1,q1⟩:=hx_
 refine thn (hr pos pins s1 σ H1 _ I1 q1) fun us s2 hx_=>?_
 obtain⟨xs,H2,I2,r2,q2⟩:=hx_
 exact⟨x::xs,H2,I2,.cons r1 r2,q2⟩
def tTup(t:TA):TE:=fun σ H Q=>t σ H fun xs H1=>xs.length<=sizeLine/\∀p,H1 p=none->Q (.ref p) (upd H1 p (.tup xs))
def tLst(t:TA):TE:=fun σ H Q=>t σ H fun xs H1=>xs.length<=sizeLine/\∀p,H1 p=none->Q (.ref p) (upd H1 p (.lst xs))
theorem Yw9{x1}(h:PA X es t):PE X (.Tuple es x1 pos) (tTup t):=by
 intro pins s σ H Q I hq
 refine wpAny_Tuple_spliced (thn (h pos pins s σ H _ I hq) fun us s1 ⟨xs,H1,I1,r,z,q⟩=>⟨by rw[<-r.length];exact z,?_⟩)
 have hf:H1 s1.heap.objs.size=none:=I1.hok.fresh (qs _)
 refine⟨.ref s1.heap.objs.size,upd H1 s1.heap.objs.size (.tup xs),I1.laid (t':=s1.toks) (fun b u e=>qd _ e) (qs _) ?_,rfl,q _ hf⟩
 exact⟨z,us,r,⟨_,qo _ rfl,rfl,_,rfl⟩⟩
theorem Yms(h:PA X es t):PE X (.List es pos) (tLst t):=by
 intro pins s σ H Q I hq
 refine wpAny_List_spliced (thn (h pos pins s σ H _ I hq) fun us s1 ⟨xs,H1,I1,r,z,q⟩=>⟨by rw[<-r.length];exact z,?_⟩)
 have hf:H1 s1.heap.objs.size=none:=I1.hok.fresh (qs _)
 refine⟨.ref s1.heap.objs.size,upd H1 s1.heap.objs.size (.lst xs),I1.laid (t':=s1.toks) (fun b u e=>qd _ e) (qs _) ?_,rfl,q _ hf⟩
 exact⟨z,us,0,r,qo _ rfl⟩
end
abbrev Sp:=List V->Hp->VK->XK->Prop
abbrev CXT:=List Env->Hp->Shared->XK->Value->Shared->Prop
structure Env0(P:Program)(w:World)(K:W.Frag)(mg:Str->Option Value)(base:Heap)(A:Around)(outer:List Env)(s:Shared)(H:Hp):Prop where
 frames:A.frames=some outer
 mod:Mod K mg base
 bs:∀b o,base.get? b=some o->s.heap.get? b=some o/\H b=none
 bsz:base.objs.size<=s.heap.objs.size
 funs:s.heap.FunFrames base outer
 frf:∀b∈frs outer,H b=none
 hok:HOk P w H s.heap
 bare:AllBare s.gens
def CE(outer:List Env)(P:Program)(w:World)(H:Hp)(s:Shared)(Q:VK)(u:Value)(s':Shared):Prop:=
 ∃v H',s'.os=s.os/\AllBare s'.gens/\Un (frs outer) [] H H' s.heap s'.heap/\HOk P w H' s'.heap/\RelV v u/\Q v H'
def CR(CX:CXT)(outer:List Env)(P:Program)(w:World)(H:Hp)(s:Shared)(Q:VK)(E:XK)(r:Result)(s':Shared):Prop:=
 match r with
 | .ok (.ret u)=>CE outer P w H s Q u s'
 | .ok _=>False
 | .error e=>CX outer H s E e s'
structure FnOk(P:Program)(w:World)(K:W.Frag)(mg:Str->Option Value)(base:Heap)(CX:CXT)(k:Nat)(f:Addr)(fd:FuncData)(ps:List Str)(sp:Sp):Prop where
 len:∀vs H Q E,sp vs H Q E->vs.length=ps.length
 run:∀(A:Around) (outer:List Env) (s:Shared) (H:Hp) (args:Args) (us:List Value) (vs:List V) (Q:VK) (E:XK),Room k A->Env0 P w K mg base A outer s H->BindsTo s fd args (ps.zip us)->Vals vs us->sp vs H Q E->
  codeAny (model P w) A (.call (.ref f) args) (CR CX outer P w H s Q E) s
theorem Env0.make{P:Program}{w:World}{K:W.Frag}{mg:Str->Option Value}{base:Heap}{A:Around}{outer:List Env}{s:Shared}{H:Hp}(e:Env0 P w K mg base A outer s H)(C:Addr)(us:List Value)(kw:List (Str × Value)) :
 Env0 P w K mg base (A.under (.builtin "type.__call__" ⟨.ref C::us,kw⟩)) outer s H:=⟨by first | exact e.frames | (simpa [Around.under,Code.envs,Code.isFrame,pushEnvs]using e.frames),e.mod,e.bs,e.bsz,e.funs,e.frf,e.hok,e.bare⟩
section
variable {X:Cx} {pins:List (Addr × Obj)} {σ:St} {H:Hp} {s s':Shared}
theorem Inv.env0(I:Inv X pins σ H s):Env0 X.prog X.w X.K X.mg X.base X.A X.stack s H:=
 ⟨I.ok.frames,I.ok.mod,I.bs,qz I.ok.bsz I.sz,I.stack,I.stkFree,I.hok,I.bare⟩
theorem Inv.after{Q:VK}{u:Value}(I:Inv X pins σ H s)(h:CE X.stack X.prog X.w H s Q u s'):EP X pins σ Q u s':=by
 obtain⟨v,H',os,bare,un,hok,r,q⟩:=h
 obtain⟨hh,g,d,t,os'⟩:=s'
 obtain rfl:os'=s.os:=os
 exact⟨v,H',I.call (h':=hh) (g':=g) (d':=d) (t':=t) (ch:=[]) un hok bare (fun b z=>absurd z (by simp)),r,q⟩
end
def Yzw(sp:Sp)(dvs:List V)(E:XK)(t:TA):TE:=fun σ H Q=>t σ H fun vs H1=>sp (vs++dvs) H1 Q E
def Yxa(C:Addr)(m:Str)(sp:Sp)(dvs:List V)(E:XK)(ta:TE)(t:TA):TE:=fun σ H Q=>ta σ H fun x H1=>∃a dx fs,x=.ref a/\H1 a=some (.ins C dx fs)/\fs.lookup m=none/\
 t σ H1 fun vs H2=>sp (x::(vs++dvs)) H2 Q E
def Yzx(C:Addr)(sp:Sp)(dvs:List V)(E:XK)(t:TA):TE:=fun σ H Q=>t σ H fun vs H1=>∀x dx,H1 x=none->H1 dx=none->dx≠x->
 sp (.ref x::(vs++dvs)) (upd (upd H1 dx (.own x)) x (.ins C dx [])) (fun v H2=>v=.non/\Q (.ref x) H2) E
def Binds(K:W.Frag)(fd:FuncData)(ps:List Str)(ds:List Value):Prop:=
 ∀(s:Shared) (us:List Value),K.In s.heap->(us++ds).length=ps.length->BindsTo s fd ⟨us,[]⟩ (ps.zip (us++ds))
theorem Binds.all{K:W.Frag}{fd:FuncData}{ps:List Str}(h:∀us:List Value,us.length=ps.length->bindArgs fd ⟨us,[]⟩=pure (ps.zip us)):Binds K fd ps []:=fun s us _ hl=>by
 rw[List.append_nil]at hl ⊢
 exact .of_eq (h us hl)
def Ygz(CX:CXT)(X:Cx)(E:XK):Prop:=∀(pins:List (Addr × Obj)) (σ:St) (H:Hp) (s:Shared) (e:Value) (s':Shared),Inv X pins σ H s->CX X.stack H s E e s'->X.xe e s'
section
variable {X:Cx} {CX:CXT} {k:Nat} {f C:Addr} {fd:FuncData} {ps:List Str} {sp:Sp} {dvs:List V} {ds:List Value} {E:XK} {x m:Str} {p pos apos:Pos} {e o:Expr} {es:List Expr} {ta:TE} {t:TA}
theorem Yo7{pins:List (Addr × Obj)}{σ:St}{H:Hp}{s:Shared}{Q:VK}{us:List Value}{vs:List V}(F:FnOk X.prog X.w X.K X.mg X.base CX k f fd ps sp)(hr:Room k X.A)(hb:Binds X.K fd ps ds)(hd:Vals dvs ds)(hx:Ygz CX X E)
 (I:Inv X pins σ H s) (r:Vals vs us) (h:sp (vs++dvs) H Q E):wpAny (model X.prog X.w) X.A (call (.ref f) us) (EP X pins σ Q) X.xe s:=by
 have r2:Vals (vs++dvs) (us++ds):=r.append hd
 have hl:(us++ds).length=ps.length:=by rw[<-r2.length];exact F.len _ _ _ _ h
 refine wpAny_call (codeAny_mono (F.run X.A X.stack s H ⟨us,[]⟩ (us++ds) (vs++dvs) Q E hr I.env0 (hb s us I.kIn hl) r2 h) fun r s' hq=>?_)
 cases r with
 | error e=>exact hx pins σ H s e s' I hq
 | ok fl=>
   cases fl with
   | ret u=>exact I.after hq
   | next=>exact False.elim hq
   | brk=>exact False.elim hq
   | cont=>exact False.elim hq
theorem Yt8(F:FnOk X.prog X.w X.K X.mg X.base CX k f fd ps sp)(hr:Room k X.A)(hg:Gl X x)(hm:X.mg x=some (.ref f))(hk:W.keepIn X.K (.ref f)=true)(hb:Binds X.K fd ps ds)(hd:Vals dvs ds)(hx:Ygz CX X E)
 (ha:PA X (e::es) t) (hdb:(x==("__debug__":Str))=false:=by decide) (he:starEach (e::es) X.env=(false,eval e X.env)::starEach es X.env:=by rfl) (hpl:(backTo pos (starEach es X.env)).any (·.1)=false:=by rfl) :
 PE X (.Call (.Name x p) (e::es) [] pos) (Yzw sp dvs E t):=by
 intro pins s σ H Q I h
 refine wpAny_Call_Name_kw (Yi2 I hg hm ?_ hdb)
 refine W.callWith_K (h₀:=X.base) I.ok.mod.kin hk (thn (ha pos pins s σ H _ I h) fun us s1 hx_=>?_) he hpl
 obtain⟨vs,H1,I1,r,q⟩:=hx_
 refine⟨I1.kIn,?_⟩
 exact Yo7 F hr hb hd hx I1 r q
theorem Yt9{pl:Sem Bool}(he:PE X o ta)(c:Cls X.K C)(hm:Meth X.K C m f)(F:FnOk X.prog X.w X.K X.mg X.base CX k f fd ps sp)(hr:Room k X.A)(hb:Binds X.K fd ps ds)(hd:Vals dvs ds)(hx:Ygz CX X E)(ha:PA X (e::es) t)
 (hst:starEach (e::es) X.env=(false,eval e X.env)::starEach es X.env:=by rfl) (hpl:(backTo pos (starEach es X.env)).any (·.1)=false:=by rfl)
 (ht:eval (.Call (.Attribute o m apos) (e::es) [] pos) X.env=(do
  let ov <-eval o X.env
  standAt apos.atName
  let (f,first) <-holding [ov] (getMethod ov m pl)
  callWith pos f first (backTo pos (starEach (e::es) X.env)) (backToKw pos (keywordEach [] X.env))):=by rfl) :
 PE X (.Call (.Attribute o m apos) (e::es) [] pos) (Yxa C m sp dvs E ta t):=by
 intro pins s σ H Q I h
 refine W.methodCall_KW (pl:=pl) (thn (he pins s σ H _ I h) fun u s1 hx_=>?_) ht
 obtain⟨x,H1,I1,rx,a,dx,fs,ex,ea,l,q⟩:=hx_
 subst ex
 obtain rfl:u=Value.ref a:=rx
 refine Yij I1 ea c hm l ?_
 refine W.callWith_K (first:=[.ref a]) (h₀:=X.base) I.ok.mod.kin hm.kp (thn (ha pos pins s1 σ H1 _ I1 q) fun us s2 hx_=>?_) hst hpl
 obtain⟨vs,H2,I2,r,q2⟩:=hx_
 refine⟨I2.kIn,?_⟩
 exact Yo7 (us:=.ref a::us) (vs:=.ref a::vs) F hr hb hd hx I2 (.cons rfl r) q2
theorem Ymt{pl:Sem Bool}(he:PE X o ta)(c:Cls X.K C)(hm:Meth X.K C m f)(F:FnOk X.prog X.w X.K X.mg X.base CX k f fd ps sp)(hr:Room k X.A)(hb:Binds X.K fd ps ds)(hd:Vals dvs ds)(hx:Ygz CX X E)
 (ht:eval (.Call (.Attribute o m apos) [] [] pos) X.env=(do
  let ov <-eval o X.env
  standAt apos.atName
  let (f,first) <-holding [ov] (getMethod ov m pl)
  callWith pos f first (backTo pos (starEach [] X.env)) (backToKw pos (keywordEach [] X.env))):=by rfl) :
 PE X (.Call (.Attribute o m apos) [] [] pos) (Yxa C m sp dvs E ta tNil):=by
 intro pins s σ H Q I h
 refine W.methodCall_KW (pl:=pl) (thn (he pins s σ H _ I h) fun u s1 hx_=>?_) ht
 obtain⟨x,H1,I1,rx,a,dx,fs,ex,ea,l,q⟩:=hx_
 subst ex
 obtain rfl:u=Value.ref a:=rx
 refine Yij I1 ea c hm l ?_
 exact W.callWith_K0 (first:=[.ref a]) I1.kIn hm.kp (Yo7 (us:=[.ref a]) (vs:=[.ref a]) F hr hb hd hx I1 (.cons rfl .nil) q)
structure Mk(K:W.Frag)(C f:Addr):Prop where
 makes:W.makesIn K C=true
 init:W.findIn K (.ref C) "__init__"=some (some (.ref f))
 fn:W.isFn K (.ref f)=true
 kp:W.keepIn K (.ref C)=true
theorem Yrq{pins:List (Addr × Obj)}{σ:St}{H:Hp}{s:Shared}{Q:VK}{us:List Value}{vs:List V}(M:Mk X.K C f)(F:FnOk X.prog X.w X.K X.mg X.base CX k f fd ps sp)(hr:Room (k+1) X.A)(hb:Binds X.K fd ps ds)(hd:Vals dvs ds)
 (hx:Ygz CX X E) (I:Inv X pins σ H s) (r:Vals vs us)
 (h:∀x dx,H x=none->H dx=none->dx≠x->sp (.ref x::(vs++dvs)) (upd (upd H dx (.own x)) x (.ins C dx [])) (fun v H2=>v=.non/\Q (.ref x) H2) E) :
 wpAny (model X.prog X.w) X.A (call (.ref C) us) (EP X pins σ Q) X.xe s:=by
 have hq:=h (s.heap.objs.size+1) s.heap.objs.size (I.hok.fresh (Nat.le_succ _)) (I.hok.fresh (qs _)) (ql (qx _))
 have I2:=Inv.made (C:=C) I
 have r2:Vals (V.ref (s.heap.objs.size+1)::(vs++dvs)) (Value.ref (s.heap.objs.size+1)::(us++ds)):=.cons rfl (r.append hd)
 have hl:(Value.ref (s.heap.objs.size+1)::us++ds).length=ps.length:=by
  have e:=r2.length
  rw[F.len _ _ _ _ hq]at e
  exact e.symm
 refine wpAny_call (Yrp (f:=f) I.kIn M.makes M.init (beq_iff_eq.mp M.fn) (codeAny_mono (F.run _ X.stack _ _ ⟨Value.ref (s.heap.objs.size+1)::us,[]⟩ (Value.ref (s.heap.objs.size+1)::(us++ds)) _ _ E (hr.make C us [])
  (I2.env0.make C us []) (hb _ (Value.ref (s.heap.objs.size+1)::us) I2.kIn hl) r2 hq) fun r s' hq'=>?_))
 cases r with
 | error e=>exact hx pins σ _ _ e s' I2 hq'
 | ok fl=>
   cases fl with
   | ret u=>
     obtain⟨v,H',I3,rv,ev,q3⟩:=I2.after hq'
     subst ev
     exact⟨rv,⟨V.ref (s.heap.objs.size+1),H',I3,rfl,q3⟩⟩
   | next=>exact False.elim hq'
   | brk=>exact False.elim hq'
   | cont=>exact False.elim hq'
theorem Yua(M:Mk X.K C f)(F:FnOk X.prog X.w X.K X.mg X.base CX k f fd ps sp)(hr:Room (k+1) X.A)(hg:Gl X x)(hm:X.mg x=some (.ref C))(hb:Binds X.K fd ps ds)(hd:Vals dvs ds)(hx:Ygz CX X E)
 (ha:PA X (e::es) t) (hdb:(x==("__debug__":Str))=false:=by decide) (he:starEach (e::es) X.env=(false,eval e X.env)::starEach es X.env:=by rfl) (hpl:(backTo pos (starEach es X.env)).any (·.1)=false:=by rfl) :
 PE X (.Call (.Name x p) (e::es) [] pos) (Yzx C sp dvs E t):=by
 intro pins s σ H Q I h
 refine wpAny_Call_Name_kw (Yi2 I hg hm ?_ hdb)
 refine W.callWith_K (h₀:=X.base) I.ok.mod.kin M.kp (thn (ha pos pins s σ H _ I h) fun us s1 hx_=>?_) he hpl
 obtain⟨vs,H1,I1,r,q⟩:=hx_
 refine⟨I1.kIn,?_⟩
 exact Yrq M F hr hb hd hx I1 r q
end
section
variable {X:Cx} {CX:CXT} {k:Nat} {f C:Addr} {fd:FuncData} {ps ks:List Str} {sp:Sp} {E:XK} {x m:Str} {p pos apos kpos:Pos} {e o:Expr} {es:List Expr} {kws:List Keyword} {te ta:TE} {t tk:TA} {nm:Option Str}
structure KBinds(K:W.Frag)(fd:FuncData)(ps ks:List Str)(g:List Value->List Value->List Value)(gV:List V->List V->List V):Prop where
 to:∀(s:Shared) (us ws:List Value),K.In s.heap->(g us ws).length=ps.length->BindsTo s fd ⟨us,ks.zip ws⟩ (ps.zip (g us ws))
 rel:∀{vs:List V} {us:List Value} {zs:List V} {ws:List Value},Vals vs us->Vals zs ws->Vals (gV vs zs) (g us ws)
variable {g:List Value->List Value->List Value} {gV:List V->List V->List V}
end
structure FnScope(N P:List Str)(sc:Scope):Prop where
 kind:sc.kind=.function
 co:sc.isCoroutine=false
 gen:sc.isGenerator=false
 nd:N.Nodup
 pre:N.take P.length=P
 par:∀x∈P,sc.names.lookup x=some .local\/sc.names.lookup x=some .cell
 nofree:∀y∈sc.names,y.2≠.free
theorem Yki{kindOf:Str->Option NameKind}{x:Str}:∀{binds:List (Str × Value)} {m:Str->Option Value},(∀v,(x,v)∉binds)->bindL kindOf binds m x=m x
 | [],_,_=>rfl
 | (n,v)::r,m,h=>by
   unfold bindL
   rw[Yki fun w hw=>h w (qf _ hw)]
   split
   ·have:x≠n:=by rintro rfl;exact h v qg
    simp[this]
   ·rfl
theorem Ykj{kindOf:Str->Option NameKind}{x:Str}:∀{binds:List (Str × Value)} {m:Str->Option Value},(∀v,(x,v)∉binds)->bindC kindOf binds m x=m x
 | [],_,_=>rfl
 | (n,v)::r,m,h=>by
   unfold bindC
   rw[Ykj fun w hw=>h w (qf _ hw)]
   split
   ·rfl
   ·have:x≠n:=by rintro rfl;exact h v qg
    simp[this]
theorem Ykk{kindOf:Str->Option NameKind}{x:Str}{v:Value}:∀{P:List Str} {vs:List Value} {i:Nat} {m:Str->Option Value},P.Nodup->P[i]?=some x->vs[i]?=some v->kindOf x=some .local->
 bindL kindOf (P.zip vs) m x=some v
 | [],_,_,_,_,h,_,_=>by simp at h
 | _::_,[],_,_,_,_,h,_=>by simp at h
 | p::P,w::vs,0,m,nd,h1,h2,hk=>by
   simp at h1 h2;subst h1;subst h2
   show bindL kindOf ((p,w)::P.zip vs) m p=_
   unfold bindL
   rw[Yki fun v hv=>(List.nodup_cons.mp nd).1 (List.of_mem_zip hv).1,if_pos hk]
   simp
 | p::P,w::vs,i+1,m,nd,h1,h2,hk=>by
   show bindL kindOf ((p,w)::P.zip vs) m x=_
   unfold bindL
   exact Ykk (i:=i) (List.nodup_cons.mp nd).2 (by simpa using h1) (by simpa using h2) hk
theorem Ykl{kindOf:Str->Option NameKind}{x:Str}{v:Value}:∀{P:List Str} {vs:List Value} {i:Nat} {m:Str->Option Value},P.Nodup->P[i]?=some x->vs[i]?=some v->kindOf x≠some .local->
 bindC kindOf (P.zip vs) m x=some v
 | [],_,_,_,_,h,_,_=>by simp at h
 | _::_,[],_,_,_,_,h,_=>by simp at h
 | p::P,w::vs,0,m,nd,h1,h2,hk=>by
   simp at h1 h2;subst h1;subst h2
   show bindC kindOf ((p,w)::P.zip vs) m p=_
   unfold bindC
   rw[Ykj fun v hv=>(List.nodup_cons.mp nd).1 (List.of_mem_zip hv).1,if_neg hk]
   simp
 | p::P,w::vs,i+1,m,nd,h1,h2,hk=>by
   show bindC kindOf ((p,w)::P.zip vs) m x=_
   unfold bindC
   exact Ykl (i:=i) (List.nodup_cons.mp nd).2 (by simpa using h1) (by simpa using h2) hk
def start(N:List Str)(vs:List V):St:=vs.map some++List.replicate (N.length - vs.length) none
def cxOf(CX:CXT)(P:Program)(w:World)(K:W.Frag)(mg:Str->Option Value)(base:Heap)(N:List Str)(qual:Str)(scope:Scope)(f:Addr)(cd:Value)(A:Around)(outer:List Env)(s:Shared)(H:Hp)(E:XK):Cx where
 prog:=P
 w:=w
 K:=K
 mg:=mg
 base:=base
 A:=A.deeper (envOfC qual scope s.heap.objs.size f cd)
 N:=N
 s₀:=s
 H₀:=H
 env:=envOfC qual scope s.heap.objs.size f cd
 outer:=outer
 stack:=envOfC qual scope s.heap.objs.size f cd::outer
 ex:=[]
 calm:=true
 fn:=fun _=>true
 pn:=[]
 xe:=fun e s'=>wpAny (model P w) (A.deeper (envOfC qual scope s.heap.objs.size f cd)) (leaving (envOfC qual scope s.heap.objs.size f cd) e) (fun _ s''=>CX outer H s E e s'') (fun e' s''=>CX outer H s E e' s'') s'
theorem Ymu{sc:Scope}{n:Nat}{x:Str}(h:sc.names.lookup x=some .cell):∃c,(cellsFrom n sc.names []).lookup x=some c:=by
 have q:=PySem.W.cellsFrom_some sc.names n [] (.inl h)
 exact Option.isSome_iff_exists.mp q
theorem Yo8{CX:CXT}{P:Program}{w:World}{K:W.Frag}{mg:Str->Option Value}{base:Heap}{N ps:List Str}{qual:Str}{scope:Scope}{f:Addr}{cd:Value}{A:Around}{outer:List Env}{s s1:Shared}{H:Hp}{E:XK}{us:List Value}{vs:List V}
 (S:FnScope N ps scope) (hd:A.handled=none) (e0:Env0 P w K mg base A outer s H) (hl:vs.length=ps.length) (r:Vals vs us)
 (x:InCallC s s.heap.objs.size (bindL (envOfC qual scope s.heap.objs.size f cd).kindOf (ps.zip us) fun _=>none) (cellsFrom (s.heap.objs.size+1) scope.names []) (bindC (envOfC qual scope s.heap.objs.size f cd).kindOf (ps.zip us) fun _=>none) s1) :
 Inv (cxOf CX P w K mg base N qual scope f cd A outer s H E) [] (start N vs) H s1:=by
 have hpl:ps.length<=N.length:=by have:=congrArg List.length S.pre;rw[List.length_take]at this;lia
 obtain⟨h1,tk,rfl,hk⟩:=x.done
 have noA:∀b:Addr,b∉(cxOf CX P w K mg base N qual scope f cd A outer s H E).ex:=fun b z=>absurd (show b∈([]:List Addr) from z) (by simp)
 refine⟨⟨e0.mod,S.kind,rfl,rfl,qs _,fun y z c h1 h2=>?_,fun y hy=>?_,fun y c _ h=>?_,fun _=>hd,Around.frames_deeper e0.frames,.inr ⟨rfl,rfl⟩,fun b z=>absurd z (noA b),e0.bs,e0.bsz,fun b _ _=>noA b,fun b z=>absurd z (noA b),e0.funs,e0.frf⟩,
  rfl,e0.bare,Un.kept hk,⟨_,x.toInCall.ns,fun i y v h1 h2 h3=>?_⟩,fun y c h=>⟨_,x.cell y c h⟩,e0.hok.fresh (qs _),fun y c h=>?_,fun p hp=>absurd (show p∈([]:List (Addr × Obj)) from hp) (by simp),e0.hok.kept hk,?_⟩
 ·exact name_of_addr x.apart (PySem.mem_of_lookup h1) (PySem.mem_of_lookup h2)
 ·have hy:scope.names.lookup y=some .cell\/scope.names.lookup y=some .free:=hy
  rcases hy with hy | hy
  ·exact Ymu hy
  ·exact absurd rfl (S.nofree _ (PySem.mem_of_lookup hy))
 ·exact Nat.le_of_lt (x.above y c (PySem.mem_of_lookup h))
 ·have hi:i < vs.length:=by
   unfold start at h2
   by_cases hi:i < vs.length
   ·exact hi
   ·rw[List.getElem?_append_right (by simpa using hi)]at h2
    rw[List.getElem?_replicate]at h2
    split at h2<;>cases h2
  have ha:vs[i]?=some v:=by
   unfold start at h2
   rw[List.getElem?_append_left (by simpa using hi),Qc]at h2
   cases e:vs[i]? with
   | none=>rw[e]at h2;cases h2
   | some a=>rw[e]at h2;cases h2;rfl
  obtain⟨u,hu,rv⟩:=r.get ha
  have hp:ps[i]?=some y:=by
   rw[<-S.pre,List.getElem?_take_of_lt (by lia)];exact h1
  have ndP:ps.Nodup:=by rw[<-S.pre];exact S.nd.sublist (List.take_sublist _ _)
  refine⟨u,rv,?_⟩
  rcases S.par y (List.mem_of_getElem? hp)with k | k
  ·exact .inl ⟨k,Ykk ndP hp hu k⟩
  ·obtain⟨c,e⟩:=Ymu (n:=s.heap.objs.size+1) k
   refine .inr ⟨.inl k,c,e,?_⟩
   have q:=x.cell y c e
   rw[Ykl ndP hp hu (by show scope.names.lookup y≠_;rw[k];decide)]at q
   exact q
 ·exact e0.hok.fresh (Nat.le_of_lt (x.above y c (PySem.mem_of_lookup h)))
 ·unfold start
  show _=N.length
  rw[qw,qe,List.length_replicate]
  lia
theorem Yzy{CX:CXT}{P:Program}{w:World}{K:W.Frag}{mg:Str->Option Value}{base:Heap}{k:Nat}{f:Addr}{name qual:Str}{params:Arguments}{body:List Stmt}{scope:Scope}{dV kV doc pm cdv ct oc:Value}{an od:Option Addr}
 {osl:Array (Option Value)} {N ps:List Str} {sp:Sp} (lk:K.lookup f=some ⟨oc,od,.func (W.fnOf name qual params body scope dV kV doc pm an cdv ct),osl⟩) (hcd:W.codeIn K cdv qual=true) (S:FnScope N ps scope)
 (len:∀vs H Q E,sp vs H Q E->vs.length=ps.length)
 (hbody:∀(A:Around) (outer:List Env) (s:Shared) (H:Hp) (vs:List V) (Q:VK) (E:XK),Room k (A.deeper (envOfC qual scope s.heap.objs.size f cdv))->sp vs H Q E->
  ∃t,PSs (cxOf CX P w K mg base N qual scope f cdv A outer s H E) body t/\t { nx:=fun _ H'=>Q .non H',rt:=Q } (start N vs) H) :
 FnOk P w K mg base CX (k+1) f (W.fnOf name qual params body scope dV kV doc pm an cdv ct) ps sp:=by
 refine⟨len,fun A outer s H args us vs Q E hr e0 hb r hsp=>?_⟩
 have hl:=len _ _ _ _ hsp
 have KX:K.In s.heap:=e0.mod.kin.keeps fun b o e=>(e0.bs b o e).1
 have lim:s.heap.NoLimit:=e0.mod.nolimit.keeps fun b o e=>(e0.bs b o e).1
 have hkind:∀y∈ps.zip us,scope.names.lookup y.1=some .local\/(scope.names.lookup y.1=some .cell/\((cellsFrom (s.heap.objs.size+1) scope.names []).lookup y.1).isSome=true):=fun⟨n,v⟩ hy=>by
  rcases S.par n (List.of_mem_zip hy).1 with q | q
  ·exact .inl q
  ·exact .inr ⟨q,PySem.W.cellsFrom_some _ _ _ (.inl q)⟩
 refine codeAny_call_function hr.depth (KX _ _ lk) rfl S.co S.gen rfl (W.codeRec_of KX hcd) (hb _ _ _ _ ?_)
 refine wpAny_newFunctionEnv_cells S.kind hkind fun env he s1 x=>?_
 subst he
 refine⟨lim.keeps x.toInCall.keep,codeAny_func ?_⟩
 obtain⟨t,ht,hq⟩:=hbody A outer s H vs Q E (hr.deeper _) hsp
 have I:Inv (cxOf CX P w K mg base N qual scope f cdv A outer s H E) [] (start N vs) H s1:=Yo8 S hr.hd e0 hl r x
 refine wpAny_mono (ht [] s1 (start N vs) H _ I hq) (fun fl s' hs=>?_) fun e s' hs=>hs
 have fin:∀{σ':St} {H':Hp} {v:V} {u:Value},Inv (cxOf CX P w K mg base N qual scope f cdv A outer s H E) [] σ' H' s'->RelV v u->Q v H'->CE outer P w H s Q u s':=
  fun {σ' H' v u} J rv q=>⟨v,H',J.os,J.bare,J.base,J.hok,rv,q⟩
 cases fl with
 | ret u=>
   obtain⟨v,σ',H',J,rv,q⟩:=hs
   exact fin J rv q
 | next=>
   obtain⟨σ',H',J,q⟩:=hs
   exact fin (v:=V.non) (u:=Value.none) J rfl q
 | brk=>
   obtain⟨_,_,_,q⟩:=hs
   exact False.elim q
 | cont=>
   obtain⟨_,_,_,q⟩:=hs
   exact False.elim q
end L2
namespace L2
open PySem PySem.Spec PyProof.Rows
section
variable {X:Cx} {x:Str} {p pos:Pos} {e:Expr} {es:List Expr} {t:TA} {id T:String} {r:List V->Hp->VK->Prop}
def tCB(r:List V->Hp->VK->Prop)(t:TA):TE:=fun σ H Q=>t σ H fun vs H1=>r vs H1 Q
theorem Ygq(hc:Yco X (.builtin id) r)(hg:Gl X x)(hm:X.mg x=none)(hv:bootBuiltins x=some (.builtin id))(ha:PA X (e::es) t)(hn:x≠"__name__":=by decide)(hdb:(x==("__debug__":Str))=false:=by decide)
 (he:starEach (e::es) X.env=(false,eval e X.env)::starEach es X.env:=by rfl) (hpl:(backTo pos (starEach es X.env)).any (·.1)=false:=by rfl):PE X (.Call (.Name x p) (e::es) [] pos) (tCB r t):=by
 intro pins s σ H Q I h
 refine wpAny_Call_Name_kw (Ykf I hg hm hv ?_ hn hdb)
 refine PyProof.Rows.callWith_builtin1 (thn (ha pos pins s σ H _ I h) fun us s1 hx_=>?_) he hpl
 obtain⟨vs,H1,I1,r1,q1⟩:=hx_
 exact hc pins s1 σ H1 vs us Q I1 r1 q1
theorem Yg0(hc:Yco X (.type T) r)(hg:Gl X x)(hm:X.mg x=none)(hv:bootBuiltins x=some (.type T))(ha:PA X (e::es) t)(hn:x≠"__name__":=by decide)(hdb:(x==("__debug__":Str))=false:=by decide)
 (he:starEach (e::es) X.env=(false,eval e X.env)::starEach es X.env:=by rfl) (hpl:(backTo pos (starEach es X.env)).any (·.1)=false:=by rfl):PE X (.Call (.Name x p) (e::es) [] pos) (tCB r t):=by
 intro pins s σ H Q I h
 refine wpAny_Call_Name_kw (Ykf I hg hm hv ?_ hn hdb)
 refine PyProof.Rows.callWith_type1 (thn (ha pos pins s σ H _ I h) fun us s1 hx_=>?_) he hpl
 obtain⟨vs,H1,I1,r1,q1⟩:=hx_
 exact hc pins s1 σ H1 vs us Q I1 r1 q1
end
end L2
namespace L2
open PySem PySem.Spec PyProof.Rows
section
variable {κ:Type} [DecidableEq κ]
theorem RelO.isSome_eq{o:Option V}{u:Option Value}(r:RelO o u):o.isSome=u.isSome:=by
 cases o with
 | none=>cases u with
   | none=>rfl
   | some _=>exact(show False from r).elim
 | some _=>cases u with
   | none=>exact(show False from r).elim
   | some _=>rfl
end
def NoSl(i:Expr):Prop:=∀ov iv,subscripted i false ov iv=operate [ov,iv] (getItem ov iv)
theorem Yub{prog:Program}{w:World}{A:Around}{E:Value->Shared->Prop}{s:Shared}{env:Env}{value slice:Expr}{pos:Pos}{T id:String}{Q:Value->Shared->Prop}
 (hl:typeLookup (.type T) "__getitem__"=pure (some (.builtin id))) (hs:NoSl slice)
 (h:wpAny (model prog w) A (eval value env) (fun o s₁=>wpAny (model prog w) A (eval slice env) (fun i s₂=>s₂.TypeIs o T/\wpAny (model prog w) A (getItem o i) Q E s₂) E s₁) E s) :
 wpAny (model prog w) A (eval (.Subscript value slice pos) env) Q E s:=by
 refine Subscript_ (wpAny_mono h (fun o s₁ h₁=>wpAny_mono h₁ (fun i s₂ h₂=>?_) fun _ _ x=>x) fun _ _ x=>x)
 obtain⟨hT,h₂⟩:=h₂
 unfold subscriptTail
 refine wpAny_bind ?_
 rw[getitemInPython_of_ne hT.not_modules]
 refine wpAny_bind (wpAny_specialOf hT hl ?_)
 have fin:wpAny (model prog w) A (subscripted slice false o i) (fun r s₃=>wpAny (model prog w) A (letTemporaryGo value o r >>= fun _=>pure r) Q E s₃) E s₂:=by
  rw[hs o i]
  exact wpAny_operating (wpAny_mono h₂ (fun r s₃ h₃=>wpAny_bind (wpAny_letTemporaryGo (wpAny_pure h₃))) fun _ _ x=>x)
 first
  | exact wpAny_pure (wpAny_bind fin)
  | exact wpAny_bind (wpAny_pure (wpAny_bind fin))
  | exact wpAny_bind fin
def Ytg:List (TE × TE)->St->Hp->(List (V × V)->Hp->Prop)->Prop
 | [],_,H,Q=>Q [] H
 | (tk,tv)::r,σ,H,Q=>tk σ H fun x H1=>tv σ H1 fun y H2=>Ytg r σ H2 fun ps H3=>Q ((x,y)::ps) H3
abbrev VV:List (V × V)->List (Value × Value)->Prop:=Paired fun p q=>RelV p.1 q.1/\RelV p.2 q.2
def PPs(X:Cx)(pos:Pos)(keys:List (Option Expr))(values:List Expr)(trs:List (TE × TE)):Prop:=
 ∀(pins:List (Addr × Obj)) (s:Shared) (σ:St) (H:Hp) (Q:List (V × V)->Hp->Prop),Inv X pins σ H s->Ytg trs σ H Q->
  wpAny (model X.prog X.w) X.A (evalPairs (pairTrees keys values X.env pos)) (fun vs s'=>∃ps H',Inv X pins σ H' s'/\VV ps vs/\Q ps H') X.xe s
structure M1(X:Cx)(o:Expr)(m:Str)(apos:Pos)(e:Expr)(cpos:Pos):Prop where
 base:attributeBase o m X.env (eval o X.env)=eval o X.env
 few:((backTo cpos (starEach [e] X.env)).all (fun x=>!x.1)&&(backToKw cpos (keywordEach [] X.env)).all (fun x=>x.1.isSome)
  &&decide (([e]:List Expr).length+([]:List Keyword).length+(if ([]:List Keyword).isEmpty then 0 else 1) < 30))=true
 line:(apos.endLine==cpos.line)=true
 trees:backTo cpos (starEach [e] X.env)=[(false,eval e X.env)]
structure M2(X:Cx)(o:Expr)(m:Str)(apos:Pos)(e f:Expr)(cpos:Pos):Prop where
 base:attributeBase o m X.env (eval o X.env)=eval o X.env
 few:((backTo cpos (starEach [e,f] X.env)).all (fun x=>!x.1)&&(backToKw cpos (keywordEach [] X.env)).all (fun x=>x.1.isSome)
  &&decide (([e,f]:List Expr).length+([]:List Keyword).length+(if ([]:List Keyword).isEmpty then 0 else 1) < 30))=true
 line:(apos.endLine==cpos.line)=true
 trees:backTo cpos (starEach [e,f] X.env)=[(false,eval e X.env),(false,eval f X.env)]
end L2
namespace HT
open PySem PyProof.Rows
section
variable {prog:Program} {w:World} {A:Around} {E:Value->Shared->Prop} {s:Shared}
def sIx(n d:Nat):Option Int->Nat
 | none=>d
 | some v=>if v < 0 then (v+(n:Int)).toNat else min v.toNat n
theorem sIx_none(n d:Nat):sIx n d none=d:=rfl
theorem sIx_nat(n d k:Nat):sIx n d (some (k:Int))=min k n:=by
 show(if (k:Int) < 0 then ((k:Int)+(n:Int)).toNat else min (k:Int).toNat n)=min k n
 rw[if_neg (by lia),Int.toNat_natCast]
end
end HT
namespace L2
open PySem PySem.Spec PyProof.Rows
abbrev TO:=St->Hp->(Option Int->Hp->Prop)->Prop
def PO(X:Cx)(e:Option Expr)(t:TO):Prop:=
 ∀(pins:List (Addr × Obj)) (s:Shared) (σ:St) (H:Hp) (Q:Option Int->Hp->Prop),Inv X pins σ H s->t σ H Q->
  wpAny (model X.prog X.w) X.A (evalPart e X.env) (fun u s'=>∃o H',Inv X pins σ H' s'/\IsPart u o/\Q o H') X.xe s
def Yo9:TO:=fun _ H Q=>Q none H
def Yxb(t:TE):TO:=fun σ H Q=>t σ H fun x H1=>∃i,x=.int i/\Q (some i) H1
theorem Yfu{ns:List Int}:∀{us:List Value},Vals (ns.map V.int) us->IntsAre us ns:=by
 induction ns with
 | nil=>intro us r;rw[List.map_nil]at r;cases r;exact .nil
 | cons n ns ih=>
   intro us r
   rw[qy]at r
   cases r with
   | cons r1 r2=>
     obtain⟨t,e⟩:=r1
     subst e
     exact .cons n t (ih r2)
section
variable {X:Cx} {e:Expr} {te:TE} {lo hi:Option Expr} {tl th:TO} {pos p2:Pos}
theorem Yuc:PO X none Yo9:=by
 intro pins s σ H Q I h
 rw[evalPart_none]
 exact wpAny_pure ⟨none,H,I,.none,h⟩
theorem Yud(h:PE X e te):PO X (some e) (Yxb te):=by
 intro pins s σ H Q I hw
 rw[evalPart_some]
 refine thn (h pins s σ H _ I hw) fun u s1 hx_=>?_
 obtain⟨x,H1,I1,r1,q1⟩:=hx_
 obtain⟨i,rfl,q⟩:=q1
 obtain⟨t,rfl⟩:=r1
 exact⟨some i,H1,I1,.int i t,q⟩
def SlR(X:Cx)(r:V->Option Int->Option Int->Hp->VK->Prop):Prop:=
 ∀(pins:List (Addr × Obj)) (s:Shared) (σ:St) (H:Hp) (x:V) (v vl vu:Value) (lo hi:Option Int) (sl:Addr) (Q:VK),Inv X pins σ H s->RelV x v->s.heap.IsSliceOf sl vl vu .none->IsPart vl lo->IsPart vu hi->r x lo hi H Q->
  ∃T id,typeLookup (.type T) "__getitem__"=pure (some (.builtin id))/\s.TypeIs v T/\wpAny (model X.prog X.w) X.A (getItem v (.ref sl)) (EP X pins σ Q) X.xe s
def tSl(r:V->Option Int->Option Int->Hp->VK->Prop)(te:TE)(tl th:TO):TE:=fun σ H Q=>te σ H fun x H1=>tl σ H1 fun l H2=>th σ H2 fun u H3=>r x l u H3 Q
theorem Yrr{r:V->Option Int->Option Int->Hp->VK->Prop}(hr:SlR X r)(he:PE X e te)(hl:PO X lo tl)(hu:PO X hi th):PE X (.Subscript e (.Slice lo hi none p2) pos) (tSl r te tl th):=by
 intro pins s σ H Q I h
 refine Subscript_ (thn (he pins s σ H _ I h) fun v s1 hx_=>?_)
 obtain⟨x,H1,I1,r1,q1⟩:=hx_
 refine wpAny_Slice (thn (hl pins s1 σ H1 _ I1 q1) fun vl s2 hx_=>?_)
 obtain⟨l,H2,I2,pl,q2⟩:=hx_
 refine thn (hu pins s2 σ H2 _ I2 q2) fun vu s3 hx_=>?_
 obtain⟨u,H3,I3,pu,q3⟩:=hx_
 rw[evalPart_none]
 refine wpAny_pure ?_
 have I4:Inv X pins σ H3 { s3 with heap:=s3.heap.push { cls:=.type "slice",data:=.fields #[vl,vu,.none] } }:=I3.kept (t':=s3.toks) fun b ob q=>qd _ q
 obtain⟨T,id,hT,ht,hg⟩:=hr pins { s3 with heap:=s3.heap.push { cls:=.type "slice",data:=.fields #[vl,vu,.none] } } σ H3 x v vl vu l u s3.heap.objs.size Q I4 r1 (Heap.IsSliceOf.new ..) pl pu q3
 show wpAny (model X.prog X.w) X.A (subscriptTail e (.Slice lo hi none p2) v (.ref s3.heap.objs.size)) (EP X pins σ Q) X.xe { s3 with heap:=s3.heap.push { cls:=.type "slice",data:=.fields #[vl,vu,.none] } }
 exact tail_any (ops:=[.ref s3.heap.objs.size,v]) ht hT hg (by with_unfolding_all rfl)
def cutV(xs:List V)(lo hi:Option Int):List V:=(xs.drop (HT.sIx xs.length 0 lo)).take (HT.sIx xs.length xs.length hi - HT.sIx xs.length 0 lo)
theorem Ylr(xs:List V)(lo hi:Option Int):(cutV xs lo hi).length<=xs.length:=by
 unfold cutV
 rw[List.length_take,List.length_drop]
 lia
end
end L2
namespace L2
open PySem PySem.Spec PyProof.Rows
def ixN(n:Nat)(i:Int):Option Nat:=if 0<=i then (if i < n then some i.toNat else none)else if -(n:Int)<=i then some (i+n).toNat else none
def atI{α:Type}(xs:List α)(i:Int):Option α:=(ixN xs.length i).bind fun j=>xs[j]?
theorem Ypa{n:Nat}{i:Int}{j:Nat}(h:ixN n i=some j):seqIndex? i n=some j/\j < n/\-(n:Int)<=i/\i < n:=by
 unfold ixN at h
 by_cases h0:0<=i
 ·rw[if_pos h0]at h
  by_cases h1:i < n
  ·rw[if_pos h1]at h
   have e:i.toNat=j:=Option.some.inj h
   exact⟨by rw[seqIndex_of h0 h1,e],by lia,by lia,h1⟩
  ·rw[if_neg h1]at h;cases h
 ·rw[if_neg h0]at h
  by_cases h1:-(n:Int)<=i
  ·rw[if_pos h1]at h
   have e:(i+n).toNat=j:=Option.some.inj h
   exact⟨by rw[seqIndex_neg (by lia) h1,e],by lia,h1,by lia⟩
  ·rw[if_neg h1]at h;cases h
theorem Yls{α:Type}{xs:List α}{i:Int}{v:α}(h:atI xs i=some v):∃j,seqIndex? i xs.length=some j/\xs[j]?=some v/\j < xs.length/\-(xs.length:Int)<=i/\i < xs.length:=by
 unfold atI at h
 cases e:ixN xs.length i with
 | none=>rw[e]at h;cases h
 | some j=>
   rw[e]at h
   obtain⟨h1,h2,h3,h4⟩:=Ypa e
   exact⟨j,h1,h,h2,h3,h4⟩
theorem Ylt{α:Type}{xs:List α}{j:Nat}{v:α}(h:xs[j]?=some v):atI xs (j:Int)=some v:=by
 have hj:j < xs.length:=(qm h).1
 have e:ixN xs.length (j:Int)=some j:=by
  unfold ixN
  rw[if_pos (by lia),if_pos (by lia)];simp
 unfold atI;rw[e];exact h
def Yer(b:Expr):Prop:=∀o i,subscripted b false o i=operate [o,i] (getItem o i)
def IxR(X:Cx)(r:R2):Prop:=
 ∀(value slice:Expr) (pins:List (Addr × Obj)) (s:Shared) (σ:St) (H:Hp) (x y:V) (v u:Value) (Q:VK),Inv X pins σ H s->RelV x v->RelV y u->r x y H Q->
  subscripted slice false v u=operate [v,u] (getItem v u)->wpAny (model X.prog X.w) X.A (subscriptTail value slice v u) (EP X pins σ Q) X.xe s
def MtR(X:Cx)(id:String)(r:V->List V->Hp->VK->Prop):Prop:=
 ∀(pins:List (Addr × Obj)) (s:Shared) (σ:St) (H:Hp) (x:V) (xs:List V) (v:Value) (us:List Value) (Q:VK),Inv X pins σ H s->RelV x v->Vals xs us->r x xs H Q->
  wpAny (model X.prog X.w) X.A (call (.builtin id) (v::us)) (EP X pins σ Q) X.xe s
section
variable {X:Cx} {a b:Expr} {ta tb:TE} {pos:Pos}
theorem IxR.or{r r':R2}(h:IxR X r)(h':IxR X r'):IxR X (fun x y H Q=>r x y H Q\/r' x y H Q):=by
 intro value slice pins s σ H x y v u Q I rx ry q hs
 rcases q with q | q
 ·exact h value slice pins s σ H x y v u Q I rx ry q hs
 ·exact h' value slice pins s σ H x y v u Q I rx ry q hs
theorem Yxc{r:R2}(hr:IxR X r)(ha:PE X a ta)(hb:PE X b tb)(hs:Yer b):PE X (.Subscript a b pos) (tOp r ta tb):=by
 intro pins s σ H Q I h
 exact Subscript_ (binT ha hb I h fun v u s2 x y H2 I2 rx ry q=>hr a b pins s2 σ H2 x y v u Q I2 rx ry q (hs _ _))
def rIxL(K:W.Frag):R2:=fun x y H Q=>∃p xs i v,x=.ref p/\y=.int i/\SqL K H p xs/\atI xs i=some v/\Q v H
def rIxT(K:W.Frag):R2:=fun x y H Q=>∃p xs i v,x=.ref p/\y=.int i/\SqT K H p xs/\atI xs i=some v/\Q v H
def rIxS:R2:=fun x y H Q=>∃z i c,x=.str z/\y=.int i/\z.length<=sizeLine/\atI z.cps.toList i=some c/\Q (.str ⟨#[c]⟩) H
theorem ix_list:IxR X (rIxL X.K):=by
 intro value slice pins s σ H x y v u Q I rx ry h hs
 obtain⟨p,xs,i,z,rfl,rfl,hq,he,q⟩:=h
 cases rx
 obtain⟨t,rfl⟩:=ry
 obtain⟨its,r,pl,hz⟩:=I.list hq
 obtain⟨j,h1,h2,h3,h4,h5⟩:=Yls he
 obtain⟨w,ew,rw'⟩:=r.get h2
 have hl:=r.length
 have hn:=Yii
 have fin:EP X pins σ Q w s:=⟨z,H,I,rw',q⟩
 by_cases h0:0<=i
 ·have hj:i.toNat=j:=by
   rw[seqIndex_of h0 h5]at h1
   exact Option.some.inj h1
  exact item_listR pl.isList h0 (by lia) (by rw[hj];simpa using ew) fin hs
 ·have hj:(i+(its.toArray.size:Int)).toNat=j:=by
   rw[seqIndex_neg (by lia) h4]at h1
   rw[qj,<-hl]
   exact Option.some.inj h1
  exact subscriptTail_builtinR (x:=w) pl.isList.typeIs slot_list_getitem.lookup
   (wpAny_getItem_list_neg (Q:=fun r s'=>r=w/\EP X pins σ Q r s') pl.isList (by lia) (by rw[qj]<;>lia) (by lia) (by rw[hj];simpa using ew) ⟨rfl,fin⟩) hs
theorem ix_tup:IxR X (rIxT X.K):=by
 intro value slice pins s σ H x y v u Q I rx ry h hs
 obtain⟨p,xs,i,z,rfl,rfl,hq,he,q⟩:=h
 cases rx
 obtain⟨t,rfl⟩:=ry
 obtain⟨its,r,pl,hz⟩:=I.tuple hq
 obtain⟨j,h1,h2,h3,h4,h5⟩:=Yls he
 obtain⟨w,ew,rw'⟩:=r.get h2
 have hl:=r.length
 have hn:=Yii
 have fin:EP X pins σ Q w s:=⟨z,H,I,rw',q⟩
 exact subscriptTail_builtinR (x:=w) pl.typeIs slot_tuple_getitem.lookup
  (getItem_tuple (j:=j) (Q:=fun r s'=>r=w/\EP X pins σ Q r s') pl (by lia) (by lia) (by rw[qj,<-hl];exact h1) (by simpa using ew) ⟨rfl,fin⟩) hs
theorem Yth:IxR X rIxS:=by
 intro value slice pins s σ H x y v u Q I rx ry h hs
 obtain⟨z,i,c,rfl,rfl,hz,he,q⟩:=h
 obtain⟨t,rfl⟩:=rx
 obtain⟨t',rfl⟩:=ry
 obtain⟨j,h1,h2,h3,h4,h5⟩:=Yls he
 have hl:z.cps.toList.length=z.length:=by simp[Str.length]
 rw[hl]at h1 h4 h5
 have hn:=Yii
 exact tail_any (typeIs_str s z t) slot_str_getitem.lookup (getItem_str (c:=c) (by
  have e1:decide (i < -(2 ^ 63:Int))=false:=decide_eq_false (by lia)
  have e2:decide (i≥2 ^ 63)=false:=decide_eq_false (by lia)
  rw[e1,e2,Bool.or_false]) (by rw[h1];simpa using h2) ⟨.str ⟨#[c]⟩,H,I.tok _,⟨_,rfl⟩,q⟩) hs
def rIx(K:W.Frag):R2:=fun x y H Q=>rIxL K x y H Q\/rIxT K x y H Q\/rIxS x y H Q
theorem Yxd:IxR X (rIx X.K):=ix_list.or (ix_tup.or Yth)
theorem Yn2(its:List Value)(n j:Nat)(u:Value):Obj.mapSeq (·.setIfInBounds j u) { cls:=.type "list",data:=.seq its.toArray n }={ cls:=.type "list",data:=.seq (its.set j u).toArray n }:=by
 simp[Obj.mapSeq]
theorem Inv.lst{pins:List (Addr × Obj)}{σ:St}{H:Hp}{s:Shared}{p:Addr}{xs:List V}(I:Inv X pins σ H s)(h:H p=some (.lst xs)) :
 ∃(its:List Value) (n:Nat),Vals xs its/\s.heap.get? p=some { cls:=.type "list",data:=.seq its.toArray n }/\xs.length<=sizeLine:=by
 obtain⟨z,its,n,r,e⟩:=I.hok p _ h
 exact⟨its,n,r,e,z⟩
theorem Inv.lstUpd{pins:List (Addr × Obj)}{σ:St}{H:Hp}{s:Shared}{p:Addr}{xs ys:List V}{its its':List Value}{n n':Nat}{f:Obj->Obj}(I:Inv X pins σ H s)(h:H p=some (.lst xs))
 (ho:s.heap.get? p=some { cls:=.type "list",data:=.seq its.toArray n }) (hf:f { cls:=.type "list",data:=.seq its.toArray n }={ cls:=.type "list",data:=.seq its'.toArray n' }) (r:Vals ys its') (hz:ys.length<=sizeLine) (t:Nat) :
 Inv X pins σ (upd H p (.lst ys)) { s with heap:=s.heap.update p f,toks:=t }:=by
 have e:(s.heap.update p f).get? p=some { cls:=.type "list",data:=.seq its'.toArray n' }:=by
  rw[Heap.get?_update_self f ho (by rw[hf]<;>rfl),hf]
 refine I.write (x:=p) (e:=p) (by rw[h];trivial) (.inl rfl) (fun b u hb q=>(Heap.get?_update_other _ _ (Ne.symm hb)).trans q) ⟨_,e⟩ ?_
 exact⟨hz,its',n',r,e⟩
def Yzz:V->V->V->Hp->(Hp->Prop)->Prop:=fun o i v H Q=>∃p xs k j,o=.ref p/\i=.int k/\H p=some (.lst xs)/\ixN xs.length k=some j/\Q (upd H p (.lst (xs.set j v)))
theorem Yrs:PSet X Yzz:=by
 intro pins s σ H o i v ov iv u Q I ro ri rv h
 obtain⟨p,xs,k,j,rfl,rfl,hp,hj,q⟩:=h
 cases ro
 obtain⟨t,rfl⟩:=ri
 obtain⟨its,n,r,ho,hz⟩:=I.lst hp
 obtain⟨h1,h2,h3,h4⟩:=Ypa hj
 have hl:=r.length
 have hn:=Yii
 have I':Inv X pins σ (upd H p (.lst (xs.set j v))) { s with heap:=s.heap.update p (Obj.mapSeq (·.setIfInBounds j u)) }:=
  I.lstUpd hp ho (Yn2 its n j u) (r.set rv j) (by rw[List.length_set];exact hz) s.toks
 by_cases h0:0<=k
 ·have hk:k.toNat=j:=by
   rw[seqIndex_of h0 h4]at h1
   exact Option.some.inj h1
  exact W.ki_setAt ho h0 (by lia) (by rw[qj,<-hl];exact h4) (by rw[hk];exact⟨_,I',q⟩)
 ·have hk:(k+(its.toArray.size:Int)).toNat=j:=by
   rw[seqIndex_neg (by lia) h3]at h1
   rw[qj,<-hl]
   exact Option.some.inj h1
  exact W.ki_setBack ho (by lia) (by rw[qj,<-hl];exact h3) (by lia) (by rw[hk];exact⟨_,I',q⟩)
theorem Ykm(lo hi:Option Int)(n:Nat):(sliceBounds lo hi none n).1=((HT.sIx n 0 lo:Nat):Int)/\(sliceBounds lo hi none n).2.1=((HT.sIx n n hi:Nat):Int)/\(sliceBounds lo hi none n).2.2=1:=by
 refine⟨?_,?_,rfl⟩
 ·cases lo with
  | none=>simp[sliceBounds,HT.sIx]
  | some i=>
    simp only[sliceBounds,HT.sIx,Option.getD_none,show(1:Int) > 0 by decide,if_true]
    by_cases h:i < 0
    ·simp only[h,if_true]<;>lia
    ·simp only[h,if_false]<;>lia
 ·cases hi with
  | none=>simp[sliceBounds,HT.sIx]
  | some i=>
    simp only[sliceBounds,HT.sIx,Option.getD_none,show(1:Int) > 0 by decide,if_true]
    by_cases h:i < 0
    ·simp only[h,if_true]<;>lia
    ·simp only[h,if_false]<;>lia
theorem Yi5(its:List Value)(lo hi:Option Int):slicePick its.toArray lo hi none=((its.drop (HT.sIx its.length 0 lo)).take (HT.sIx its.length its.length hi - HT.sIx its.length 0 lo)).toArray:=by
 obtain⟨h1,h2,h3⟩:=Ykm lo hi its.toArray.size
 unfold slicePick
 rw[h1,h2,h3]
 simp only[sliceRange_one,pick_run,qj]<;>rfl
def rSlL(K:W.Frag):V->Option Int->Option Int->Hp->VK->Prop:=fun x lo hi H Q=>∃a xs,x=.ref a/\SqL K H a xs/\∀p,H p=none->Q (.ref p) (upd H p (.lst (cutV xs lo hi)))
theorem Yue:SlR X (rSlL X.K):=by
 intro pins s σ H x v vl vu lo hi sl Q I rx hs pl pu h
 obtain⟨a,xs,rfl,hx,q⟩:=h
 cases rx
 obtain⟨its,r,ht,hz⟩:=I.list hx
 have hlen:=r.length
 refine⟨"list",_,slot_list_getitem.lookup,ht.isList.typeIs,?_⟩
 refine wpAny_getItem_list_slice ht.isList hs pl pu .none (by simp) ?_ (by rw[qj]<;>lia)
 rw[Yi5,<-hlen]
 refine⟨.ref s.heap.objs.size,_,I.laid (t':=s.toks) (o:=.lst (cutV xs lo hi)) (fun b ob q=>qd _ q) (qs _) ?_,rfl,q _ (I.hok.fresh (qs _))⟩
 exact⟨qz (Ylr xs lo hi) hz,_,0,(r.drop (HT.sIx xs.length 0 lo)).take (HT.sIx xs.length xs.length hi - HT.sIx xs.length 0 lo),qo _ rfl⟩
theorem y9:Yco X (.builtin "len") (fun xs H Q=>∃p ys,xs=[.ref p]/\(SqL X.K H p ys\/SqT X.K H p ys)/\Q (.int ys.length) H):=by
 intro pins s σ H xs us Q I r h
 obtain⟨p,ys,rfl,hq,q⟩:=h
 obtain⟨u,rfl,rx⟩:=Yft r
 cases rx
 have hn:=Yii
 rcases hq with hq | hq
 ·obtain⟨its,r',pl,hz⟩:=I.list hq
  have hlen:=r'.length
  exact Calls.call_len_list pl.isList (by simp only[qj]<;>lia) ⟨.int ys.length,H,I.tok _,⟨s.toks+1,by rw[qj,hlen]⟩,q⟩
 ·obtain⟨its,r',pl,hz⟩:=I.tuple hq
  have hlen:=r'.length
  exact len_tuple pl (by simp only[qj]<;>lia) ⟨.int ys.length,H,I.tok _,⟨s.toks+1,by rw[qj,hlen]⟩,q⟩
theorem Ygd:Yco X (.type "list") (fun xs H Q=>∃p ys,xs=[.ref p]/\(SqL X.K H p ys\/SqT X.K H p ys)/\∀l,H l=none->Q (.ref l) (upd H l (.lst ys))):=by
 intro pins s σ H xs us Q I r h
 obtain⟨p,ys,rfl,hq,q⟩:=h
 obtain⟨u,rfl,rx⟩:=Yft r
 cases rx
 have fin:∀(its:List Value),Vals ys its->ys.length<=sizeLine->∀(h':Heap) (c':Nat),(∀b o',s.heap.get? b=some o'->h'.get? b=some o')->
  h'.get? s.heap.objs.size=some { cls:=.type "list",dict:=none,data:=.seq its.toArray c',slots:=#[] }->EP X pins σ Q (.ref s.heap.objs.size) { s with heap:=h' }:=fun its r' hz h' c' kp e=>
  ⟨.ref s.heap.objs.size,_,I.laid (t':=s.toks) kp (qs _) (show ObjOk X.prog X.w _ h' _ (.lst ys) from⟨hz,its,c',r',e⟩),rfl,q _ (I.hok.fresh (qs _))⟩
 rcases hq with hq | hq
 ·obtain⟨its,r',pl,hz⟩:=I.list hq
  have hlen:=r'.length
  obtain⟨o,ho,hc,n,hd⟩:=pl.isList
  exact call_list_seq p (.inl rfl) ho hc hd (fun h' c' kp e=>fin its r' hz h' c' kp e) (by simp only[qj]<;>lia)
 ·obtain⟨its,r',pl,hz⟩:=I.tuple hq
  have hlen:=r'.length
  obtain⟨o,ho,hc,n,hd⟩:=pl
  exact call_list_seq p (.inr rfl) ho hc hd (fun h' c' kp e=>fin its r' hz h' c' kp e) (by simp only[qj]<;>lia)
theorem Yaz:Yco X (.type "tuple") (fun xs H Q=>∃p ys,xs=[.ref p]/\((SqL X.K H p ys/\∀l,H l=none->Q (.ref l) (upd H l (.tup ys)))\/(SqT X.K H p ys/\Q (.ref p) H))):=by
 intro pins s σ H xs us Q I r h
 obtain⟨p,ys,rfl,h⟩:=h
 obtain⟨u,rfl,rx⟩:=Yft r
 cases rx
 rcases h with⟨hq,q⟩ | ⟨hq,q⟩
 ·obtain⟨its,r',pl,hz⟩:=I.list hq
  have hlen:=r'.length
  refine call_tuple_list pl.isList (fun h' kp=>?_) (by simp only[qj]<;>lia)
  have I1:Inv X pins σ H { s with heap:=h' }:=I.kept (t':=s.toks) kp
  have I2:Inv X pins σ (upd H h'.objs.size (.tup ys)) { s with heap:=h'.push { cls:=.type "tuple",data:=.seq its.toArray } }:=
   I1.laid (t':=s.toks) (fun b o e=>qd _ e) (qs _) (show ObjOk X.prog X.w _ _ _ (.tup ys) from⟨hz,its,r',IsTup.new _ _⟩)
  exact⟨.ref h'.objs.size,_,I2,rfl,q _ (I1.hok.fresh (qs _))⟩
 ·obtain⟨its,r',pl,hz⟩:=I.tuple hq
  exact call_tuple_same pl ⟨.ref p,H,I,rfl,q⟩
def tyV(K:W.Frag)(T:String)(x:V)(H:Hp):Prop:=match x with
 | .str _=>T="str"
 | .int _=>T="int"
 | .ref p=>(T="list"/\∃xs,SqL K H p xs)\/(T="tuple"/\∃o,K.lookup p=some o/\o.cls=.type "tuple"/\o.dict=none)\/
  (T="dict"/\((∃kvs,H p=some (.dK kvs))\/∃kvs,H p=some (.dT kvs)))\/(T="set"/\∃S n,H p=some (.set S n))
 | _=>False
theorem Yti{pins:List (Addr × Obj)}{σ:St}{H:Hp}{s:Shared}{T:String}{x:V}{v:Value}(I:Inv X pins σ H s)(r:RelV x v)(ty:tyV X.K T x H) :
 s.TypeIs v T/\∀a,v=.ref a->∃ob,s.heap.get? a=some ob/\ob.dict=none:=by
 cases x with
 | str z=>
   obtain⟨t,rfl⟩:=r
   cases (show T="str" from ty)
   exact⟨typeIs_str s z t,fun _ e=>nomatch e⟩
 | int i=>
   obtain⟨t,rfl⟩:=r
   cases (show T="int" from ty)
   exact⟨typeIs_int s i t,fun _ e=>nomatch e⟩
 | ref p=>
   cases r
   rcases ty with⟨rfl,xs,hq⟩ | ⟨rfl,o,hk,hc,hd⟩ | ⟨rfl,hk⟩ | ⟨rfl,S,n,hk⟩
   ·obtain⟨its,_,pl,_⟩:=I.list hq
    refine⟨pl.isList.typeIs,fun a e=>?_⟩
    cases e
    obtain⟨o,n,e,c,hd,_⟩:=pl
    exact⟨o,e,hd⟩
   ·refine⟨⟨o,I.kIn p o hk,hc⟩,fun a e=>?_⟩
    cases e
    exact⟨o,I.kIn _ o hk,hd⟩
   ·have z:∃o,s.heap.get? p=some o/\o.ExactDict:=by
     rcases hk with⟨kvs,hk⟩ | ⟨kvs,hk⟩
     ·obtain⟨_,_,_,_,o,_,_,e,ex,_⟩:=I.hok p _ hk
      exact⟨o,e,ex⟩
     ·obtain⟨_,_,_,_,o,_,_,e,ex,_⟩:=I.hok p _ hk
      exact⟨o,e,ex⟩
    obtain⟨o,e,ex⟩:=z
    refine⟨⟨o,e,ex.1⟩,fun a e2=>?_⟩
    cases e2
    exact⟨o,e,ex.2.1⟩
   ·obtain⟨o,_,_,_,e,ex,_⟩:=I.hok p _ hk
    refine⟨⟨o,e,ex.1⟩,fun a e2=>?_⟩
    cases e2
    exact⟨o,e,ex.2.1⟩
 | _=>exact False.elim ty
def tBM0(K:W.Frag)(T:String)(r:V->List V->Hp->VK->Prop)(to:TE):TE:=fun σ H Q=>to σ H fun x H1=>tyV K T x H1/\r x [] H1 Q
def tBM(K:W.Frag)(T:String)(r:V->List V->Hp->VK->Prop)(to:TE)(t:TA):TE:=fun σ H Q=>to σ H fun x H1=>tyV K T x H1/\t σ H1 fun xs H2=>r x xs H2 Q
variable {o e:Expr} {es:List Expr} {to:TE} {t:TA} {name:Str} {apos cpos:Pos} {T id:String} {r:V->List V->Hp->VK->Prop}
theorem Yxe(pa:PlainAttrs T)(slot:Slot T name id)(hty:typeOf (.builtin id)=pure (.type "method_descriptor"))(hm:MtR X id r)(ho:PE X o to)
 (hbase:attributeBase o name X.env (eval o X.env)=eval o X.env:=by rfl) (hline:(apos.endLine==cpos.line)=true:=by rfl):PE X (.Call (.Attribute o name apos) [] [] cpos) (tBM0 X.K T r to):=by
 intro pins s σ H Q I h
 refine wpAny_Call_method0_late hbase hline (thn (ho pins s σ H _ I h) fun v s1 hx_=>?_)
 obtain⟨x,H1,I1,r1,ty,q1⟩:=hx_
 obtain⟨h1,h2⟩:=Yti I1 r1 ty
 exact⟨T,id,pa,slot,hty,h1,h2,Calls.callWith_builtin rfl (PySem.evalArgs_none (hm pins s1 σ H1 x [] v [] Q I1 r1 .nil q1))⟩
theorem Ypb(pa:PlainAttrs T)(slot:Slot T name id)(hty:typeOf (.builtin id)=pure (.type "method_descriptor"))(hm:MtR X id r)(ho:PE X o to)(ha:PA X (e::es) t)
 (hbase:attributeBase o name X.env (eval o X.env)=eval o X.env:=by rfl)
 (hfew:((backTo cpos (starEach (e::es) X.env)).all (fun x=>!x.1)&&(backToKw cpos (keywordEach [] X.env)).all (fun x=>x.1.isSome)
  &&decide ((e::es).length+([]:List Keyword).length+(if ([]:List Keyword).isEmpty then 0 else 1) < 30))=true:=by rfl)
 (hline:(apos.endLine==cpos.line)=true:=by rfl) (hs:starEach (e::es) X.env=(false,eval e X.env)::starEach es X.env:=by rfl) (hplain:(backTo cpos (starEach es X.env)).any (·.1)=false:=by rfl) :
 PE X (.Call (.Attribute o name apos) (e::es) [] cpos) (tBM X.K T r to t):=by
 intro pins s σ H Q I h
 refine wpAny_Call_method_late hbase hfew hline rfl (thn (ho pins s σ H _ I h) fun v s1 hx_=>?_)
 obtain⟨x,H1,I1,r1,ty,q1⟩:=hx_
 obtain⟨h1,h2⟩:=Yti I1 r1 ty
 refine⟨T,id,pa,slot,hty,h1,h2,?_⟩
 have hA:=ha cpos pins s1 σ H1 _ I1 q1
 rw[hs]at hA ⊢
 refine Calls.callWith_builtin (by show(false||(backTo cpos (starEach es X.env)).any (·.1))=false;rw[hplain]<;>rfl) (Calls.evalArgs_plain ?_)
 refine thn hA fun us s2 hx_=>?_
 obtain⟨vs,H2,I2,r2,q2⟩:=hx_
 exact hm pins s2 σ H2 x vs v us Q I2 r1 r2 q2
end
end L2
namespace L2
open PySem PySem.Spec PyProof.Rows
def MtM(X:Cx)(id:String)(r:V->List V->Hp->VK->Prop):Prop:=
 ∀(pins:List (Addr × Obj)) (s:Shared) (σ:St) (H:Hp) (x:V) (xs:List V) (v:Value) (us:List Value) (Q:VK),Inv X pins σ H s->RelV x v->Vals xs us->r x xs H Q->
  wpAny (model X.prog X.w) X.A (call (.builtin id) (v::us)) (EP X pins σ Q) X.xe s
theorem Vals.one:∀{x:V} {us:List Value},Vals [x] us->∃u,us=[u]/\RelV x u
 :=by
  intro x us h
  cases h with
  | cons r t=>
    cases t
    exact⟨_,rfl,r⟩
theorem Vals.zero:∀{us:List Value},Vals [] us->us=[]
 | _,.nil=>rfl
theorem Vals.dropLast{xs:List V}{us:List Value}(h:Vals xs us):Vals xs.dropLast us.dropLast:=by
 induction h with
 | nil=>exact .nil
 | cons r t ih=>
   cases t with
   | nil=>exact .nil
   | cons q t'=>exact .cons r ih
theorem Yn3{α:Type}(l:List α):l.eraseIdx (l.length - 1)=l.dropLast:=by
 induction l with
 | nil=>rfl
 | cons a r ih=>
   cases r with
   | nil=>rfl
   | cons b r=>
     have e:(a::b::r).length - 1=((b::r).length - 1)+1:=by
      have h1:(a::b::r).length=r.length+2:=rfl
      have h2:(b::r).length=r.length+1:=rfl
      lia
     rw[e,List.eraseIdx_cons_succ,ih]
     all_goals rfl
section
variable {X:Cx} {pins:List (Addr × Obj)} {σ:St} {H:Hp} {s:Shared} {l b:Addr} {xs ys zs:List V}
theorem Inv.lset{its its':List Value}{n:Nat}{f:Array Value->Array Value}{t':Nat}(I:Inv X pins σ H s)(hH:H l=some (.lst xs))
 (e:s.heap.get? l=some { cls:=.type "list",data:=.seq its.toArray n }) (hf:f its.toArray=its'.toArray) (hv:Vals ys its') (hz:ys.length<=sizeLine) :
 Inv X pins σ (upd H l (.lst ys)) { s with heap:=s.heap.update l (Obj.mapSeq f),toks:=t' }:=by
 have q:=PySem.IsL.update e f
 rw[hf]at q
 refine I.write (x:=l) (e:=l) (by rw[hH];exact trivial) (.inl rfl) (fun b' u hb hu=>(Heap.get?_update_other s.heap (Obj.mapSeq f) (Ne.symm hb)).trans hu) ⟨_,q⟩ ?_
 exact⟨hz,its',_,hv,q⟩
theorem Inv.lnew{its:List Value}{t':Nat}(I:Inv X pins σ H s)(hv:Vals ys its)(hz:ys.length<=sizeLine) :
 Inv X pins σ (upd H s.heap.objs.size (.lst ys)) { s with heap:=s.heap.push { cls:=.type "list",data:=.seq its.toArray },toks:=t' }:=
 I.laid (fun _ _ q=>qd _ q) (qs _) ⟨hz,its,0,hv,qo _ rfl⟩
theorem Inv.fresh(I:Inv X pins σ H s):H s.heap.objs.size=none:=I.hok.fresh (qs _)
theorem Inv.lstM(I:Inv X pins σ H s)(hH:H l=some (.lst xs)):xs.length<=sizeLine/\∃(its:List Value) (n:Nat),Vals xs its/\xs.length=its.length/\s.heap.get? l=some { cls:=.type "list",data:=.seq its.toArray n }:=by
 obtain⟨z,its,n,r,e⟩:=I.hok l _ hH
 exact⟨z,its,n,r,r.length,e⟩
theorem Yrt{n:Nat}(h:n<=sizeLine):Builtin.List.listTooLong n=false:=by
 unfold Builtin.List.listTooLong
 exact decide_eq_false (by lia)
def Yuf:V->List V->Hp->VK->Prop:=fun x vs H Q=>∃l xs y,x=.ref l/\vs=[y]/\H l=some (.lst xs)/\xs.length < sizeLine/\Q .non (upd H l (.lst (xs++[y])))
theorem Ye3:MtM X "list.append" Yuf:=by
 intro pins s σ H x vs v us Q I rx rv h
 obtain⟨l,xs,y,rfl,rfl,hH,hz,q⟩:=h
 cases rx
 obtain⟨u,rfl,ru⟩:=rv.one
 obtain⟨z,its,n,r,hl,e⟩:=I.lstM hH
 refine call_meets F.slot_list_append ⟨_,e,rfl⟩ F.entry_list_append (F.args_list_append_2 _ _) (PySem.list_append l its.toArray n u (by rw[qj];lia)) ⟨e,?_⟩
 refine⟨.non,_,I.lset (its':=its++[u]) hH e (by simp) (r.append (.cons ru .nil)) ?_,rfl,q⟩
 rw[qw,List.length_singleton]
 lia
def rPop:V->List V->Hp->VK->Prop:=fun x vs H Q=>∃l xs y,x=.ref l/\vs=[]/\H l=some (.lst xs)/\xs[xs.length - 1]?=some y/\Q y (upd H l (.lst xs.dropLast))
theorem Yxf:MtM X "list.pop" rPop:=by
 intro pins s σ H x vs v us Q I rx rv h
 obtain⟨l,xs,y,rfl,rfl,hH,hy,q⟩:=h
 cases rx
 have hus:=rv.zero
 subst hus
 obtain⟨z,its,n,r,hl,e⟩:=I.lstM hH
 obtain⟨u,hu,ru⟩:=r.get hy
 have hy':its.toArray[its.toArray.size - 1]?=some u:=by
  show its.toArray[its.length - 1]?=some u
  rw[<-Array.getElem?_toList,<-hl]
  exact hu
 refine call_meets F.slot_list_pop ⟨_,e,rfl⟩ F.entry_list_pop (F.args_list_pop_1 _) (MeetsSeq.list_pop_last l its.toArray n u hy' (by rw[qj];lia)) ⟨e,?_⟩
 refine⟨y,_,I.lset (its':=its.dropLast) hH e ?_ r.dropLast ?_,ru,q⟩
 ·show its.toArray.eraseIdxIfInBounds (its.toArray.size - 1)=its.dropLast.toArray
  rw[qj,List.eraseIdxIfInBounds_toArray,Yn3]
 ·rw[List.length_dropLast]
  lia
end
end L2
namespace Att
open PySem PySem.W PySem.Calls PyProof.Rows
theorem Yg1{P:Params}{h:Heap}:∀(ns:List Int) (vs:List Value),WellAll P h vs (ns.map WData.int)->IntsAre vs ns:=by
 intro ns
 induction ns with
 | nil=>
   intro vs w
   rw[List.map_nil]at w
   cases w
   exact .nil
 | cons n ns ih=>
   intro vs w
   rw[qy]at w
   cases w with
   | cons a b=>
     cases a
     exact .cons _ _ (ih _ b)
theorem Ypc{l:OpenLaw}{n:Nat}(hn:l.most=some n){P:Params}{h:Heap}{args:List WData}{vals:List Value}
 (hpre:l.row.toRowW.claim.pre args=true) (hwl:WellAll P h vals args) :
 ∃a vs ns,vals=[Value.ref a]/\args=[WData.list (ns.map WData.int)]/\h.get? a=some { cls:=.type "list",data:=.seq vs.toArray }/\IntsAre vs ns/\ns.length<=n:=by
 have hsh:WShape.hasAll [] args [.list .int]=true:=(pre_splitW hpre).1
 have hc:l.pre.holds [] { args:=args }=true:=(pre_splitW hpre).2
 obtain⟨d,r,rfl,h1,h2⟩:=hasAllW_cons hsh
 obtain rfl:=hasAllW_nil h2
 obtain⟨xs,rfl,h3⟩:=hasW_list h1
 obtain⟨ns,rfl⟩:=items_int h3
 have hlen:ns.length<=n:=by
  unfold OpenLaw.pre at hc
  have h4:(WTm.not (.lt (.lit (.int (n:Int))) (.len (.arg 0)))).holds [] { args:=[.list (ns.map .int)] }=true:=by
   have h4:=(holds_andW hc).1
   rw[hn]at h4
   exact h4
  have h5:=condW_of h4 (w_not (w_lt w_lit (w_len_list (w_arg rfl))))
  rw[qe]at h5
  refine Nat.le_of_not_lt fun q=>?_
  have q':(n:Int) < ((ns.length:Nat):Int):=by lia
  first
   | (rw[decide_eq_true q']at h5;exact absurd h5 (by decide))
   | (simp at h5;lia)
 cases hwl with
 | cons w1 w2=>
   cases w2
   cases w1 with
   | list ho hall=>exact⟨_,_,ns,rfl,rfl,ho,Yg1 ns _ hall,hlen⟩
theorem Ypd(l:OpenLaw)(args:List WData):l.row.toRowW.claim.post args (.bool true) args=true:=
 postW_of (r:=l.row.toRowW) (X:=(true==true))
  (show WShape.has [] (.bool true) .bool=true by first | rfl | decide | simp[WShape.has,WShape.arms,WShape.armsAll])
  (show(WTm.eq .res (.lit (.bool true))).value [] { args:=args,res:=some (.bool true),after:=args }=some (.bool (true==true)) from w_eq_bool (w_res rfl) w_lit) rfl
theorem attach_call{l:OpenLaw}{n:Nat}{q:Program}{loose:List Str}{XP:(Str->Option Value)->Heap->Prop}{YP:World->Heap->Prop}{d:DefRec}
 (hn:l.most=some n) (hdf:d.params.defaults=[])
 (call:∀(w:World) (s₀ s₁:Shared) (mg mb:Str->Option Value) (fa:Addr) (o:Obj) (pm cd doc:Value) (a:Addr) (vs:List Value) (ns:List Int),
  Ground q loose [] XP w s₀ mg mb s₁.heap->YP w s₁.heap->
  s₁.heap.get? fa=some o->o.data=.func (docDef d.name d.params d.body d.scope pm cd doc)->s₁.heap.CodeRec cd d.name->mg d.name=some (.ref fa)->
  s₁.heap.get? a=some { cls:=.type "list",data:=.seq vs.toArray }->IntsAre vs ns->ns.length<=n->s₁.gens=#[]->
  codeAny (model l.prog w) callerA (.call (.ref fa) ⟨[.ref a],[]⟩) (fun r s'=>r=.ok (.ret (.bool true))/\OldK s₁.heap s'.heap/\s'.os=s₁.os/\AllBare s'.gens) s₁) :
 WalkO q loose XP YP l.row.toRowW d [] (fun f vs=>PySem.call f vs):=by
 intro w s₀ s₁ mg mb G Y fa o pm cd doc dV kV ho hd hcd hD hmg hg args vals as hpre hlay hrd hwl hlo
 obtain rfl:dV=.none:=Dflts.none hD hdf
 obtain rfl:kV=.none:=Dflts.noKw hD
 obtain⟨a,vs,ns,rfl,rfl,hobj,hints,hlen⟩:=Ypc hn hpre hwl
 refine enter_call (codeAny_mono (call w s₀ s₁ mg mb fa o pm cd doc a vs ns G Y ho (fd_plain hd) hcd hmg hobj hints hlen hg) fun r s' hq=>?_)
 obtain⟨rfl,h2,h3,h4⟩:=hq
 exact⟨.inl ⟨.bool true,.bool true,[],rfl,fun _=>rfl,.bool true,Ypd l _,fun _=>⟨List.Pairwise.nil,fun _ hm=>(nomatch hm)⟩⟩,h2,h3,h4⟩
end Att
namespace L2
open PySem PySem.Spec PyProof.Rows
theorem Ye4:∀{vs:List Value} {ns:List Int},IntsAre vs ns->Vals (ns.map V.int) vs
 | _,_,.nil=>.nil
 | _,_,.cons n t h=>.cons ⟨t,rfl⟩ (Ye4 h)
def Only(H:Hp):Prop:=∀b,H b=none\/∃o xs,H b=some (.frz o (.lst xs))
theorem Yru{P:Program}{w:World}{K:W.Frag}{mg mb:Str->Option Value}{CX:CXT}{k:Nat}{fa a:Addr}{fd:FuncData}{x:Str}{sp:Sp}{s₁:Shared}{vs:List Value}{ns:List Int}
 (KX:K.In s₁.heap) (hns:s₁.heap.Ns mainGlobals mg) (hb:s₁.heap.Ns builtinsNs mb) (hbb:∀x:Str,x≠"__name__"->mb x=bootBuiltins x) (hlim:s₁.heap.NoLimit) (hg:s₁.gens=#[])
 (ha:s₁.heap.get? a=some { cls:=.type "list",data:=.seq vs.toArray }) (hi:IntsAre vs ns) (hl:ns.length<=sizeLine) (hr:Room k callerA)
 (F:∀base:Heap,K.In base->base.Ns mainGlobals mg->FnOk P w K mg base CX k fa fd [x] sp) (hbind:∀(s:Shared) (u:Value),BindsTo s fd ⟨[u],[]⟩ [(x,u)])
 (hsp:∀H:Hp,Only H->SqL K H a (ns.map V.int)->sp [.ref a] H (fun v _=>v=.bl true) fun _ _ _=>False)
 (hCX:∀H e s',CX [] H s₁ (fun _ _ _=>False) e s'->False) :
 codeAny (model P w) callerA (.call (.ref fa) ⟨[.ref a],[]⟩) (fun r s'=>r=.ok (.ret (.bool true))/\OldK s₁.heap s'.heap/\s'.os=s₁.os/\AllBare s'.gens) s₁:=by
 have rv:=Ye4 hi
 have lenV:=hi.length
 have core:∀H:Hp,Only H->SqL K H a (ns.map V.int)->HOk P w H s₁.heap->(∀b,H b≠none->b=a)->(H a≠none->K.lookup a=none)->
  codeAny (model P w) callerA (.call (.ref fa) ⟨[.ref a],[]⟩) (fun r s'=>r=.ok (.ret (.bool true))/\OldK s₁.heap s'.heap/\s'.os=s₁.os/\AllBare s'.gens) s₁:=by
  intro H hO hS hok hA hK
  have base_of:∀{b:Addr} {o:Obj},s₁.heap.get? b=some o->H b=none->(hidT s₁.heap H).get? b=some o:=fun e n=>Yrk e n
  have noA:∀{b:Addr} {o:Obj} {es:Array DictEntry} {ep:Nat},s₁.heap.get? b=some o->o.data=.dict es ep->H b=none:=fun {b o es ep} e d=>by
   cases q:H b with
   | none=>rfl
   | some u=>
     have e':b=a:=hA b (by rw[q];simp)
     subst e'
     rw[ha]at e;cases e
     have d':Data.seq vs.toArray _=Data.dict es ep:=d
     cases d'
  have nsK:∀{b:Addr} {m:Str->Option Value},s₁.heap.Ns b m->(hidT s₁.heap H).Ns b m:=fun {b m} ⟨o,es,ep,e,d,r⟩=>⟨o,es,ep,base_of e (noA e d),d,r⟩
  have hKb:K.In (hidT s₁.heap H):=fun b o e=>base_of (KX b o e) (by
   cases q:H b with
   | none=>rfl
   | some u=>
     have e':b=a:=hA b (by rw[q];simp)
     subst e'
     rw[hK (by rw[q];simp)]at e;cases e)
  have hM:Mod K mg (hidT s₁.heap H):=⟨hKb,nsK hns,⟨mb,nsK hb,hbb⟩,let ⟨mc,h1,h2⟩:=hlim;⟨mc,nsK h1,h2⟩⟩
  have e0:Env0 P w K mg (hidT s₁.heap H) callerA [] s₁ H:=⟨rfl,hM,fun b o e=>Yty e,Nat.le_of_eq (Yos _ _),trivial,fun b hb=>absurd (show b∈([]:List Addr) from hb) (by simp),hok,.of_eq hg⟩
  refine codeAny_mono ((F _ hKb (nsK hns)).run callerA [] s₁ H ⟨[.ref a],[]⟩ [.ref a] [.ref a] _ _ hr e0 (hbind s₁ (.ref a)) (.cons rfl .nil) (hsp H hO hS)) fun r s' h=>?_
  cases r with
  | error e=>exact(hCX H e s' h).elim
  | ok fl=>
    cases fl with
    | next=>exact False.elim h
    | brk=>exact False.elim h
    | cont=>exact False.elim h
    | ret u=>
      obtain⟨v,H',os,bare,un,hok',r',q⟩:=h
      have q':v=.bl true:=q
      subst q'
      obtain rfl:u=Value.bool true:=r'
      refine⟨rfl,OldK.of_keep fun b o e=>?_,os,bare⟩
      cases q:H b with
      | none=>exact un.keep b o e q (by intro z;exact absurd (show b∈([]:List Addr) from z) (by simp)) (by simp)
      | some u=>
        rcases hO b with z | ⟨ob,xs,z⟩
        ·rw[q]at z;cases z
        ·have z2:=un.frzs b ob _ z
         obtain⟨e1,_⟩:=hok b _ z
         obtain⟨e2,_⟩:=hok' b _ z2
         rw[e]at e1;cases e1
         exact e2
 cases hk:K.lookup a with
 | some o=>
   have e:=KX a o hk
   rw[ha]at e
   cases e
   refine core (fun _=>none) (fun _=>.inl rfl) (.inr ⟨_,vs.toArray,_,hk,rfl,rfl,rfl,by rw[qj,lenV];exact hl,by simpa using rv⟩) (fun b u z=>by have z':(none:Option HO)=some u:=z;cases z') (fun b z=>absurd rfl z) fun z=>absurd rfl z
 | none=>
   refine core (fun b=>if b=a then some (.frz { cls:=.type "list",data:=.seq vs.toArray } (.lst (ns.map V.int)))else none) (fun b=>?_) (.inl (.inr ⟨{ cls:=.type "list",data:=.seq vs.toArray },if_pos rfl⟩)) (fun b u z=>?_) (fun b z=>?_) fun _=>hk
   ·by_cases hb:b=a
    ·exact .inr ⟨_,_,if_pos hb⟩
    ·exact .inl (if_neg hb)
   ·by_cases hb:b=a
    ·have z':=(if_pos hb).symm.trans z
     cases z'
     subst hb
     exact⟨ha,by rw[qe];exact hl,vs,_,rv,ha⟩
    ·have z':=(if_neg hb).symm.trans z
     cases z'
   ·by_cases hb:b=a
    ·exact hb
    ·exact absurd (if_neg hb) z
end L2
namespace L2
open PySem PySem.Spec PyProof.Rows
theorem walk_of{l:W.OpenLaw}{n k:Nat}{q:Program}{loose:List Str}{XP:(Str->Option Value)->Heap->Prop}{YP:World->Heap->Prop}{d:DefRec}{K:Params->W.Frag}{CX:World->CXT}{sp:World->Sp}{x:Str}
 (hn:l.most=some n) (hn2:n<=sizeLine) (hdf:d.params.defaults=[]) (hr:Room k callerA)
 (hY:∀(w:World) (h:Heap),YP w h->(K w.params).In h)
 (F:∀(w:World) (mg:Str->Option Value) (fa:Addr) (h:Heap),(K w.params).In h->h.Ns mainGlobals mg->mg d.name=some (.ref fa)->
  ∃fd:FuncData,(∀(s:Shared) (u:Value),BindsTo s fd ⟨[u],[]⟩ [(x,u)])/\
   ∀base:Heap,(K w.params).In base->base.Ns mainGlobals mg->FnOk l.prog w (K w.params) mg base (CX w) k fa fd [x] (sp w))
 (hsp:∀(w:World) (H:Hp) (a:Addr) (ns:List Int),ns.length<=n->Only H->SqL (K w.params) H a (ns.map V.int)->sp w [.ref a] H (fun v _=>v=.bl true) fun _ _ _=>False)
 (hCX:∀(w:World) (H:Hp) (s:Shared) (e:Value) (s':Shared),CX w [] H s (fun _ _ _=>False) e s'->False) :
 W.WalkO q loose XP YP l.row.toRowW d [] (fun f vs=>PySem.call f vs):=by
 refine Att.attach_call hn hdf fun w s₀ s₁ mg mb fa o pm cd doc a vs ns G Y ho hd hcd hmg hobj hints hlen hg=>?_
 have KX:=hY w _ Y
 obtain⟨fd,hb,hF⟩:=F w mg fa _ KX G.T.g hmg
 exact Yru KX G.T.g G.T.b G.T.builtins G.T.nolimit hg hobj hints (qz hlen hn2) hr hF hb (fun H hO hS=>hsp w H a ns hlen hO hS) fun H e s'=>hCX w H s₁ e s'
end L2
namespace L2
open PySem PySem.Spec PyProof.Rows
def inClass(s:Stmt)(j:Nat):Stmt:=match s with
 | .ClassDef _ _ _ body _ _ _ _ _ _ _=>body.getD j (.Pass ⟨0,0,0,0⟩)
 | _=>.Pass ⟨0,0,0,0⟩
def defArgs(s:Stmt):Arguments:=match s with
 | .FunctionDef _ a _ _ _ _ _ _ _ _=>a
 | _=>{ posonlyargs:=[],args:=[],vararg:=none,kwonlyargs:=[],kw_defaults:=[],kwarg:=none,defaults:=[] }
def defBody(s:Stmt):List Stmt:=match s with
 | .FunctionDef _ _ b _ _ _ _ _ _ _=>b
 | _=>[]
def defScope(s:Stmt):Scope:=match s with
 | .FunctionDef _ _ _ _ _ _ sc _ _ _=>sc
 | _=>{ kind:=.function,names:=[],isGenerator:=false,isCoroutine:=false }
abbrev CX0:CXT:=fun _ _ _ _ _ _=>False
abbrev E0:XK:=fun _ _ _=>False
theorem Ype{X:Cx}:Ygz CX0 X E0:=fun _ _ _ _ _ _ _ h=>h.elim
structure Fun(K:W.Frag)(x qual:Str)(st:Stmt)(f:Addr)(fd:FuncData):Prop where
 ex:∃(oc:Value) (od:Option Addr) (kV doc pm:Value) (an:Option Addr) (cdv ct:Value) (osl:Array (Option Value)),
  fd=W.fnOf x qual (defArgs st) (defBody st) (defScope st) .none kV doc pm an cdv ct/\K.lookup f=some ⟨oc,od,.func fd,osl⟩/\W.codeIn K cdv qual=true
 kp:W.keepIn K (.ref f)=true
section
variable {P:Program} {w:World} {K:W.Frag} {mg:Str->Option Value} {base:Heap} {X:Cx}
theorem Fun.ok{x qual:Str}{st:Stmt}{f:Addr}{fd:FuncData}{N ps:List Str}{k:Nat}{sp:Sp}(F:Fun K x qual st f fd)(S:FnScope N ps (defScope st))(len:∀vs H Q E,sp vs H Q E->vs.length=ps.length)
 (hbody:∀(cdv:Value) (A:Around) (outer:List Env) (s:Shared) (H:Hp) (vs:List V) (Q:VK) (E:XK),Room k (A.deeper (envOfC qual (defScope st) s.heap.objs.size f cdv))->sp vs H Q E->
  ∃t,PSs (cxOf CX0 P w K mg base N qual (defScope st) f cdv A outer s H E).nox (defBody st) t/\t { nx:=fun _ H'=>Q .non H',rt:=Q } (start N vs) H):FnOk P w K mg base CX0 (k+1) f fd ps sp:=by
 obtain⟨oc,od,kV,doc,pm,an,cdv,ct,osl,rfl,lk,hcd⟩:=F.ex
 refine Yzy lk hcd S len fun A outer s H vs Q E hr hsp=>?_
 obtain⟨t,h,q⟩:=hbody cdv A outer s H vs Q E hr hsp
 exact⟨t,h.nox,q⟩
theorem Fun.binds{x qual:Str}{st:Stmt}{f:Addr}{fd:FuncData}{ps:List Str}(F:Fun K x qual st f fd)
 (h:∀(kV doc pm:Value) (an:Option Addr) (cdv ct:Value) (us:List Value),us.length=ps.length->bindArgs (W.fnOf x qual (defArgs st) (defBody st) (defScope st) .none kV doc pm an cdv ct) ⟨us,[]⟩=pure (ps.zip us)):Binds K fd ps []:=by
 obtain⟨oc,od,kV,doc,pm,an,cdv,ct,osl,rfl,lk,hcd⟩:=F.ex
 exact .all (h kV doc pm an cdv ct)
theorem Ymv{x qual:Str}{st:Stmt}{f:Addr}{oc:Value}{od an:Option Addr}{osl:Array (Option Value)}{kV doc pm cdv ct:Value}(l:K.lookup f=some ⟨oc,od,.func (W.fnOf x qual (defArgs st) (defBody st) (defScope st) .none kV doc pm an cdv ct),osl⟩)
 (c:W.codeIn K cdv qual=true) (k:W.keepIn K (.ref f)=true):Fun K x qual st f (W.fnOf x qual (defArgs st) (defBody st) (defScope st) .none kV doc pm an cdv ct):=⟨⟨oc,od,kV,doc,pm,an,cdv,ct,osl,rfl,l,c⟩,k⟩
theorem pv(i:Nat){x:Str}{pos:Pos}(hN:X.N[i]?=some x:=by rfl)(hv:Vis X.env.scope x:=by first | exact Or.inl rfl | exact Or.inr (Or.inl rfl) | exact Or.inr (Or.inr rfl))(hd:(x==("__debug__":Str))=false:=by decide)
 (hcd:(x==("__classdict__":Str))=false:=by decide):PE X (.Name x pos) (tVar i):=Ydx hN hv hd hcd
end
theorem iteF{A B:Prop}(h:B):if false=true then A else B:=by
 rw[if_neg qh]
 exact h
theorem iteT{A B:Prop}(h:A):if true=true then A else B:=by
 rw[if_pos rfl]
 exact h
def Same(H H':Hp):Prop:=∀b o,H b=some o->H' b=some o
theorem Same.refl(H:Hp):Same H H:=fun _ _ h=>h
theorem Same.trans{H H1 H2:Hp}(a:Same H H1)(b:Same H1 H2):Same H H2:=fun c o h=>b c o (a c o h)
theorem Same.free{H H':Hp}(e:Same H H'){l:Addr}(h:H' l=Option.none):H l=Option.none:=by
 cases q:H l with
 | none=>rfl
 | some o=>
   rw[e l o q]at h
   cases h
theorem Same.seq{K:W.Frag}{H H':Hp}{a:Addr}{xs:List V}(e:Same H H')(h:SqL K H a xs):SqL K H' a xs:=by
 rcases h with(h | ⟨o,h⟩) | h
 ·exact .inl (.inl (e _ _ h))
 ·exact .inl (.inr ⟨o,e _ _ h⟩)
 ·exact .inr h
end L2
namespace L2
open PySem PySem.Spec PyProof.Rows
def clOf(env:Env):List (Str × NameKind)->List (Str × Addr)->List (Str × Addr)
 | [],cs=>cs
 | (n,k)::r,cs=>if (k==NameKind.free)=true then (match env.cells.lookup n with | some c=>clOf env r ((n,c)::cs) | none=>clOf env r cs)else clOf env r cs
theorem Ydz{scope:Scope}{env:Env}(h:∀x∈scope.names,x.2=NameKind.free->∃c,env.cells.lookup x.1=some c):closureFor scope env=pure (clOf env scope.names []):=by
 have key:∀(l:List (Str × NameKind)) (cs:List (Str × Addr)),(∀x∈l,x.2=NameKind.free->∃c,env.cells.lookup x.1=some c)->
  (forIn l cs fun(x:Str × NameKind) (r:List (Str × Addr))=>if (x.2==NameKind.free)=true then (do let c <-cellOf env x.1;pure (ForInStep.yield ((x.1,c)::r)))else pure (ForInStep.yield r))=(pure (clOf env l cs):Sem (List (Str × Addr))):=by
  intro l
  induction l with
  | nil=>intro cs _;rfl
  | cons x l ih=>
    intro cs hl
    obtain⟨n,k⟩:=x
    have ht:=fun y hy=>hl y (qf _ hy)
    rw[List.forIn_cons]
    by_cases hk:k=NameKind.free
    ·subst hk
     obtain⟨c,hc⟩:=hl (n,NameKind.free) qg rfl
     have hc':env.cells.lookup n=some c:=hc
     have e1:cellOf env n=pure c:=by unfold cellOf;rw[hc']
     have hff:(NameKind.free==NameKind.free)=true:=rfl
     show(if (NameKind.free==NameKind.free)=true then (do let c <-cellOf env n;pure (ForInStep.yield ((n,c)::cs)))else pure (ForInStep.yield cs)) >>= _=_
     rw[if_pos hff,e1,pure_bind,pure_bind]
     show forIn l ((n,c)::cs) _=_
     rw[ih _ ht]
     show _=pure (if (NameKind.free==NameKind.free)=true then (match env.cells.lookup n with | some c=>clOf env l ((n,c)::cs) | none=>clOf env l cs)else clOf env l cs)
     rw[if_pos hff,hc']
    ·have hb:(k==NameKind.free)=false:=by simpa using hk
     show(if (k==NameKind.free)=true then _ else pure (ForInStep.yield cs)) >>= _=_
     rw[if_neg (by rw[hb];exact qh),pure_bind]
     show forIn l cs _=_
     rw[ih _ ht]
     show _=pure (if (k==NameKind.free)=true then (match env.cells.lookup n with | some c=>clOf env l ((n,c)::cs) | none=>clOf env l cs)else clOf env l cs)
     rw[if_neg (by rw[hb];exact qh)]
 have:=key scope.names [] h
 unfold closureFor
 simpa using this
theorem Ygr{env:Env}:∀(l:List (Str × NameKind)) (cs:List (Str × Addr)),(∀x c,(x,c)∈cs->env.cells.lookup x=some c)->∀x c,(x,c)∈clOf env l cs->env.cells.lookup x=some c
 | [],cs,h,x,c,e=>h x c e
 | (n,k)::r,cs,h,x,c,e=>by
   unfold clOf at e
   split at e
   ·split at e
    ·rename_i d hd
     refine Ygr r _ (fun y b hy=>?_) x c e
     rcases qr hy with q | q
     ·cases q;exact hd
     ·exact h y b q
    ·exact Ygr r cs h x c e
   ·exact Ygr r cs h x c e
theorem Yec{env:Env}:∀(l:List (Str × NameKind)) (cs:List (Str × Addr)) (p:Str × Addr),p∈cs->p∈clOf env l cs
 | [],_,_,h=>h
 | (n,k)::r,cs,p,h=>by
   unfold clOf
   split
   ·split
    ·exact Yec r _ p (qf _ h)
    ·exact Yec r _ p h
   ·exact Yec r _ p h
theorem Ye5{env:Env}:∀(l:List (Str × NameKind)) (cs:List (Str × Addr)) (x:Str) (c:Addr),(x,NameKind.free)∈l->env.cells.lookup x=some c->(x,c)∈clOf env l cs
 | (n,k)::r,cs,x,c,h,hc=>by
   rcases qr h with q | q
   ·cases q
    unfold clOf
    rw[if_pos (show(NameKind.free==NameKind.free)=true from rfl),hc]
    exact Yec r _ _ qg
   ·unfold clOf
    split
    ·split
     ·exact Ye5 r _ x c q hc
     ·exact Ye5 r _ x c q hc
    ·exact Ye5 r _ x c q hc
theorem Ye6{x:Str}{c:Addr}{cl:List (Str × Addr)}(h:(x,c)∈cl):∃d,cl.lookup x=some d:=by
 induction cl with
 | nil=>cases h
 | cons p r ih=>
   obtain⟨n,b⟩:=p
   rw[Qd]
   cases e:(x==n)with
   | true=>exact⟨b,rfl⟩
   | false=>
     rcases qr h with q | q
     ·cases q;simp at e
     ·exact ih q
structure CompSc(XN:List Str)(xsc:Scope)(N:List Str)(src:List (Option Nat))(sc:Scope):Prop where
 kind:sc.kind=.function
 xkind:xsc.kind=.function
 cellU:∀y∈sc.names,y.2=NameKind.cell->sc.names.lookup y.1=some NameKind.cell
 names:∀y∈sc.names,y.2=NameKind.local->sc.names.lookup y.1=some NameKind.local
 len:src.length=N.length
 nd:N.Nodup
 cap:∀(i j:Nat) (x:Str),N[i]?=some x->src[i]?=some (some j)->XN[j]?=some x/\sc.names.lookup x=some NameKind.free
 fr:∀y∈sc.names,y.2=NameKind.free->xsc.names.lookup y.1=some NameKind.cell\/xsc.names.lookup y.1=some NameKind.free
def capB(XN:List Str)(sc:Scope):List Str->List (Option Nat)->Bool
 | [],[]=>true
 | x::N,none::src=>capB XN sc N src
 | x::N,some j::src=>decide (XN[j]?=some x)&&decide (sc.names.lookup x=some NameKind.free)&&capB XN sc N src
 | _,_=>false
theorem Yi6{XN:List Str}{sc:Scope}:∀{N:List Str} {src:List (Option Nat)},capB XN sc N src=true->src.length=N.length
 | [],[],_=>rfl
 | _::N,none::src,h=>by
   have:=Yi6 (N:=N) (src:=src) h
   simp[this]
 | _::N,some j::src,h=>by
   replace h:(decide (XN[j]?=some _)&&decide (sc.names.lookup _=some NameKind.free)&&capB XN sc N src)=true:=h
   simp only[Bool.and_eq_true]at h
   have:=Yi6 (N:=N) (src:=src) h.2
   simp[this]
 | [],_::_,h=>Bool.noConfusion h
 | _::_,[],h=>Bool.noConfusion h
theorem Yi7{XN:List Str}{sc:Scope}:∀{N:List Str} {src:List (Option Nat)},capB XN sc N src=true->∀(i j:Nat) (x:Str),N[i]?=some x->src[i]?=some (some j)->XN[j]?=some x/\sc.names.lookup x=some NameKind.free
 | [],[],_,i,j,x,h,_=>by simp at h
 | _::N,none::src,h,i,j,x,h1,h2=>by
   cases i with
   | zero=>simp at h2
   | succ i=>exact Yi7 (N:=N) (src:=src) h i j x (by simpa using h1) (by simpa using h2)
 | y::N,some k::src,h,i,j,x,h1,h2=>by
   replace h:(decide (XN[k]?=some y)&&decide (sc.names.lookup y=some NameKind.free)&&capB XN sc N src)=true:=h
   simp only[Bool.and_eq_true,decide_eq_true_eq]at h
   cases i with
   | zero=>
     simp at h1 h2
     subst h1;subst h2
     exact h.1
   | succ i=>exact Yi7 (N:=N) (src:=src) h.2 i j x (by simpa using h1) (by simpa using h2)
 | [],_::_,h,_,_,_,_,_=>Bool.noConfusion h
 | _::_,[],h,_,_,_,_,_=>Bool.noConfusion h
def Yxg(XN:List Str)(xsc:Scope)(N:List Str)(src:List (Option Nat))(sc:Scope):Bool:=
 decide (sc.kind=.function)&&decide (xsc.kind=.function)&&sc.names.all (fun y=>decide (y.2=NameKind.cell->sc.names.lookup y.1=some NameKind.cell))&&sc.names.all (fun y=>decide (y.2=NameKind.local->sc.names.lookup y.1=some NameKind.local))&&
  decide N.Nodup&&capB XN sc N src&&sc.names.all (fun y=>decide (y.2=NameKind.free->xsc.names.lookup y.1=some NameKind.cell\/xsc.names.lookup y.1=some NameKind.free))
theorem y0{XN:List Str}{xsc:Scope}{N:List Str}{src:List (Option Nat)}{sc:Scope}(h:Yxg XN xsc N src sc=true):CompSc XN xsc N src sc:=by
 unfold Yxg at h
 simp only[Bool.and_eq_true,decide_eq_true_eq,List.all_eq_true]at h
 obtain⟨⟨⟨⟨⟨⟨h1,h2⟩,h3⟩,h4⟩,h5⟩,h6⟩,h7⟩:=h
 exact⟨h1,h2,h3,h4,Yi6 h6,h5,Yi7 h6,h7⟩
abbrev Yad(X:Cx)(scope:Scope)(N:List Str)(cl:List (Str × Addr))(C:Addr)(fp:List Addr)(s:Shared)(H:Hp):Cx where
 prog:=X.prog
 w:=X.w
 K:=X.K
 mg:=X.mg
 base:=X.base
 A:=X.A
 N:=N
 s₀:=s
 H₀:=H
 env:=compEnvC scope cl C X.env
 outer:=X.stack
 stack:=X.stack
 ex:=fp
 fn:=fun x=>scope.names.lookup x==some NameKind.cell
 calm:=X.calm
 pn:=[]
 xe:=fun _ _=>False
def capσ(src:List (Option Nat))(σ:St):St:=src.map fun o=>o.bind fun j=>(σ[j]?).join
def PIfs(X:Cx)(ifs:List Expr)(t:TT):Prop:=
 ∀(pins:List (Addr × Obj)) (s:Shared) (σ:St) (H:Hp) (Q:Bool->Hp->Prop),Inv X pins σ H s->t σ H Q->
  wpAny (model X.prog X.w) X.A (forIn ifs true fun c r=>if r=true then do let ok <-isTrue c X.env (eval c X.env);pure (ForInStep.yield ok)else pure (ForInStep.yield r)) (TP X pins σ Q) X.xe s
def tYes:TT:=fun _ H Q=>Q true H
theorem Yug{X:Cx}:PIfs X [] tYes:=fun _ _ _ H _ I h=>wpAny_tests_nil ⟨H,I,h⟩
theorem Yuh{X:Cx}{c:Expr}{t:TT}(h:PT X c t):PIfs X [c] t:=fun pins s σ H Q I hq=>wpAny_tests_one (h pins s σ H Q I hq)
def tLC(wi:TI)(src:List (Option Nat))(g:TG)(ti:TT)(te:TE):TE:=fun σ H Q=>wi σ H fun J H1=>∀p,H1 p=none->
 ∃W:Nat->Nat->St->Hp->Prop,(∃m,W 0 m (capσ src σ) (upd H1 p (.lst [])))/\∀i m σ1 H2,W i m σ1 H2->
  (J.stop i H2/\Q (.ref p) H2)\/
  (J.go i H2/\∀x H3,J.yld i H2 x H3->g x σ1 H3 fun σ4 H4=>ti σ4 H4 fun b H5=>if b=true then te σ4 H5 fun v H6=>∃xs,H6 p=some (.lst xs)/\xs.length < sizeLine/\∃m',m' < m/\W (i+1) m' σ4 (upd H6 p (.lst (xs++[v])))else ∃m',m' < m/\W (i+1) m' σ4 H5)
section
variable {prog:Program} {w:World} {A:Around} {R:Result->Shared->Prop} {s:Shared} {X:Cx} {elt tg iter:Expr} {ifs:List Expr} {scope:Scope} {pos:Pos} {wi:TI} {g:TG} {ti:TT} {te:TE} {N:List Str} {src:List (Option Nat)}
theorem Yeh{elt target iter:Expr}{ifs:List Expr}{scope:Scope}{pos:Pos}{it acc:Value}{env:Env}(I:Nat->Shared->Prop)
 (turn:∀n s,I n s->wpAny (model prog w) A (pyNext it) (fun r s₁=>match r with
  | none=>R (.ok .next) s₁
  | some v=>wpAny (model prog w) A (letOwnedTupleGo target it v) (fun _ s₁=>wpAny (model prog w) A (assign target env v) (fun _ s₂=>
   wpAny (model prog w) A (forIn ifs true fun c r=>if r=true then do let ok <-isTrue c env (eval c env);pure (ForInStep.yield ok)else pure (ForInStep.yield r)) (fun ok s₃=>
    if ok=true then wpAny (model prog w) A (eval elt env) (fun x s₄=>
     wpAny (model prog w) A (call (.builtin "list.append") [acc,x]) (fun _ s₅=>∃m,m < n/\I m s₅) (notedBy (model prog w) A env fun e s'=>R (.error e) s') s₄) (notedBy (model prog w) A env fun e s'=>R (.error e) s') s₃
    else ∃m,m < n/\I m s₃) (notedBy (model prog w) A env fun e s'=>R (.error e) s') s₂) (notedBy (model prog w) A env fun e s'=>R (.error e) s') s₁) (notedBy (model prog w) A env fun e s'=>R (.error e) s') s₁) (notedBy (model prog w) A env fun e s'=>R (.error e) s') s)
 (n:Nat) (h:I n s) :
 codeAny (model prog w) A (.compLoop (.ListComp elt [⟨target,iter,ifs,0⟩] scope pos) 0 it acc env) R s:=by
 refine codeAny_loop rfl I (fun n s hI=>?_) n h
 show wpAny _ A ((compTurn (.ListComp elt [⟨target,iter,ifs,0⟩] scope pos) 0 it acc env).onRaise (fun x=>do noteFrame x env;theTreesLotGoes x)) _ _ s
 refine wpAny_noted ?_
 rw[compTurn_list]
 refine wpAny_bind (wpAny_standAt (wpAny_bind (wpAny_mono (turn n s hI) (fun r s₁ h₁=>?_) fun _ _ h'=>h')))
 cases r with
 | none=>exact wpAny_pure h₁
 | some v=>
   refine wpAny_bind (wpAny_mono h₁ (fun _ s₁ h₁=>?_) fun _ _ h'=>h')
   refine wpAny_bind (wpAny_mono h₁ (fun _ s₂ h₂=>wpAny_bind (wpAny_mono h₂ (fun ok s₃ h₃=>?_) fun _ _ h'=>h')) fun _ _ h'=>h')
   cases ok with
   | false=>exact wpAny_pure ⟨rfl,h₃⟩
   | true=>
     exact wpAny_bind (wpAny_bind (wpAny_mono h₃ (fun x s₄ h₄=>wpAny_bind (wpAny_mono h₄ (fun _ s₅ h₅=>wpAny_pure (wpAny_pure ⟨rfl,h₅⟩)) fun _ _ h'=>h')) fun _ _ h'=>h'))
theorem Yes{scope:Scope}{env:Env}{x:Str}(h:scope.names.lookup x=some NameKind.free)(hk:env.kindOf x=some NameKind.cell\/env.kindOf x=some NameKind.free) :
 (relabel scope env).names.lookup x=some NameKind.cell\/(relabel scope env).names.lookup x=some NameKind.free:=by
 unfold relabel
 show List.lookup x (scope.names.map _)=_\/List.lookup x (scope.names.map _)=_
 generalize scope.names=l at h
 induction l with
 | nil=>cases h
 | cons p r ih=>
   obtain⟨n,k⟩:=p
   rw[Qd]at h
   rw[qy]
   cases e:(x==n)with
   | true=>
     rw[e]at h
     cases h
     by_cases hc:(NameKind.free==NameKind.free&&env.scope.kind==ScopeKind.function&&env.kindOf n==some NameKind.cell)=true
     ·left;simp only[hc,if_true];rw[Qd,e]
     ·right;simp only[hc];rw[if_neg qh,Qd,e]
   | false=>
     rw[e]at h
     have q:=ih h
     by_cases hc:(k==NameKind.free&&env.scope.kind==ScopeKind.function&&env.kindOf n==some NameKind.cell)=true
     ·simp only[hc,if_true];rw[Qd,e];exact q
     ·simp only[hc];rw[if_neg qh,Qd,e];exact q
theorem Yg2{scope:Scope}{env:Env}{x:Str}(h:(relabel scope env).names.lookup x=some NameKind.cell\/(relabel scope env).names.lookup x=some NameKind.free) :
 (x,NameKind.free)∈scope.names\/(x,NameKind.cell)∈scope.names:=by
 unfold relabel at h
 change List.lookup x (scope.names.map _)=_\/List.lookup x (scope.names.map _)=_ at h
 revert h
 generalize scope.names=l
 intro h
 induction l with
 | nil=>rcases h with h | h<;>cases h
 | cons p r ih=>
   obtain⟨n,k⟩:=p
   rw[qy]at h
   have hr:=fun z=>ih z
   cases e:(x==n)with
   | true=>
     have en:x=n:=by simpa using e
     subst en
     by_cases hk:k=NameKind.free
     ·subst hk;exact .inl qg
     ·have hb:(k==NameKind.free)=false:=by simpa using hk
      simp only[hb,Bool.false_and,Bool.false_eq_true,if_false]at h
      rw[Qd,e]at h
      rcases h with h | h
      ·cases h;exact .inr qg
      ·cases h;exact absurd rfl hk
   | false=>
     refine(hr ?_).imp (qf _) (qf _)
     by_cases hk:(k==NameKind.free&&env.scope.kind==ScopeKind.function&&env.kindOf n==some NameKind.cell)=true
     ·simp only[hk,if_true]at h;rw[Qd,e]at h;exact h
     ·simp only[hk]at h;rw[if_neg qh,Qd,e]at h;exact h
theorem Ybj:∀(names:List (Str × NameKind)) (n:Nat) (acc:List (Str × Addr)),cellsFrom n names acc=cellsFrom n names []++acc
 | [],_,_=>rfl
 | (x,k)::r,n,acc=>by
   unfold cellsFrom
   split
   ·rw[Ybj r (n+1) ((x,n)::acc),Ybj r (n+1) [(x,n)],List.append_assoc];rfl
   ·exact Ybj r n acc
theorem Yda:∀(names:List (Str × NameKind)) (n:Nat) (x:Str) (c:Addr),(x,c)∈cellsFrom n names []->(x,NameKind.cell)∈names
 | [],_,_,_,h=>(nomatch h)
 | (y,k)::r,n,x,c,h=>by
   unfold cellsFrom at h
   split at h
   ·rename_i hk
    rw[Ybj]at h
    rcases qt h with h | h
    ·exact qf _ (Yda r _ x c h)
    ·rw[List.mem_singleton]at h
     cases h
     have:k=NameKind.cell:=by simpa using hk
     rw[this];exact qg
   ·exact qf _ (Yda r n x c h)
theorem Yfv{own cl:List (Str × Addr)}{x:Str}:(own++cl).lookup x=(own.lookup x).or (cl.lookup x):=by
 induction own with
 | nil=>rfl
 | cons p r ih=>
   obtain⟨y,b⟩:=p
   rw[List.cons_append,Qd,Qd]
   cases (x==y)with
   | true=>rfl
   | false=>exact ih
theorem Yam{own cl:List (Str × Addr)}{x:Str}{c:Addr}(h:(own++cl).lookup x=some c):own.lookup x=some c\/(own.lookup x=none/\cl.lookup x=some c):=by
 rw[Yfv]at h
 cases e:own.lookup x with
 | none=>rw[e]at h;exact .inr ⟨rfl,h⟩
 | some d=>rw[e]at h;exact .inl h
theorem Ylu{M:Model}{A:Around}{E:Value->Shared->Prop}{scope:Scope}{globals:Addr}{cl:List (Str × Addr)}{qual:Str}{outer:Env}{Q:Env->Shared->Prop}{s:Shared}{bt:Addr}
 (h:Q (newEnv scope s.heap.objs.size globals (cellsFrom (s.heap.objs.size+1) scope.names []++cl) qual none .none (some outer) bt) { s with heap:=pushCells (s.heap.push { cls:=.type "dict",data:=.dict #[] }) scope.names }) :
 wpAny M A (newFunctionEnv scope globals cl [] qual none .none (some outer) bt) Q E s:=by
 simp only[newFunctionEnv,Option.isSome_some,if_true]
 refine wpAny_bind (wpAny_alloc ?_)
 refine wpAny_bind (wpAny_layCells _ (fun name kind cells=>by cases hkc:kind==NameKind.cell<;>simp[hkc]) _ _ _ _ ?_)
 rw[show({ s with heap:=s.heap.push { cls:=.type "dict",data:=.dict #[] } }:Shared).heap.objs.size=s.heap.objs.size+1 from Heap.size_push ..,Ybj]
 rw[List.forIn_nil]
 exact wpAny_bind (wpAny_pure (wpAny_pure h))
theorem Yn4{pins:List (Addr × Obj)}{σ:St}{H:Hp}{s:Shared}{fp:List Addr}{h₁:Heap}{tk:Nat}{own:List (Str × Addr)}(S:CompSc X.N X.env.scope N src scope)(I:Inv X pins σ H s)(hf:∀b∈fp,FpOk X pins H b)(ho:∀b∈fp,∃o,s.heap.get? b=some o)
 (hn:h₁.Ns s.heap.objs.size fun _=>none) (hk:∀b o,s.heap.get? b=some o->h₁.get? b=some o) (hc:CellsOk h₁ (s.heap.objs.size+1) own) (ow:∀x c,(x,c)∈own->(x,NameKind.cell)∈scope.names) (has:∀x,scope.names.lookup x=some NameKind.cell->∃c,own.lookup x=some c) :
 Inv (Yad X scope N (own++clOf X.env scope.names []) s.heap.objs.size fp s H) [] (capσ src σ) H { s with heap:=h₁,toks:=tk }:=by
 have sub:∀x c,(clOf X.env scope.names []).lookup x=some c->X.env.cells.lookup x=some c:=fun x c e=>Ygr scope.names [] (fun _ _ z=>nomatch z) x c (PySem.mem_of_lookup e)
 have clt:∀x c,(clOf X.env scope.names []).lookup x=some c->c < s.heap.objs.size:=fun x c e=>by
  obtain⟨v,q⟩:=I.cell x c (sub x c e)
  exact q.lt
 have owl:∀x c,own.lookup x=some c->s.heap.objs.size < c:=fun x c e=>(hc.empty x c (PySem.mem_of_lookup e)).2
 have nofree:∀x,scope.names.lookup x=some NameKind.free->own.lookup x=none:=fun x hx=>by
  cases e:own.lookup x with
  | none=>rfl
  | some c=>
    have:=S.cellU _ (ow x c (PySem.mem_of_lookup e)) rfl
    rw[hx]at this
    cases this
 have fpl:∀b∈fp,b < s.heap.objs.size:=fun b hb=>by
  obtain⟨o,e⟩:=ho b hb
  exact qk e
 have nfs:∀b∈fp,b∉frs X.stack:=fun b hb z=>by
  rcases qr (I.stkSub b z)with e | e
  ·exact(hf b hb).2.1 e
  ·exact(hf b hb).2.2.1 e
 refine⟨⟨I.ok.mod,S.kind,I.ok.glob,I.ok.blt,qs _,fun x y c h1 h2=>?_,fun x hx=>?_,fun x c z e=>?_,I.ok.hd,I.ok.frames,.inl rfl,fun b hb=>⟨ql (fpl b hb),fun x c e=>?_⟩,
  I.bs,qz I.ok.bsz I.sz,fun b o e hb=>?_,nfs,I.stack,I.stkFree⟩,rfl,I.bare,Un.kept hk,⟨_,hn,fun i x v h1 h2 h3=>?_⟩,fun x c e=>?_,I.fresh,fun x c e=>?_,fun p hp=>(nomatch hp),I.hok.kept hk,?_⟩
 ·rcases Yam h1 with h1 | ⟨_,h1⟩
  ·rcases Yam h2 with h2 | ⟨_,h2⟩
   ·exact name_of_addr hc.apart (PySem.mem_of_lookup h1) (PySem.mem_of_lookup h2)
   ·exact absurd (Nat.lt_trans (owl x c h1) (clt y c h2)) (Nat.lt_irrefl _)
  ·rcases Yam h2 with h2 | ⟨_,h2⟩
   ·exact absurd (Nat.lt_trans (owl y c h2) (clt x c h1)) (Nat.lt_irrefl _)
   ·exact I.ok.inj x y c (sub x c h1) (sub y c h2)
 ·show ∃c,(own++clOf X.env scope.names []).lookup x=some c
  rw[Yfv]
  cases e:own.lookup x with
  | some c=>exact⟨c,rfl⟩
  | none=>
    rcases Yg2 hx with hm | hm
    ·obtain⟨c,hc⟩:=I.ok.has x (S.fr _ hm rfl)
     exact Ye6 (Ye5 scope.names [] x c hm hc)
    ·obtain⟨c,hc⟩:=has x (S.cellU _ hm rfl)
     rw[e]at hc
     cases hc
 ·have z':scope.names.lookup x=some NameKind.cell:=by simpa using z
  obtain⟨d,hd⟩:=has x z'
  rcases Yam e with e | ⟨e,_⟩
  ·exact Nat.le_of_lt (owl x c e)
  ·rw[hd]at e;cases e
 ·rcases Yam e with e | ⟨_,e⟩
  ·exact Nat.ne_of_gt (Nat.lt_trans (fpl b hb) (owl x c e))
  ·exact(hf b hb).2.2.2.2.1 x c (sub x c e)
 ·rcases(hf b hb).2.2.2.1 with z | z
  ·exact I.ok.noex b o e z
  ·exact absurd (Qb (qk e) (qz I.ok.bsz z)) (Nat.lt_irrefl _)
 ·have hi:i < src.length:=by
   have:=(qm h2).1
   unfold capσ at this
   simpa using this
  have hs:src[i]?=some src[i]:=qp hi
  unfold capσ at h2
  rw[Qc,hs]at h2
  have h2':(src[i].bind fun j=>(σ[j]?).join)=some v:=Option.some.inj h2
  cases q:src[i]with
  | none=>rw[q]at h2';cases h2'
  | some j=>
    rw[q]at h2' hs
    have h2'':(σ[j]?).join=some v:=h2'
    obtain⟨hx,hfr⟩:=S.cap i j x h1 hs
    obtain⟨m,_,hl⟩:=I.loc
    have hk2:X.env.kindOf x=some NameKind.cell\/X.env.kindOf x=some NameKind.free:=S.fr (x,NameKind.free) (PySem.mem_of_lookup hfr) rfl
    have hσ:σ[j]?=some (some v):=by
     cases z:σ[j]? with
     | none=>rw[z]at h2'';cases h2''
     | some o=>
       rw[z]at h2''
       have:o=some v:=h2''
       rw[this]
    obtain⟨u,r,l⟩:=hl j x v hx hσ (.inr hk2)
    refine⟨u,r,.inr ⟨Yes hfr hk2,?_⟩⟩
    rcases l with⟨z,_⟩ | ⟨_,c,hc,hcell⟩
    ·rcases hk2 with q2 | q2
     ·rw[q2]at z;cases z
     ·rw[q2]at z;cases z
    ·obtain⟨d,hd⟩:=Ye6 (Ye5 (env:=X.env) scope.names [] x c (PySem.mem_of_lookup hfr) hc)
     have e2:=sub x d hd
     rw[hc]at e2
     cases e2
     refine⟨c,?_,hcell.keeps hk⟩
     show(own++clOf X.env scope.names []).lookup x=some c
     rw[Yfv,nofree x hfr]
     exact hd
 ·rcases Yam e with e | ⟨_,e⟩
  ·exact⟨_,(hc.empty x c (PySem.mem_of_lookup e)).1⟩
  ·obtain⟨v,q⟩:=I.cell x c (sub x c e)
   exact⟨v,q.keeps hk⟩
 ·rcases Yam e with e | ⟨_,e⟩
  ·exact I.hok.fresh (Nat.le_of_lt (owl x c e))
  ·exact I.freeC x c (sub x c e)
 ·unfold capσ
  rw[qe]
  exact S.len
theorem Yrv{pins:List (Addr × Obj)}{σ σ1:St}{H H':Hp}{s s':Shared}{fp:List Addr}{cl:List (Str × Addr)}{C:Addr}{pn:List (Addr × Obj)}(I:Inv X pins σ H s)(hf:∀b∈fp,FpOk X pins H b)(J:Inv (Yad X scope N cl C fp s H) pn σ1 H' s'):Inv X pins σ H' s':=
 I.call' J.os J.base J.hok J.bare fun b hb=>⟨(hf b hb).2.2.2.1,(hf b hb).2.1,(hf b hb).2.2.2.2.1,(hf b hb).2.2.2.2.2⟩
theorem Ykn{pins:List (Addr × Obj)}{σ:St}{H:Hp}{s:Shared}{Q:VK}{it:Addr}{fp:List Addr}{tn:Nat->Heap->Prop}{J:It}{R:Value->Addr->Result->Shared->Prop}{E:Value->Shared->Prop}
 (S:CompSc X.N X.env.scope N src scope) (hc:X.calm=true) (hg:∀cl C fp s H,PG (Yad X scope N cl C fp s H) tg g) (hi:∀cl C fp s H,PIfs (Yad X scope N cl C fp s H) ifs ti) (he:∀cl C fp s H,PE (Yad X scope N cl C fp s H) elt te)
 (I:Inv X pins σ H s) (T:Turn X.prog X.w X.K tg J fp it tn) (st:tn 0 s.heap) (hf:∀b∈fp,FpOk X pins H b)
 (h:∀p,H p=none->∃W:Nat->Nat->St->Hp->Prop,(∃m,W 0 m (capσ src σ) (upd H p (.lst [])))/\∀i m σ1 H2,W i m σ1 H2->
  (J.stop i H2/\Q (.ref p) H2)\/
  (J.go i H2/\∀x H3,J.yld i H2 x H3->g x σ1 H3 fun σ4 H4=>ti σ4 H4 fun b H5=>if b=true then te σ4 H5 fun v H6=>∃xs,H6 p=some (.lst xs)/\xs.length < sizeLine/\∃m',m' < m/\W (i+1) m' σ4 (upd H6 p (.lst (xs++[v])))else ∃m',m' < m/\W (i+1) m' σ4 H5))
 (hR:∀(D C:Addr) (s':Shared) (H':Hp) (m:Str->Option Value),Inv X pins σ H' s'->s'.heap.Ns C m->H' C=none->C≠X.env.locals->X.s₀.heap.objs.size<=C->(∀x c,X.env.cells.lookup x=some c->c≠C)->(∀p∈X.pn++pins,p.1≠C)->Q (.ref D) H'->R (.ref D) C (.ok .next) s') :
 wpAny (model X.prog X.w) X.A (newList []) (fun acc s₃=>wpAny (model X.prog X.w) X.A (newFunctionEnv scope X.env.globals (clOf X.env scope.names []) [] X.env.qual none .none (some X.env)) (fun cenv s₄=>
  codeAny (model X.prog X.w) X.A (.compStart (.ListComp elt [⟨tg,iter,ifs,0⟩] scope pos) 0 (.ref it) acc { cenv with scope:=relabel scope X.env }) (R acc cenv.locals) s₄) E s₃) E s:=by
 refine wpAny_newObj_type (Ylu ?_)
 have hfree:H s.heap.objs.size=none:=I.fresh
 obtain⟨W,⟨m0,w0⟩,turn⟩:=h s.heap.objs.size hfree
 have I3:Inv X pins σ (upd H s.heap.objs.size (.lst [])) { s with heap:=s.heap.push { cls:=.type "list",dict:=none,data:=.seq ([]:List Value).toArray },toks:=s.toks }:=I.lnew (ys:=[]) (its:=[]) .nil (Nat.zero_le _)
 generalize hD:s.heap.objs.size=Dd at *
 generalize hH3:upd H Dd (.lst [])=H3 at *
 have kp0:∀b o,s.heap.get? b=some o->(s.heap.push { cls:=.type "list",dict:=none,data:=.seq ([]:List Value).toArray }).get? b=some o:=fun b o e=>qd _ e
 have lt0:∀b o,s.heap.get? b=some o->b≠Dd:=fun b o e=>by rw[<-hD];exact ql (qk e)
 generalize hs3:s.heap.push { cls:=.type "list",dict:=none,data:=.seq ([]:List Value).toArray }=hp3 at *
 have f3:∀b∈fp,FpOk X pins H3 b:=fun b hb=>by
  obtain⟨o,e,_⟩:=T.obj _ _ st b hb
  refine⟨?_,(hf b hb).2⟩
  rw[<-hH3,Yj (lt0 b o e)]
  exact(hf b hb).1
 have ob3:∀b∈fp,∃o,hp3.get? b=some o:=fun b hb=>by
  obtain⟨o,e,_⟩:=T.obj _ _ st b hb
  exact⟨o,kp0 b o e⟩
 dsimp only
 have hns₁:(pushCells (hp3.push { cls:=.type "dict",data:=.dict #[] }) scope.names).Ns hp3.objs.size (fun _=>none):=(Heap.Ns.new hp3 (.type "dict")).keeps (pushCells_keeps _ _)
 have old:∀b o,hp3.get? b=some o->(pushCells (hp3.push { cls:=.type "dict",data:=.dict #[] }) scope.names).get? b=some o:=fun b o e=>pushCells_keeps _ _ b o (qd _ e)
 have cok:=cellsFrom_ok scope.names (hp3.push { cls:=.type "dict",data:=.dict #[] }) (hp3.objs.size+1) [] ⟨fun _ _ hm=>(nomatch hm),List.Pairwise.nil⟩ (by rw[Heap.size_push];exact qs _)
 rw[Heap.size_push]at cok
 have chas:∀x,scope.names.lookup x=some NameKind.cell->∃c,(cellsFrom (hp3.objs.size+1) scope.names []).lookup x=some c:=fun x hx=>Option.isSome_iff_exists.mp (PySem.W.cellsFrom_some _ _ _ (.inl hx))
 have cmem:∀x c,(x,c)∈cellsFrom (hp3.objs.size+1) scope.names []->(x,NameKind.cell)∈scope.names:=fun x c h=>Yda _ _ x c h
 generalize cellsFrom (hp3.objs.size+1) scope.names []=own at *
 generalize pushCells (hp3.push { cls:=.type "dict",data:=.dict #[] }) scope.names=h₁ at *
 have I4:Inv (Yad X scope N (own++clOf X.env scope.names []) hp3.objs.size fp { s with heap:=hp3,toks:=s.toks } H3) [] (capσ src σ) H3 { s with heap:=h₁,toks:=s.toks }:=
  Yn4 (s:={ s with heap:=hp3,toks:=s.toks }) (tk:=s.toks) S I3 f3 ob3 hns₁ old cok cmem chas
 have st4:tn 0 h₁:=T.keep _ _ _ st fun b _ o e=>old b o (kp0 b o e)
 have hCl:hp3.objs.size≠X.env.locals:=Nat.ne_of_gt I3.lt
 have hCc:∀x c,X.env.cells.lookup x=some c->c≠hp3.objs.size:=fun x c e=>by
  obtain⟨v,q⟩:=I3.cell x c e
  exact ql q.lt
 have hCp:∀p∈X.pn++pins,p.1≠hp3.objs.size:=fun p hp=>ql (qk (I3.pin p hp).1)
 have stat:∀{H':Hp},(∀b∈fp,H' b=none)->∀b∈fp,FpOk (Yad X scope N (own++clOf X.env scope.names []) hp3.objs.size fp { s with heap:=hp3,toks:=s.toks } H3) [] H' b:=fun {H'} hn b hb=>by
  obtain⟨e1,e2⟩:=I4.ok.exf b hb
  exact⟨hn b hb,e1,I4.ok.exfs b hb,.inl hb,e2,fun p hp=>nomatch hp⟩
 have loop:codeAny (model X.prog X.w) X.A (.compLoop (.ListComp elt [⟨tg,iter,ifs,0⟩] scope pos) 0 (.ref it) (.ref Dd) (compEnvC scope (own++clOf X.env scope.names []) hp3.objs.size X.env)) (R (.ref Dd) hp3.objs.size) { s with heap:=h₁,toks:=s.toks }:=by
  refine Yeh (fun n s'=>∃i σ' H',Inv (Yad X scope N (own++clOf X.env scope.names []) hp3.objs.size fp { s with heap:=hp3,toks:=s.toks } H3) [] σ' H' s'/\tn i s'.heap/\(∀b∈fp,H' b=none)/\W i n σ' H') ?_ m0 ⟨0,_,H3,I4,st4,fun b hb=>(f3 b hb).1,w0⟩
  rintro n s3 ⟨i,σ3,H3',I3',st3,fr3,w3⟩
  rcases turn i n σ3 H3' w3 with⟨stop,qn⟩ | ⟨go,step⟩
  ·refine thn (T.done (Yad X scope N (own++clOf X.env scope.names []) hp3.objs.size fp { s with heap:=hp3,toks:=s.toks } H3) rfl rfl rfl hc i [] s3 σ3 H3' _ I3' (stat fr3) st3 stop) fun r s4 hx_=>?_
   obtain⟨hr,I5⟩:=hx_
   subst hr
   obtain⟨m,hm,_⟩:=I5.loc
   exact hR Dd hp3.objs.size s4 H3' m (Yrv I3 f3 I5) hm I5.free hCl (qz I3.sz (qs _)) hCc hCp qn
  ·refine thn (T.item (Yad X scope N (own++clOf X.env scope.names []) hp3.objs.size fp { s with heap:=hp3,toks:=s.toks } H3) rfl rfl rfl hc i [] s3 σ3 H3' _ I3' (stat fr3) st3 go) fun r s4 hx_=>?_
   obtain⟨u,hr,h4⟩:=hx_
   subst hr
   refine thn h4 fun _ s5 hx_=>?_
   obtain⟨x,H5,I5,r5,y5,st5,fr5⟩:=hx_
   have I5':=I5.pinned (stat fr5) (T.obj _ _ st5)
   have un:∀{α:Type} {t:Sem α} {Q':α->Shared->Prop} {E':Value->Shared->Prop} {s':Shared},wpAny (model X.prog X.w) X.A t Q' (fun _ _=>False) s'->wpAny (model X.prog X.w) X.A t Q' E' s':=fun h=>wpAny_mono h (fun _ _ q=>q) fun _ _ f=>f.elim
   refine un (thn (hg _ _ _ _ _ _ s5 σ3 H5 x u _ I5' r5 (step x H5 y5)) fun _ s6 hx_=>?_)
   obtain⟨σ6,H6,I6,q6⟩:=hx_
   refine un (thn (hi _ _ _ _ _ _ s6 σ6 H6 _ I6 q6) fun ok s7 hx_=>?_)
   obtain⟨H7,I7,q7⟩:=hx_
   have again:∀{H8:Hp} {s8:Shared} {m':Nat},m' < n->Inv (Yad X scope N (own++clOf X.env scope.names []) hp3.objs.size fp { s with heap:=hp3,toks:=s.toks } H3) ([]++Ykg fp s5.heap) σ6 H8 s8->W (i+1) m' σ6 H8->
    ∃m,m < n/\∃i σ' H',Inv (Yad X scope N (own++clOf X.env scope.names []) hp3.objs.size fp { s with heap:=hp3,toks:=s.toks } H3) [] σ' H' s8/\tn i s8.heap/\(∀b∈fp,H' b=none)/\W i m σ' H':=fun {H8 s8 m'} hm I8 w8=>by
    refine⟨m',hm,i+1,σ6,H8,I8.unpinned,T.keep _ _ _ st5 fun b hb o e=>(I8.pin (b,o) (Qe _ (Qe _ (Yeb hb e)))).1,fun b hb=>?_,w8⟩
    obtain⟨o,e,d⟩:=T.obj _ _ st5 b hb
    exact(I8.pin (b,o) (Qe _ (Qe _ (Yeb hb e)))).2.1
   cases ok with
   | false=>
     rw[if_neg qh]at q7 ⊢
     obtain⟨m',hm,w7⟩:=q7
     exact again hm I7 w7
   | true=>
     rw[if_pos rfl]at q7 ⊢
     refine un (thn (he _ _ _ _ _ _ s7 σ6 H7 _ I7 q7) fun y s8 hx_=>?_)
     obtain⟨v,H8,I8,r8,q8⟩:=hx_
     obtain⟨xs,e8,z8,m',hm,w8⟩:=q8
     refine un (thn (Ye3 _ s8 σ6 H8 (.ref Dd) [v] (.ref Dd) [y] (fun _ H9=>H9=upd H8 Dd (.lst (xs++[v]))) I8 rfl (.cons r8 .nil) ⟨Dd,xs,v,rfl,rfl,e8,z8,rfl⟩) fun _ s9 hx_=>?_)
     obtain⟨_,H9,I9,_,q9⟩:=hx_
     subst q9
     exact again hm I9 w8
 exact codeAny_compStart_list loop (T.self _ _ _ _ _ st4 loop)
theorem Yui(S:CompSc X.N X.env.scope N src scope)(hc:X.calm=true)(hit:PI X tg iter wi)(hg:∀cl C fp s H,PG (Yad X scope N cl C fp s H) tg g)(hi:∀cl C fp s H,PIfs (Yad X scope N cl C fp s H) ifs ti)(he:∀cl C fp s H,PE (Yad X scope N cl C fp s H) elt te)
 (hs:∀x,foldedSetIterable iter X.env x=pure x:=by intro _;rfl):PE X (.ListComp elt [⟨tg,iter,ifs,0⟩] scope pos) (tLC wi src g ti te):=by
 intro pins s σ H Q I h
 rw[eval_ListComp]
 have hcl:closureFor scope X.env=pure (clOf X.env scope.names []):=Ydz fun y hy hf=>I.ok.has y.1 (S.fr y hy hf)
 refine wpAny_comprehension_free (use:=none) rfl hs hcl S.kind S.names ?_
 refine thn (hit pins s σ H _ I h) fun v s1 h1=>thn h1 fun itv s2 hx_=>?_
 obtain⟨it,fp,tn,J,H2,e,I2,T,st2,f2,q⟩:=hx_
 subst e
 refine Ykn (Q:=Q) (R:=fun acc C=>compPost (model X.prog X.w) X.A X.xe none (EP X pins σ Q) acc C) S hc hg hi he I2 T st2 f2 q fun D C s' H' m I' hm hC hCl hCs hCc hCp hq=>?_
 refine⟨m,hm,fun h' sb=>?_⟩
 exact⟨.ref D,H',I'.turned (t':=s'.toks) (fun b o hb e=>(sb.2 b hb).trans e) hC hCl (.inr hCs) hCc hCp,rfl,hq⟩
theorem Yuj{i:Nat}{y:Str}{py spos:Pos}(S:CompSc X.N X.env.scope N src scope)(hc:X.calm=true)(hit:PI X tg iter wi)(hg:∀cl C fp s H,PG (Yad X scope N cl C fp s H) tg g)(hi:∀cl C fp s H,PIfs (Yad X scope N cl C fp s H) ifs ti)(he:∀cl C fp s H,PE (Yad X scope N cl C fp s H) elt te)
 (hN:X.N.Nodup) (hy:X.N[i]?=some y) (hx:Loc X.env.scope y) (hsw:swapsWith (.ListComp elt [⟨tg,iter,ifs,0⟩] scope pos) (some (.Name y py)) spos.line X.env=pure true)
 (hf:X.fn y=true\/X.env.scope.names.lookup y=some .local:=by first | exact .inl rfl | exact .inr rfl | assumption)
 (hs:∀x,foldedSetIterable iter X.env x=pure x:=by intro _;rfl):PS X (.Assign [.Name y py] (.ListComp elt [⟨tg,iter,ifs,0⟩] scope pos) spos) (tAsg (tLC wi src g ti te) (Ynt i)):=by
 intro pins s σ H D I h
 rw[exec_Assign_Name_used _ _ _ _ hsw]
 refine wpAny_bind (wpAny_standAt (wpAny_bind ?_))
 show wpAny _ X.A (do let _ <-comprehension (.ListComp elt [⟨tg,iter,ifs,0⟩] scope pos) scope X.env _ (newList []) false (eval iter X.env) (some (assign (.Name y py) X.env))) _ _ s
 have hcl:closureFor scope X.env=pure (clOf X.env scope.names []):=Ydz fun y hy hf=>I.ok.has y.1 (S.fr y hy hf)
 refine wpAny_bind (wpAny_mono (wpAny_comprehension_free (use:=some (assign (.Name y py) X.env)) (Q:=fun _ s'=>SP X pins D .next s') rfl hs hcl S.kind S.names ?_) (fun _ s' hq=>wpAny_pure (wpAny_pure hq)) fun _ _ e=>e)
 refine thn (hit pins s σ H _ I h) fun v s1 h1=>thn h1 fun itv s2 hx_=>?_
 obtain⟨it,fp,tn,J,H2,e,I2,T,st2,f2,q⟩:=hx_
 subst e
 refine Ykn (Q:=fun x H1=>Ynt i x σ H1 D.nx) (R:=fun acc C=>compPost (model X.prog X.w) X.A X.xe (some (assign (.Name y py) X.env)) (fun _ s'=>SP X pins D .next s') acc C) S hc hg hi he I2 T st2 f2 q fun Dd C s' H' m I' hm hC hCl hCs hCc hCp hq=>?_
 show wpAny _ X.A (assign (.Name y py) X.env (.ref Dd)) _ _ s'
 refine wpAny_assign_Name (Yke I' hN hy hx (v:=.ref Dd) rfl (fun s'' I'' hsb=>?_) hf)
 obtain⟨a,sb,ha⟩:=hsb
 have hCa:C≠a:=by
  rcases ha with e | e
  ·rw[e];exact hCl
  ·exact Ne.symm (hCc y a e)
 refine⟨m,hm.sameBut sb hCa,fun h' sb'=>?_⟩
 exact⟨_,H',I''.turned (t':=s''.toks) (fun b o hb e=>(sb'.2 b hb).trans e) hC hCl (.inr hCs) hCc hCp,hq⟩
end
end L2
namespace M
open PySem PySem.Spec PyProof.Rows L2
section
section
def Rise(xs:Array Nat):Prop:=xs.toList.Pairwise (· < ·)
theorem Yi8{xs:Array Nat}(hr:Rise xs)(j:Nat):∀(fuel lo hi:Nat),lo<=hi->hi<=xs.size->hi - lo<=fuel->
 (∀(i:Nat) (h:i < xs.size),i < lo->xs[i] < j)->(∀(i:Nat) (h:i < xs.size),hi<=i->j<=xs[i])->
 SetTable.below.go xs j fuel lo hi<=xs.size/\(∀(i:Nat) (h:i < xs.size),i < SetTable.below.go xs j fuel lo hi->xs[i] < j)/\(∀(i:Nat) (h:i < xs.size),SetTable.below.go xs j fuel lo hi<=i->j<=xs[i])
 | 0,lo,hi,h1,h2,h3,h4,h5=>by
   have e:lo=hi:=by lia
   subst e
   rw[SetTable.below.go]
   exact⟨h2,h4,h5⟩
 | fuel+1,lo,hi,h1,h2,h3,h4,h5=>by
   have mono:∀(i k:Nat) (hi:i < xs.size) (hk:k < xs.size),i < k->xs[i] < xs[k]:=fun i k hi hk h=>by
    have:=List.pairwise_iff_getElem.mp hr i k (by simpa using hi) (by simpa using hk) h
    simpa using this
   rw[SetTable.below.go]
   by_cases hl:lo < hi
   ·rw[if_pos hl]
    have hm:(lo+hi) / 2 < xs.size:=by lia
    have hg:xs.getD ((lo+hi) / 2) j=xs[(lo+hi) / 2]:=by simp[Array.getD,hm]
    dsimp only
    rw[hg]
    by_cases hlt:xs[(lo+hi) / 2] < j
    ·rw[if_pos hlt]
     refine Yi8 hr j fuel _ _ (by lia) h2 (by lia) (fun i hi' hh=>?_) h5
     by_cases e:i=(lo+hi) / 2
     ·subst e;exact hlt
     ·exact Nat.lt_trans (mono i _ hi' hm (by lia)) hlt
    ·rw[if_neg hlt]
     refine Yi8 hr j fuel _ _ (by lia) (by lia) (by lia) h4 (fun i hi' hh=>?_)
     by_cases e:i=(lo+hi) / 2
     ·subst e;lia
     ·have:=mono _ i hm hi' (by lia)
      lia
   ·rw[if_neg hl]
    have e:lo=hi:=by lia
    subst e
    exact⟨h2,h4,h5⟩
theorem Yik{xs:Array Nat}(hr:Rise xs)(j:Nat):SetTable.below xs j<=xs.size/\(∀a∈xs.toList.take (SetTable.below xs j),a < j)/\(∀a∈xs.toList.drop (SetTable.below xs j),j<=a):=by
 obtain⟨h1,h2,h3⟩:=Yi8 hr j xs.size 0 xs.size (Nat.zero_le _) (qs _) (by lia) (fun i _ h=>absurd h (Nat.not_lt_zero _)) (fun i h h'=>absurd h (by lia))
 have e:SetTable.below xs j=SetTable.below.go xs j xs.size 0 xs.size:=rfl
 rw[e]
 refine⟨h1,fun a ha=>?_,fun a ha=>?_⟩
 ·obtain⟨i,hi,rfl⟩:=List.mem_iff_getElem.mp ha
  rw[List.length_take]at hi
  have hi':i < xs.size:=by have:xs.toList.length=xs.size:=by simp
                           lia
  rw[List.getElem_take,Array.getElem_toList]
  exact h2 i hi' (by lia)
 ·obtain⟨i,hi,rfl⟩:=List.mem_iff_getElem.mp ha
  rw[List.length_drop]at hi
  have hs:xs.toList.length=xs.size:=by simp
  rw[List.getElem_drop,Array.getElem_toList]
  exact h3 _ (by lia) (by lia)
theorem Yi9{α:Type}(xs:Array α)(p:Nat)(x:α):(SetTable.insertAt xs p x).toList=xs.toList.take p++x::xs.toList.drop p:=by
 unfold SetTable.insertAt
 simp[Array.toList_extract,List.extract_eq_drop_take]
 exact List.take_of_length_le (by simp)
theorem Ylv{xs:Array Nat}(hr:Rise xs)(j:Nat)(hn:xs[SetTable.below xs j]?≠some j):Rise (SetTable.insertAt xs (SetTable.below xs j) j):=by
 obtain⟨h1,h2,h3⟩:=Yik hr j
 unfold Rise at hr ⊢
 rw[Yi9]
 generalize hp:SetTable.below xs j=p at h1 h2 h3 hn ⊢
 rw[<-Array.getElem?_toList]at hn
 generalize xs.toList=l at hr h2 h3 hn ⊢
 have hr2:=hr
 rw[<-List.take_append_drop p l,List.pairwise_append]at hr
 obtain⟨r1,r2,r3⟩:=hr
 have hgt:∀a∈l.drop p,j < a:=by
  cases hd:l.drop p with
  | nil=>intro a ha;cases ha
  | cons b r=>
    rw[hd]at r2 h3
    have hb:l[p]?=some b:=by
     have:(l.drop p)[0]?=some b:=by rw[hd];rfl
     rwa [List.getElem?_drop,Nat.add_zero]at this
    have hjb:j < b:=Nat.lt_of_le_of_ne (h3 b qg) (fun z=>hn (by rw[hb,z]))
    intro a ha
    rcases qr ha with rfl | ha
    ·exact hjb
    ·exact Nat.lt_trans hjb ((List.pairwise_cons.mp r2).1 a ha)
 rw[List.pairwise_append]
 refine⟨r1,List.pairwise_cons.mpr ⟨hgt,r2⟩,fun a ha b hb=>?_⟩
 rcases qr hb with rfl | hb
 ·exact h2 a ha
 ·exact Nat.lt_trans (h2 a ha) (hgt b hb)
theorem Ypf{t:SetTable}{j:Nat}(h:∀i,t.slot j≠.live i):t.place[SetTable.below t.place j]?≠some j:=fun z=>by
 refine h (SetTable.below t.place j) ?_
 unfold SetTable.slot
 dsimp only
 rw[z]
 simp
theorem Yfw{t:SetTable}{ha:Nat->Int}{h:Int}:∀(fuel:Nat) (p:SetTable.Probe) {j:Nat} {d:Option Nat},(∀x,p.dummy=some x->∀i,t.slot x≠.live i)->
 SetTable.probe.go t ha h fuel p=some (.empty j d)->∀i,t.slot (d.getD j)≠.live i
 | 0,p,j,d,_,e=>by rw[SetTable.probe.go]at e;cases e
 | fuel+1,p,j,d,hd,e=>by
   rw[SetTable.probe.go]at e
   split at e
   ·rename_i hs
    cases e
    intro i
    cases hp:p.dummy with
    | none=>rw[Option.getD_none,hs];exact fun z=>nomatch z
    | some x=>exact hd x hp i
   ·rename_i hs
    refine Yfw fuel _ (fun x hx i=>?_) e
    have hx':x=p.j:=by
     unfold SetTable.advance at hx
     split at hx
     ·exact(Option.some.inj hx).symm
     ·exact(Option.some.inj hx).symm
    rw[hx',hs]
    exact fun z=>nomatch z
   ·split at e
    ·cases e
    ·refine Yfw fuel _ (fun x hx i=>hd x ?_ i) e
     unfold SetTable.advance at hx
     split at hx
     ·exact hx
     ·exact hx
def Tab(bt:Bool)(t:SetTable):Prop:=(bt=false->t.led=true)/\(t.plain=true->Rise t.place)
theorem Tab.standIn{bt:Bool}{t:SetTable}(h:Tab bt t)(n:Nat):Tab bt (t.standIn n):=⟨h.1,fun z=>nomatch z⟩
theorem Tab.off{bt:Bool}{t:SetTable}(h:Tab bt t):Tab bt { t with plain:=false }:=⟨h.1,fun z=>nomatch z⟩
theorem Tab.fresh{bt:Bool}:Tab bt (.fresh 0 0 (!bt)):=⟨fun h=>by subst h;rfl,fun _=>.nil⟩
theorem Tab.layNew{bt:Bool}{t:SetTable}(h:Tab bt t)(es:Array (Int × Value))(hh:Int)(x:Value):Tab bt (PySem.layNew t es hh x).2.1:=by
 unfold PySem.layNew
 split
 ·rename_i slot wd hf
  dsimp only
  unfold SetTable.orStandIn
  split
  ·refine⟨h.1,fun z=>?_⟩
   refine Ylv (h.2 z) slot (Ypf ?_)
   unfold SetTable.freeSlot at hf
   split at hf
   ·rename_i j dummy hp
    cases hf
    exact Yfw _ _ (fun x hx=>by simp[SetTable.probeStart]at hx) hp
   ·cases hf
  ·exact⟨h.1,fun z=>nomatch z⟩
 ·exact h.standIn _
theorem Ypg{mask finger moves:Nat}{led plain:Bool}{hs:Array Int}{t:SetTable}{o:Array Nat}(h:SetTable.laid mask finger moves led plain hs=some (t,o)):Rise t.place/\t.led=led/\t.plain=plain:=by
 unfold SetTable.laid at h
 obtain⟨owner,_,h⟩:=qa h
 cases h
 refine⟨?_,rfl,rfl⟩
 unfold Rise
 show(((List.range (mask+1)).filterMap fun j=>(owner.getD j none).map (j,·)).map (·.1)).Pairwise (· < ·)
 rw[List.map_filterMap]
 refine List.Pairwise.filterMap _ (fun a b hab x hx y hy=>?_) List.pairwise_lt_range
 simp at hx hy
 obtain⟨_,_,rfl⟩:=hx
 obtain⟨_,_,rfl⟩:=hy
 exact hab
theorem Tab.relayAll{bt:Bool}{t:SetTable}(h:Tab bt t)(es:Array (Int × Value))(n:Nat):Tab bt (PySem.relayAll t es n).2.1:=by
 unfold PySem.relayAll
 split
 ·rename_i t' order hr
  obtain⟨h1,h2,h3⟩:=Ypg hr
  dsimp only
  split
  ·exact⟨fun z=>by rw[h2];exact h.1 z,fun _=>h1⟩
  ·exact h.standIn _
 ·exact h.standIn _
end
end
section
section
variable {prog:Program} {w:World} {A:Around} {E:Value->Shared->Prop} {s:Shared}
def kOf(e:Int × Value):Int:=match e.2 with
 | .int n _=>n
 | _=>0
abbrev byT(w:World):Bool:=w.params.followText "set-order"
def SetI(prog:Program)(w:World)(h:Heap)(a:Addr)(ns:List Int):Prop:=
 ∃o es ep t,h.get? a=some o/\o.ExactSet/\o.data=.set es ep t/\ElemsOf (intKind prog w) es.toList/\es.toList.map kOf=ns/\ns.Nodup/\es.size < scanBound/\t.fits es.size=true/\Tab (byT w) t
theorem Ytj{k:Int}{e:Int × Value}(h:(intKind prog w).is k e.2=true):kOf e=k:=by
 obtain⟨t,ht⟩:=Value.isInt_shape h
 unfold kOf
 rw[ht]
theorem Ymw{es:List (Int × Value)}(h:ElemsOf (intKind prog w) es){e:Int × Value}(he:e∈es):∃t,e=(hashInt (kOf e),.int (kOf e) t):=by
 obtain⟨⟨k,hk,hh⟩,_⟩:=h e he
 have hk':=Ytj hk
 obtain⟨t,ht⟩:=Value.isInt_shape hk
 refine⟨t,?_⟩
 rw[hk']
 exact Prod.ext hh ht
theorem SetI.at{h h':Heap}{a:Addr}{ns:List Int}(x:SetI prog w h a ns)(e:∀o,h.get? a=some o->h'.get? a=some o):SetI prog w h' a ns:=
 let ⟨o,es,ep,t,ho,r⟩:=x
 ⟨o,es,ep,t,e o ho,r⟩
theorem SetI.len{h:Heap}{a:Addr}{ns:List Int}(x:SetI prog w h a ns):ns.length < scanBound:=by
 obtain⟨o,es,ep,t,ho,hex,hd,hel,hns,hnd,hb,_⟩:=x
 rw[<-hns,qe,qi]
 exact hb
theorem Yph{h:Heap}{a:Addr}{o:Obj}{es:Array (Int × Value)}{ep:Nat}{t:SetTable}(ho:h.get? a=some o)(hd:o.data=.set es ep t)(es':Array (Int × Value))(t':SetTable) :
 (h.update a (Obj.putSet es' t')).get? a=some { o with data:=.set es' (ep+1) t' }:=by
 have:=Heap.get?_update_self (Obj.putSet es' t') ho (by rw[putSet_of es' t' hd];rfl)
 rw[putSet_of es' t' hd]at this
 exact this
theorem Ymx{g:Bool->Sem Unit}(hg:∀(b:Bool) (s₁:Shared) (Q':Unit->Shared->Prop),Q' () s₁->wpAny (model prog w) A (g b) Q' E s₁)
 {a:Addr} {o:Obj} {es:Array (Int × Value)} {ep:Nat} {t:SetTable} (ho:s.heap.get? a=some o) (hex:o.ExactSet) (hd:o.data=.set es ep t)
 {es1:Array (Int × Value)} {t2:SetTable} {ms:List Int} (hel1:ElemsOf (intKind prog w) es1.toList) (hms:(es1.toList.map kOf).Perm ms) (hnd:ms.Nodup)
 (hb1:es1.size < scanBound) (hf2:t2.fits es1.size=true) (ht2:Tab (byT w) t2) {wasDummy:Bool} {R:Option Bool->Shared->Prop}
 (h:∀h' ns',Heap.SameBut a s.heap h'->SetI prog w h' a ns'->ns'.Perm ms->R (some true) { s with heap:=h' }) :
 wpAny (model prog w) A (do
  storeSet a es1 t2
  if (!wasDummy&&t2.tooFull)=true then do
      g (relayAll t2 es1 (SetTable.grown es1.size)).2.2
      storeSet a (relayAll t2 es1 (SetTable.grown es1.size)).1 (relayAll t2 es1 (SetTable.grown es1.size)).2.1
      pure (some true)
   else pure (some true)) R E s:=by
 refine wpAny_bind (wpAny_storeSet_of ho hd ?_ (fits_of_scanBound hb1))
 have ho1:=Yph ho hd es1 t2
 have hsb1:=Heap.SameBut.update s.heap a (Obj.putSet es1 t2)
 split
 ·have hp:=relayAll_perm t2 es1 (SetTable.grown es1.size)
  have hfr:=relayAll_fits t2 es1 (SetTable.grown es1.size)
  have htr:=ht2.relayAll es1 (SetTable.grown es1.size)
  generalize hRl:relayAll t2 es1 (SetTable.grown es1.size)=Rl at hp hfr htr ⊢
  obtain⟨es2,t3,gave2⟩:=Rl
  dsimp only at hp hfr htr ⊢
  have hel2:ElemsOf (intKind prog w) es2.toList:=hel1.perm hp
  have hsz:es2.size=es1.size:=by rw[<-qi,hp.length_eq,qi]
  have hb2:es2.size < scanBound:=by rw[hsz];exact hb1
  have hp2:=(hp.map kOf).trans hms
  refine wpAny_bind (hg _ _ _ ?_)
  refine wpAny_bind (wpAny_storeSet_of ho1 rfl ?_ (fits_of_scanBound hb2))
  have ho2:=Yph ho1 rfl es2 t3
  exact wpAny_pure (h _ _ (hsb1.trans (Heap.SameBut.update _ a _)) ⟨_,es2,_,t3,ho2,hex,rfl,hel2,rfl,hp2.nodup_iff.mpr hnd,hb2,hfr,htr⟩ hp2)
 ·exact wpAny_pure (h _ _ hsb1 ⟨_,es1,_,t2,ho1,hex,rfl,hel1,rfl,hms.nodup_iff.mpr hnd,hb1,hf2,ht2⟩ hms)
theorem Yuk{a:Addr}{ns:List Int}{k:Int}{u:Tok}{Q:Bool->Shared->Prop}(hS:SetI prog w s.heap a ns)(hroom:ns.length+1 < scanBound)
 (h:∀h' ns',Heap.SameBut a s.heap h'->SetI prog w h' a ns'->ns'.Perm (if k∈ns then ns else ns++[k])->Q (!decide (k∈ns)) { s with heap:=h' }) :
 wpAny (model prog w) A (setAddHashed a (.int k u) (hashInt k)) Q E s:=by
 have hS0:=hS
 obtain⟨o,es,ep,t,ho,hex,hd,hel,hns,hnd,hb,hf,ht⟩:=hS
 have hkey:(intKind prog w).is k (.int k u)=true:=intKind_is _ _ _ _
 have hsc:(Value.int k u).scannable=true:=rfl
 have hsz:es.size=ns.length:=by rw[<-hns,qe,qi]
 unfold setAddHashed setAddHashedIn
 refine wpAny_holding (wpAny_bind (wpAny_setState_of ho hd hf ?_))
 dsimp only
 rw[byScan_of hsc hb hel]
 simp only[↓reduceIte]
 unfold setAddByScan
 refine wpAny_bind ?_
 refine wpAny_bind (wpAny_rule ?_)
 refine wpAny_bind (wpAny_setScan_of (knd:=intKind prog w) (k:=k) hkey ho hd hf hel ?_)
 cases hr:List.findIdx? (fun e=>(intKind prog w).is k e.2) es.toList with
 | some j=>
   dsimp only
   obtain⟨hj,hpj,_⟩:=List.findIdx?_eq_some_iff_getElem.mp hr
   have hk:k∈ns:=by
    rw[<-hns,<-Ytj hpj]
    exact List.mem_map_of_mem (List.getElem_mem hj)
   refine wpAny_pure (wpAny_pure ?_)
   have e:s={ s with heap:=s.heap }:=by cases s;rfl
   have:=h s.heap ns (Heap.SameBut.refl a s.heap) hS0 (by rw[if_pos hk])
   rw[decide_eq_true hk]at this
   rw[e];exact this
 | none=>
   dsimp only
   have hk:k∉ns:=fun hk=>by
    rw[<-hns]at hk
    obtain⟨e,he,hke⟩:=qv hk
    have h1:=List.findIdx?_eq_none_iff.mp hr e he
    obtain⟨t',ht'⟩:=Ymw hel he
    rw[ht',hke]at h1
    have h2:(intKind prog w).is k (.int k t')=true:=intKind_is _ _ _ _
    rw[h2]at h1
    exact Bool.noConfusion h1
   have hgw:∀(b:Bool) {s₁:Shared} {Q':Unit->Shared->Prop},Q' () s₁->wpAny (model prog w) A (match b with | true=>rule "set.scan.the-table-gave-way" | false=>pure ()) Q' E s₁:=
    fun b s₁ Q' hq=>by cases b<;>first | exact wpAny_pure hq | exact wpAny_rule hq
   have hperm:=layNew_perm t es (hashInt k) (.int k u)
   have hfits:=layNew_fits t es (hashInt k) (.int k u)
   have htab:=ht.layNew es (hashInt k) (.int k u)
   show wpAny (model prog w) A (do
    let (es,t,wasDummy,gave):=PySem.layNew t es (hashInt k) (.int k u)
    _) _ _ _
   generalize hL:layNew t es (hashInt k) (.int k u)=L at hperm hfits htab ⊢
   obtain⟨es1,t1,wasDummy,gave⟩:=L
   dsimp only at hperm hfits htab ⊢
   rw[Array.toList_push]at hperm
   have hel1:ElemsOf (intKind prog w) es1.toList:=(hel.push (knd:=intKind prog w) (k:=k) hkey hsc).perm hperm
   have hb1':es1.size < scanBound:=by rw[<-qi,hperm.length_eq,qw,qi];simp;lia
   have hms:(es1.toList.map kOf).Perm (ns++[k]):=by
    have:=hperm.map kOf
    rw[List.map_append,hns]at this
    exact this
   have hnd1:(ns++[k]).Nodup:=by
    rw[List.nodup_append]
    refine⟨hnd,by simp,fun x hx y hy z=>?_⟩
    simp at hy
    subst hy
    exact hk (z ▸ hx)
   have hend:∀h' ns',Heap.SameBut a s.heap h'->SetI prog w h' a ns'->ns'.Perm (ns++[k])->Q true { s with heap:=h' }:=by
    intro h' ns' hsb hS' hp
    have:=h h' ns' hsb hS' (by rw[if_neg hk];exact hp)
    rw[decide_eq_false hk]at this
    exact this
   refine wpAny_bind (hgw _ ?_)
   split
   ·refine wpAny_bind ?_
    rw[hashByValue_scannable 8 hsc]
    refine wpAny_pure ?_
    refine Ymx ?_ ho hex hd hel1 hms hnd1 hb1' ?_ ?_ ?_
    ·intro b s₁ Q' hq;cases b<;>first | exact wpAny_pure hq | exact wpAny_rule hq
    ·split
     ·exact hfits
     ·exact SetTable.fits_plain_off hfits
    ·split
     ·exact htab
     ·exact htab.off
    ·intro h' ns' hsb hS' hp;dsimp only;exact wpAny_pure (hend h' ns' hsb hS' hp)
   ·refine wpAny_bind (wpAny_pure ?_)
    simp only[↓reduceIte]
    refine Ymx ?_ ho hex hd hel1 hms hnd1 hb1' hfits htab ?_
    ·intro b s₁ Q' hq;cases b<;>first | exact wpAny_pure hq | exact wpAny_rule hq
    ·intro h' ns' hsb hS' hp;dsimp only;exact wpAny_pure (hend h' ns' hsb hS' hp)
end
def ddup:List Int->List Int->List Int
 | acc,[]=>acc
 | acc,k::r=>ddup (if k∈acc then acc else acc++[k]) r
theorem Yko:∀(r a b:List Int),a.Perm b->(ddup a r).Perm (ddup b r)
 | [],_,_,h=>h
 | k::r,a,b,h=>by
   rw[ddup,ddup]
   refine Yko r _ _ ?_
   by_cases hk:k∈a
   ·rw[if_pos hk,if_pos (h.mem_iff.mp hk)];exact h
   ·rw[if_neg hk,if_neg (fun z=>hk (h.mem_iff.mpr z))];exact h.append_right _
section
variable {prog:Program} {w:World} {A:Around} {R:Result->Shared->Prop} {I:Addr} {fp wr:List Addr} {G:Array GenState->Array GenState->Prop} {n:Nat} {P:Nat->Value->Prop} {St:Nat->Shared->Prop}
theorem Ymy(W:WalksS prog w A.in1 I fp wr G n P St)(S:Addr)(hSf:S∉fp)(ms:List Int)(hn:ms.length=n)
 (hval:∀i v,P i v->∃t,v=.int (ms.getD i 0) t) (hb:n+1 < scanBound) :
 ∀(k i:Nat) (s:Shared) (ns:List Int),n - i=k->i<=n->St i s->ns.length<=i->SetI prog w s.heap S ns->
  (∀s' ns',Moved (S::wr) G s s'->SetI prog w s'.heap S ns'->ns'.Perm (ddup ns (ms.drop i))->R (.ok (.ret .none)) s')->
  codeAny (model prog w) A (.builtin "set.update.loop" ⟨[.ref S,.ref I],[]⟩) R s:=by
 have hSw:S∉wr:=fun h=>hSf (W.sub _ h)
 have hsub:∀b∈wr,b∈S::wr:=fun b hb=>qf _ hb
 intro k
 induction k with
 | zero=>
   intro i s ns hk hi hst hl hS hR
   have hin:i=n:=by lia
   subst hin
   refine codeAny_builtin F.entry_set_update_loop ?_
   rw[Around.under_plainId F.plain_set_update_loop _]
   show wpAny _ A.in1 (pyNext (.ref I) >>= _) _ _ s
   refine wpAny_bind (W.done s _ _ hst fun s' hm=>?_)
   show wpAny _ A.in1 (ret Value.none) _ _ s'
   refine wpAny_pure (hR s' ns (hm.mono hsub) (hS.at fun o e=>hm.heap S _ hSw e) ?_)
   rw[List.drop_of_length_le (by lia),ddup]
 | succ k ih=>
   intro i s ns hk hi hst hl hS hR
   have hlt:i < n:=by lia
   refine codeAny_builtin F.entry_set_update_loop ?_
   rw[Around.under_plainId F.plain_set_update_loop _]
   show wpAny _ A.in1 (pyNext (.ref I) >>= _) _ _ s
   refine wpAny_bind (W.item i s _ _ hlt hst fun v s' hP hst' hm=>?_)
   obtain⟨t,rfl⟩:=hval i v hP
   have hS':SetI prog w s'.heap S ns:=hS.at fun o e=>hm.heap S _ hSw e
   generalize hx:ms.getD i 0=x
   have hdrop:ms.drop i=x::ms.drop (i+1):=by
    rw[List.drop_eq_getElem_cons (by lia),<-hx,List.getD_eq_getElem?_getD,qp (by lia)]
    rfl
   show wpAny _ A.in1 (holding [Value.int x t] (setAdd S (.int x t)) >>= _) _ _ s'
   refine wpAny_bind (wpAny_holding ?_)
   unfold setAdd
   refine wpAny_holding ?_
   refine wpAny_bind ((intKind prog w).pyHash (k:=x) (intKind_is _ _ _ _) ?_)
   refine Yuk (s:={ s' with toks:=s'.toks+1 }) hS' (by lia) fun h' ns' hsb hS2 hp=>?_
   have hl2:ns'.length<=i+1:=by
    rw[hp.length_eq]
    split
    ·lia
    ·simp;lia
   refine wpAny_pure ⟨plainId_quiet F.plain_set_update_loop _,ih (i+1) _ ns' (by lia) hlt (W.frame _ s' _ _ hst' (Nat.le_succ _) fun b hb o e=>?_) hl2 hS2 fun s'' ns'' hm'' hS'' hp''=>?_⟩
   ·rw[hsb.2 b (fun h:b=S=>hSf (by rw[<-h];exact hb))];exact e
   ·refine hR s'' ns'' (Moved.trans W.gtrans ((hm.mono hsub).then_heap (Nat.le_succ _) fun b o hb e=>?_) hm'') hS'' ?_
    ·rw[hsb.2 b (fun h:b=S=>hb (by rw[h];exact qg))];exact e
    ·rw[hdrop,ddup]
     exact hp''.trans (Yko _ _ _ hp)
end
end
section
section
variable {prog:Program} {w:World} {A:Around} {E:Value->Shared->Prop} {s:Shared}
theorem Yja:isSubtype (.type "tuple") (.type "set")=pure false:=by rw[isSubtype_type];kernel_rfl
theorem Yet:isSubtype (.type "tuple") (.type "frozenset")=pure false:=by rw[isSubtype_type];kernel_rfl
theorem Ydo{T newId initId:String}{Bi:Builtin}{args:List Value}{Q Q₁:Value->Shared->Prop}(ft:TypeCalled T newId initId)
 (hct:checkTypeCall T ⟨args,[]⟩=pure ()) (entryI:entryFor table initId=some Bi)
 (hnew:codeAny (model prog w) A.in1 (.call (.builtin newId) ⟨.type T::args,[]⟩) (wants Q₁ E) s)
 (hnext:∀obj s₁,Q₁ obj s₁->s₁.TypeIs obj T/\(∀(A':Around) (E':Value->Shared->Prop) (Q':Unit->Shared->Prop),Q' () s₁->wpAny (model prog w) A' (checkBuiltinCall initId ⟨obj::args,[]⟩) Q' E' s₁)/\
  wpAny (model prog w) A.in1.in1 (Bi ⟨obj::args,[]⟩)
   (fun fin s'=>match fin with | .done f=>wants (fun r s₂=>r=.none/\Q obj s₂) E (.ok f) s' | .again c'=>c'.quiet=true/\codeAny (model prog w) A.in1 c' (wants (fun r s₂=>r=.none/\Q obj s₂) E) s')
   (fun e s'=>wants (fun r s₂=>r=.none/\Q obj s₂) E (.error e) s') s₁) :
 wpAny (model prog w) A (call (.type T) args) Q E s:=by
 obtain⟨c,tl,hmro⟩:=ft.mro
 have hmade:=ft.made
 have hsub:=ft.sub
 refine wpAny_call (codeAny_of_tree ?_)
 show wpAny _ _ (callAny (.type T) _) _ _ _
 refine wpAny_pure ⟨Code.quiet_builtin _ (by decide +kernel),codeAny_builtin F.entry_type_call ?_⟩
 rw[Around.under_plain (weight_type_call_type T args []) rfl]
 have h1:=ft.notType
 have h2:=ft.canCreate
 repeat (any_goals (first | assumption | wp_step))
 refine codeAny_mono hnew fun r s₁ hr=>?_
 cases r with
 | error e=>exact hr
 | ok fl=>
   cases fl with
   | ret obj=>
     obtain⟨hT,hok,hsi⟩:=hnext _ _ hr
     have hli:=ft.init.lookup
     have hbi:=ft.init.bind obj
     repeat (any_goals (first | assumption | wp_step))
     refine codeAny_mono (codeAny_call_builtin ft.init.plain entryI (hok _ _ _ hsi)) fun r₂ s₂ hr₂=>?_
     cases r₂ with
     | error e=>exact hr₂
     | ok fl₂=>
       cases fl₂ with
       | ret r=>
         obtain⟨rfl,hq⟩:=hr₂
         repeat (any_goals (first | assumption | wp_step))
       | _=>exact hr₂.elim
   | _=>exact hr.elim
abbrev emS(w:World):Obj:={ cls:=.type "set",dict:=none,data:=.set #[] 0 (.fresh 0 0 (!byT w)) }
theorem Ykp(a:Value){Q₁:Value->Shared->Prop}(h:Q₁ (.ref s.heap.objs.size) { s with heap:=s.heap.push (emS w) }) :
 codeAny (model prog w) A (.call (.builtin "set.__new__") ⟨[.type "set",a],[]⟩) (wants Q₁ E) s:=by
 refine codeAny_of_tree ?_
 show wpAny _ A.in1 (do checkBuiltinCall "set.__new__" ⟨[.type "set",a],[]⟩;again (.builtin "set.__new__" ⟨[.type "set",a],[]⟩)) _ _ s
 refine wpAny_bind (wpAny_of_eq (F.newCall_set_1 a) (wpAny_pure ⟨plainId_quiet F.plain_set_new _,codeAny_builtin F.entry_set_new ?_⟩))
 rw[Around.under_plainId F.plain_set_new _]
 unfold Builtin.«set.__new__» Builtin.Frozenset.newClass
 have hsub:=sub_set_self
 obtain⟨hp,g,d,tk,os⟩:=s
 dsimp only
 wp_walk
 refine wpAny_askSetting (wpAny_pure ?_)
 dsimp only
 simp only[newObj]
 refine wpAny_bind (wpAny_alloc (wpAny_pure ?_))
 exact wpAny_pure h
set_option maxRecDepth 100000 in
theorem Yjb{l:Addr}{items:Array Value}{ms:List Int}{Q:Value->Shared->Prop}
 (hh:A.handled=none) (hl:s.heap.IsList l items) (hi:IntsAre items.toList ms) (hb:items.size+1 < scanBound)
 (h:∀(h':Heap) (tk:Nat) ns,SetI prog w h' s.heap.objs.size ns->ns.Perm (ddup [] ms)->
  (∀b o,b < s.heap.objs.size->s.heap.get? b=some o->h'.get? b=some o)->Q (.ref s.heap.objs.size) { s with heap:=h',toks:=tk }) :
 wpAny (model prog w) A (call (.type "set") [.ref l]) Q E s:=by
 refine Ydo (Q₁:=fun obj s₁=>obj=.ref s.heap.objs.size/\s₁={ s with heap:=s.heap.push (emS w) }) F.called_set (F.typeCall_set_1 _) F.entry_set_init (Ykp _ ⟨rfl,rfl⟩) ?_
 rintro obj s₁ ⟨rfl,rfl⟩
 have hS:(s.heap.push (emS w)).get? s.heap.objs.size=some (emS w):=qo _ rfl
 have hT:Shared.TypeIs { s with heap:=s.heap.push (emS w) } (.ref s.heap.objs.size) "set":=⟨_,hS,rfl⟩
 refine⟨hT,fun A' E' Q' hq=>check_set_init_1 hT hq,?_⟩
 obtain⟨ol,hol,hcl,nl,hdl⟩:=hl
 obtain⟨ocls,odict,odata,oslots⟩:=ol
 simp only at hcl hdl
 subst hcl;subst hdl
 have hol':(s.heap.push (emS w)).get? l=some { cls:=.type "list",dict:=odict,data:=.seq items nl,slots:=oslots }:=qd _ hol
 have hsls:=F.sub_list_set
 have hslf:=F.sub_list_frozenset
 have hne:(Value.type "list"==Value.type "dict")=false:=by decide
 have hl1:(s.heap.push (emS w)).IsList l items:=⟨_,hol',rfl,nl,rfl⟩
 unfold Builtin.«set.__init__» noKeywords Builtin.Frozenset.updateFrom
 generalize hPI:pyIter=PI
 wp_walk
 subst hPI
 refine wpAny_pyIter_list hl1 ?_
 refine wpAny_bind (wpAny_runValue ?_)
 have hlS:l < s.heap.objs.size:=qk hol
 have hh3:A.in1.in1.in1.handled=none:=by simp[hh]
 have hneI:l≠(s.heap.push (emS w)).objs.size:=by
  rw[Heap.size_push];exact ql (qu hlS)
 have hSf:s.heap.objs.size∉[(s.heap.push (emS w)).objs.size,l]:=by
  rw[Heap.size_push];simp only[List.mem_cons,List.mem_singleton,List.not_mem_nil,or_false,not_or]
  exact⟨ql (qx _),Nat.ne_of_gt hlS⟩
 have hlen:ms.length=items.size:=by have:=IntsAre.length hi;rw[qi]at this;exact this.symm
 have hval:∀(i:Nat) (v:Value),items[i]?=some v->∃t,v=.int (ms.getD i 0) t:=fun i v hv=>
  IntsAre.int_at hi i v (by rw[Array.getElem?_toList];exact hv)
 refine Ymy ((Walks.list hh3 _ l hneI items).toS) s.heap.objs.size hSf ms hlen hval hb (items.size - 0) 0 _ [] (by lia) (Nat.zero_le _)
  ⟨⟨_,qo _ rfl,rfl,rfl⟩,(hl1.push _)⟩ (qs _) ?hS0 ?hR
 case hS0=>
  have hget:((s.heap.push (emS w)).push { cls:=.type "list_iterator",data:=.fields #[.ref l,.int 0 0] }).get? s.heap.objs.size=some (emS w):=qd _ hS
  exact⟨emS w,#[],0,_,hget,⟨rfl,rfl,rfl⟩,rfl,fun e he=>by simp at he,rfl,.nil,by decide,rfl,.fresh⟩
 case hR=>
  intro s' ns' hm hS' hp'
  obtain⟨h',g',d',tk',os'⟩:=s'
  have eg:g'=s.gens:=hm.gens
  have ed:d'=s.drawn:=hm.drawn
  have eo:os'=s.os:=hm.os
  subst eg;subst ed;subst eo
  show wpAny _ _ _ _ _ _
  refine wpAny_pure ?_
  show wpAny _ _ (ret Value.none) _ _ _
  refine wpAny_pure ⟨rfl,h h' tk' ns' hS' hp' fun b o hb e=>?_⟩
  have hb1:b≠s.heap.objs.size:=ql hb
  have hb2:b≠(s.heap.push (emS w)).objs.size:=by
   rw[Heap.size_push];exact ql (qu hb)
  exact hm.heap b o (by simp only[List.mem_cons,List.mem_singleton,List.not_mem_nil,or_false,not_or];exact⟨hb1,hb2⟩) (qd _ (qd _ e))
set_option maxRecDepth 100000 in
theorem Yh1{l:Addr}{items:Array Value}{ms:List Int}{Q:Value->Shared->Prop}
 (hh:A.handled=none) (hl:s.heap.IsTuple l items) (hi:IntsAre items.toList ms) (hb:items.size+1 < scanBound)
 (h:∀(h':Heap) (tk:Nat) ns,SetI prog w h' s.heap.objs.size ns->ns.Perm (ddup [] ms)->
  (∀b o,b < s.heap.objs.size->s.heap.get? b=some o->h'.get? b=some o)->Q (.ref s.heap.objs.size) { s with heap:=h',toks:=tk }) :
 wpAny (model prog w) A (call (.type "set") [.ref l]) Q E s:=by
 refine Ydo (Q₁:=fun obj s₁=>obj=.ref s.heap.objs.size/\s₁={ s with heap:=s.heap.push (emS w) }) F.called_set (F.typeCall_set_1 _) F.entry_set_init (Ykp _ ⟨rfl,rfl⟩) ?_
 rintro obj s₁ ⟨rfl,rfl⟩
 have hS:(s.heap.push (emS w)).get? s.heap.objs.size=some (emS w):=qo _ rfl
 have hT:Shared.TypeIs { s with heap:=s.heap.push (emS w) } (.ref s.heap.objs.size) "set":=⟨_,hS,rfl⟩
 refine⟨hT,fun A' E' Q' hq=>check_set_init_1 hT hq,?_⟩
 obtain⟨ol,hol,hcl,nl,hdl⟩:=hl
 obtain⟨ocls,odict,odata,oslots⟩:=ol
 simp only at hcl hdl
 subst hcl;subst hdl
 have hol':(s.heap.push (emS w)).get? l=some { cls:=.type "tuple",dict:=odict,data:=.seq items nl,slots:=oslots }:=qd _ hol
 have hsls:=Yja
 have hslf:=Yet
 have hne:(Value.type "tuple"==Value.type "dict")=false:=by decide
 have hl1:(s.heap.push (emS w)).IsTuple l items:=⟨_,hol',rfl,nl,rfl⟩
 unfold Builtin.«set.__init__» noKeywords Builtin.Frozenset.updateFrom
 generalize hPI:pyIter=PI
 wp_walk
 subst hPI
 refine wpAny_pyIter_tuple hl1 ?_
 refine wpAny_bind (wpAny_runValue ?_)
 have hlS:l < s.heap.objs.size:=qk hol
 have hh3:A.in1.in1.in1.handled=none:=by simp[hh]
 have hneI:l≠(s.heap.push (emS w)).objs.size:=by
  rw[Heap.size_push];exact ql (qu hlS)
 have hSf:s.heap.objs.size∉[(s.heap.push (emS w)).objs.size,l]:=by
  rw[Heap.size_push];simp only[List.mem_cons,List.mem_singleton,List.not_mem_nil,or_false,not_or]
  exact⟨ql (qx _),Nat.ne_of_gt hlS⟩
 have hlen:ms.length=items.size:=by have:=IntsAre.length hi;rw[qi]at this;exact this.symm
 have hval:∀(i:Nat) (v:Value),items[i]?=some v->∃t,v=.int (ms.getD i 0) t:=fun i v hv=>
  IntsAre.int_at hi i v (by rw[Array.getElem?_toList];exact hv)
 refine Ymy ((Walks.tuple hh3 _ l hneI items).toS) s.heap.objs.size hSf ms hlen hval hb (items.size - 0) 0 _ [] (by lia) (Nat.zero_le _)
  ⟨⟨_,qo _ rfl,rfl,rfl⟩,(⟨_,qd _ hol',rfl,nl,rfl⟩)⟩ (qs _) ?hS0 ?hR
 case hS0=>
  have hget:((s.heap.push (emS w)).push { cls:=.type "tuple_iterator",data:=.fields #[.ref l,.int 0 0] }).get? s.heap.objs.size=some (emS w):=qd _ hS
  exact⟨emS w,#[],0,_,hget,⟨rfl,rfl,rfl⟩,rfl,fun e he=>by simp at he,rfl,.nil,by decide,rfl,.fresh⟩
 case hR=>
  intro s' ns' hm hS' hp'
  obtain⟨h',g',d',tk',os'⟩:=s'
  have eg:g'=s.gens:=hm.gens
  have ed:d'=s.drawn:=hm.drawn
  have eo:os'=s.os:=hm.os
  subst eg;subst ed;subst eo
  show wpAny _ _ _ _ _ _
  refine wpAny_pure ?_
  show wpAny _ _ (ret Value.none) _ _ _
  refine wpAny_pure ⟨rfl,h h' tk' ns' hS' hp' fun b o hb e=>?_⟩
  have hb1:b≠s.heap.objs.size:=ql hb
  have hb2:b≠(s.heap.push (emS w)).objs.size:=by
   rw[Heap.size_push];exact ql (qu hb)
  exact hm.heap b o (by simp only[List.mem_cons,List.mem_singleton,List.not_mem_nil,or_false,not_or];exact⟨hb1,hb2⟩) (qd _ (qd _ e))
end
end
section
theorem Yil{α:Type}{l:List α}{i:Nat}(h:i < l.length):(l[i]::l.eraseIdx i).Perm l:=by
 rw[List.eraseIdx_eq_take_drop_succ]
 have e:l=l.take i++l[i]::l.drop (i+1):=by
  rw[<-List.drop_eq_getElem_cons h,List.take_append_drop]
 conv=>rhs;rw[e]
 exact List.perm_middle.symm
theorem Ypi{α:Type}(next:Nat->Nat):∀(fuel k:Nat) (left:List α) (out:Array α),left.length=fuel->(pickOrder.go next fuel k left out).toList.Perm (out.toList++left)
 | 0,k,left,out,h=>by
   rw[pickOrder.go]
   rw[List.length_eq_zero_iff.mp h,List.append_nil]
 | fuel+1,k,left,out,h=>by
   rw[pickOrder.go]
   have hlt:next k % left.length < left.length:=Nat.mod_lt _ (by lia)
   rw[qp hlt]
   dsimp only
   refine(Ypi next fuel (k+1) _ _ (by rw[List.length_eraseIdx_of_lt hlt];lia)).trans ?_
   rw[Array.toList_push,List.append_assoc]
   exact(Yil hlt).append_left _
theorem Ypj{α:Type}(next:Nat->Nat)(xs:Array α):(pickOrder next xs).toList.Perm xs.toList:=by
 have:=Ypi next xs.size 0 xs.toList #[] (by simp)
 simpa [pickOrder]using this
section
variable {prog:Program} {w:World} {A:Around} {E:Value->Shared->Prop}
theorem Yn5{src:Source}{n:Nat}{Q:Nat->Shared->Prop}{s:Shared}(hn:0 < n)(h:∀i d',i < n->Q i { s with drawn:=d' }):wpAny (model prog w) A (choose src n) Q E s:=by
 intro Γ p hΓ
 unfold choose
 rw[Sem.wp_choose]
 refine⟨by lia,?_⟩
 rw[Sem.wp_pure]
 exact h _ _ (Nat.mod_lt _ hn)
theorem Yim{α:Type}:∀(n:Nat) (xs:List α) (s:Shared) (Q:List α->Shared->Prop),xs.length=n->(∀ys d',ys.Perm xs->Q ys { s with drawn:=d' })->wpAny (model prog w) A (drawOrder n xs) Q E s
 | 0,xs,s,Q,h,hQ=>by
   rw[List.length_eq_zero_iff.mp h]at hQ ⊢
   show wpAny _ _ (pure _) _ _ _
   exact wpAny_pure (hQ [] s.drawn .nil)
 | n+1,[],s,Q,h,hQ=>by simp at h
 | n+1,x::xs,s,Q,h,hQ=>by
   show wpAny _ _ (_ >>= _) _ _ _
   refine wpAny_bind (Yn5 (by simp) fun i d' hi=>?_)
   rw[qp hi]
   dsimp only
   refine wpAny_bind (Yim n _ _ _ (by rw[List.length_eraseIdx_of_lt hi];lia) fun ys d2 hp=>?_)
   refine wpAny_pure (hQ _ d2 ((hp.cons _).trans ?_))
   exact Yil hi
end
end
section
set_option maxRecDepth 100000
theorem Ymz:Manifest.owners.lookup (String.ofList ['r','o','t','a','r','e','t','i','_','t','e','s'].reverse)=some Manifest.sig_set_iterator:=by kernel_rfl
theorem slot_si_next:Slot "set_iterator" "__next__" "set_iterator.__next__":=
 .of (owner:="set_iterator") (n:="__next__") (by rw[typeLookup_type,builtinLookup_eq_fast];kernel_rfl) (by decide +kernel) (by decide +kernel) (by decide +kernel)
  (by first | exact .inl (by decide +kernel) | exact .inr (by decide +kernel)) (by rw[isSubtype_type];kernel_rfl)
theorem Ycb:entryFor table "set_iterator.__next__"=some Builtin.«set_iterator.__next__»:=entryFor_of_tree (by kernel_rfl)
theorem Ycr(a:Value):argsOk "set_iterator.__next__" ⟨[a],[]⟩:=by
 unfold argsOk;rw[signature?_of (id:="set_iterator.__next__") (n:=['_','_','t','x','e','n','_','_']) (o:=['r','o','t','a','r','e','t','i','_','t','e','s']) (by kernel_rfl) Ymz];kernel_rfl
theorem Yge:Slot "set_iterator" "__iter__" "set_iterator.__iter__":=
 .of (owner:="set_iterator") (n:="__iter__") (by rw[typeLookup_type,builtinLookup_eq_fast];kernel_rfl) (by decide +kernel) (by decide +kernel) (by decide +kernel)
  (by first | exact .inl (by decide +kernel) | exact .inr (by decide +kernel)) (by rw[isSubtype_type];kernel_rfl)
theorem Ykq(a:Value):argsOk "set_iterator.__iter__" ⟨[a],[]⟩:=by
 unfold argsOk;rw[signature?_of (id:="set_iterator.__iter__") (n:=['_','_','r','e','t','i','_','_']) (o:=['r','o','t','a','r','e','t','i','_','t','e','s']) (by kernel_rfl) Ymz];kernel_rfl
theorem Yjc:entryFor table "set_iterator.__iter__"=some Builtin.«dict_keyiterator.__iter__»:=
 entryFor_alias (id':="dict_keyiterator.__iter__") (by kernel_rfl) (by first | rfl | decide +kernel | (unfold String.splitOn;simp +decide [String.splitOnAux])) (by decide +kernel) (by kernel_rfl)
theorem Yh2:entryFor table "set.__iter__"=some Builtin.«frozenset.__iter__»:=
 entryFor_alias (id':="frozenset.__iter__") (by kernel_rfl) (by first | rfl | decide +kernel | (unfold String.splitOn;simp +decide [String.splitOnAux])) (by decide +kernel) (by kernel_rfl)
def SIt(h:Heap)(I:Addr)(first:Value)(i:Nat)(a:Addr)(n ep:Nat):Prop:=∃o,h.get? I=some o/\o.cls=.type "set_iterator"/\o.data=.fields #[first,.int i 0,.ref a,.int n 0,.int ep 0]
def SAt(h:Heap)(a:Addr)(es:Array (Int × Value))(ep:Nat)(t:SetTable):Prop:=∃o,h.get? a=some o/\o.ExactSet/\o.data=.set es ep t/\t.fits es.size=true
theorem SIt.at{h h':Heap}{I a:Addr}{f:Value}{i n ep:Nat}(x:SIt h I f i a n ep)(e:∀o,h.get? I=some o->h'.get? I=some o):SIt h' I f i a n ep:=let ⟨o,ho,r⟩:=x;⟨o,e o ho,r⟩
theorem SAt.at{h h':Heap}{a:Addr}{es:Array (Int × Value)}{ep:Nat}{t:SetTable}(x:SAt h a es ep t)(e:∀o,h.get? a=some o->h'.get? a=some o):SAt h' a es ep t:=let ⟨o,ho,r⟩:=x;⟨o,e o ho,r⟩
theorem SIt.typeIs{s:Shared}{I a:Addr}{f:Value}{i n ep:Nat}(x:SIt s.heap I f i a n ep):s.TypeIs (.ref I) "set_iterator":=let ⟨o,ho,hc,_⟩:=x;⟨o,ho,hc⟩
section
variable {prog:Program} {w:World} {A:Around} {E:Value->Shared->Prop} {s:Shared}
theorem Ypk{I a:Addr}{f:Value}{i n ep:Nat}{Q:Value->Shared->Prop}(hit:SIt s.heap I f i a n ep)(h:Q (.ref I) s):wpAny (model prog w) A (pyIter (.ref I)) Q E s:=by
 refine wpAny_pyIter_slot hit.typeIs Yge (wpAny_call_entry Yge hit.typeIs Yjc ?_ (Ykq _))
 show wpAny _ _ (ret (.ref I)) _ _ s
 exact wpAny_pure ⟨_,rfl,"set_iterator",_,hit.typeIs,slot_si_next.lookup,h⟩
theorem Yul{I a:Addr}{sl i ep nx:Nat}{es:Array (Int × Value)}{t:SetTable}{x:Value}{Q:Option Value->Shared->Prop}(hit:SIt s.heap I (.int sl 0) i a es.size ep)(ha:SAt s.heap a es ep t)
 (hn:∀(A':Around) (Q':Option (Value × Nat)->Shared->Prop) (E':Value->Shared->Prop),Q' (some (x,nx)) s->wpAny (model prog w) A' (setNext a sl i ep) Q' E' s)
 (hQ:∀h',SIt h' I (.int nx 0) (i+1) a es.size ep->Heap.SameBut I s.heap h'->Q (some x) { s with heap:=h' }):wpAny (model prog w) A (pyNext (.ref I)) Q E s:=by
 obtain⟨o,ho,hc,hd⟩:=id hit
 obtain⟨oa,hoa,hexa,hda,hfa⟩:=ha
 unfold pyNext
 refine wpAny_bind (wpAny_attempt (wpAny_callSpecial?_slot (name:=Str.ofString "__next__") hit.typeIs slot_si_next (wpAny_call_entry slot_si_next hit.typeIs Ycb ?_ (Ycr _))))
 show wpAny _ _ (fieldsOf (.ref I) >>= _) _ _ s
 refine wpAny_bind (wpAny_fieldsOf ho hd ?_)
 show wpAny _ _ (setEntries a >>= _) _ _ s
 refine wpAny_bind (wpAny_setEntries_of hoa hda hfa ?_)
 rw[if_neg (by simp)]
 show wpAny _ _ (setNext a sl i ep >>= _) _ _ s
 refine wpAny_bind (hn _ _ _ ?_)
 show wpAny _ _ (setField (.ref I) 0 (rawInt nx) >>= _) _ _ s
 refine wpAny_bind (wpAny_setField ho hd (by simp) ?_)
 have ho1:=Heap.get?_update_self (Obj.mapFields (·.setIfInBounds 0 (rawInt nx))) ho (Obj.isFreed_of_fields (Obj.data_mapFields hd _))
 have hd1:=Obj.data_mapFields hd (·.setIfInBounds 0 (rawInt nx))
 show wpAny _ _ (setField (.ref I) 1 (rawInt (i+1)) >>= _) _ _ _
 refine wpAny_bind (wpAny_setField (s:={ s with heap:=s.heap.update I (Obj.mapFields (·.setIfInBounds 0 (rawInt nx))) }) ho1 hd1 (by simp) (wpAny_pure ⟨x,rfl,wpAny_pure (hQ _ ?_ ((Heap.SameBut.update ..).trans (Heap.SameBut.update ..)))⟩))
 exact⟨_,Heap.get?_update_self _ ho1 (Obj.isFreed_of_fields (Obj.data_mapFields hd1 _)),(Obj.cls_mapFields ..).trans ((Obj.cls_mapFields ..).trans hc),by
  rw[Obj.data_mapFields hd1];simp[rawInt]⟩
theorem Yum{I a:Addr}{sl i ep:Nat}{es:Array (Int × Value)}{t:SetTable}{Q:Option Value->Shared->Prop}(hh:A.handled=none)(hit:SIt s.heap I (.int sl 0) i a es.size ep)(ha:SAt s.heap a es ep t)
 (hn:∀(A':Around) (Q':Option (Value × Nat)->Shared->Prop) (E':Value->Shared->Prop),Q' none s->wpAny (model prog w) A' (setNext a sl i ep) Q' E' s)
 (hQ:∀h',Heap.ExtBut I s.heap h'->Q none { s with heap:=h' }):wpAny (model prog w) A (pyNext (.ref I)) Q E s:=by
 obtain⟨o,ho,hc,hd⟩:=id hit
 obtain⟨oa,hoa,hexa,hda,hfa⟩:=ha
 unfold pyNext
 refine wpAny_bind (wpAny_attempt (wpAny_callSpecial?_slot (name:=Str.ofString "__next__") hit.typeIs slot_si_next (wpAny_call_entry slot_si_next hit.typeIs Ycb ?_ (Ycr _))))
 show wpAny _ _ (fieldsOf (.ref I) >>= _) _ _ s
 refine wpAny_bind (wpAny_fieldsOf ho hd ?_)
 show wpAny _ _ (setEntries a >>= _) _ _ s
 refine wpAny_bind (wpAny_setEntries_of hoa hda hfa ?_)
 rw[if_neg (by simp)]
 show wpAny _ _ (setNext a sl i ep >>= _) _ _ s
 refine wpAny_bind (hn _ _ _ ?_)
 show wpAny _ _ (setField (.ref I) 2 .none >>= _) _ _ s
 refine wpAny_bind (wpAny_setField ho hd (by simp) ?_)
 show wpAny _ _ (newExc (.type "StopIteration") [] >>= _) _ _ _
 refine wpAny_bind ?_
 simp only[newExc,newTuple]
 refine wpAny_bind (wpAny_newObj_type ?_ (by size_fits))
 refine wpAny_bind (m:=firstArgMember _ _) (wpAny_of_eq (a:=Value.none) (by first | rfl | (simp only[firstArgMember];rfl)) ?_)
 refine wpAny_newObj_type ?_ (by size_fits)
 simp only[raiseNew]
 refine wpAny_bind (wpAny_handled ?_)
 first | rw[show A.in1.handled=none from hh] | rw[hh]
 refine wpAny_bind (wpAny_pure (wpAny_throw ?_))
 refine wpAny_bind (wpAny_isInstance (T:="StopIteration") (b:=true) ⟨_,qo _ rfl,rfl⟩ isSubtype_stop ?_)
 exact wpAny_pure (hQ _ (((Heap.SameBut.update ..).extBut.push _).push _))
theorem Yrw{I a T:Addr}{i j ep:Nat}{pl:Array Value}{tk:Tok}{es:Array (Int × Value)}{t:SetTable}{e:Int × Value}{Q:Option Value->Shared->Prop}(hit:SIt s.heap I (.ref T) i a es.size ep)(ha:SAt s.heap a es ep t)
 (hT:s.heap.IsTuple T pl) (hp:pl[i]?=some (.int j tk)) (he:es[j]?=some e)
 (hQ:∀h',SIt h' I (.ref T) (i+1) a es.size ep->Heap.SameBut I s.heap h'->Q (some e.2) { s with heap:=h' }):wpAny (model prog w) A (pyNext (.ref I)) Q E s:=by
 obtain⟨o,ho,hc,hd⟩:=id hit
 obtain⟨oa,hoa,hexa,hda,hfa⟩:=ha
 obtain⟨ot,hot,_,nt,hdt⟩:=hT
 unfold pyNext
 refine wpAny_bind (wpAny_attempt (wpAny_callSpecial?_slot (name:=Str.ofString "__next__") hit.typeIs slot_si_next (wpAny_call_entry slot_si_next hit.typeIs Ycb ?_ (Ycr _))))
 show wpAny _ _ (fieldsOf (.ref I) >>= _) _ _ s
 refine wpAny_bind (wpAny_fieldsOf ho hd ?_)
 show wpAny _ _ (setEntries a >>= _) _ _ s
 refine wpAny_bind (wpAny_setEntries_of hoa hda hfa ?_)
 rw[if_neg (by simp)]
 show wpAny _ _ (seqItems? (.ref T) >>= _) _ _ s
 refine wpAny_bind (wpAny_seqItems hot hdt ?_)
 simp only[Int.toNat_natCast,hp]
 show wpAny _ _ (setNextDrawn a j ep >>= _) _ _ s
 refine wpAny_bind ?_
 unfold setNextDrawn
 refine wpAny_bind (wpAny_setState_of hoa hda hfa ?_)
 dsimp only
 rw[if_neg (by simp)]
 show wpAny _ _ (match es[j]? with | some (_,x)=>pure x | _=>unsupported "internal:set_iterator") _ _ s
 rw[he]
 refine wpAny_pure ?_
 show wpAny _ _ (setField (.ref I) 1 (rawInt (i+1)) >>= _) _ _ _
 refine wpAny_bind (wpAny_setField ho hd (by simp) (wpAny_pure ⟨e.2,rfl,wpAny_pure (hQ _ ?_ (Heap.SameBut.update ..))⟩))
 exact⟨_,Heap.get?_update_self _ ho (Obj.isFreed_of_fields (Obj.data_mapFields hd _)),(Obj.cls_mapFields ..).trans hc,by
  rw[Obj.data_mapFields hd];simp[rawInt]⟩
theorem Yrx{I a T:Addr}{i ep:Nat}{pl:Array Value}{es:Array (Int × Value)}{t:SetTable}{Q:Option Value->Shared->Prop}(hh:A.handled=none)(hit:SIt s.heap I (.ref T) i a es.size ep)(ha:SAt s.heap a es ep t)
 (hT:s.heap.IsTuple T pl) (hp:pl[i]?=none) (hQ:∀h',Heap.ExtBut I s.heap h'->Q none { s with heap:=h' }):wpAny (model prog w) A (pyNext (.ref I)) Q E s:=by
 obtain⟨o,ho,hc,hd⟩:=id hit
 obtain⟨oa,hoa,hexa,hda,hfa⟩:=ha
 obtain⟨ot,hot,_,nt,hdt⟩:=hT
 unfold pyNext
 refine wpAny_bind (wpAny_attempt (wpAny_callSpecial?_slot (name:=Str.ofString "__next__") hit.typeIs slot_si_next (wpAny_call_entry slot_si_next hit.typeIs Ycb ?_ (Ycr _))))
 show wpAny _ _ (fieldsOf (.ref I) >>= _) _ _ s
 refine wpAny_bind (wpAny_fieldsOf ho hd ?_)
 show wpAny _ _ (setEntries a >>= _) _ _ s
 refine wpAny_bind (wpAny_setEntries_of hoa hda hfa ?_)
 rw[if_neg (by simp)]
 show wpAny _ _ (seqItems? (.ref T) >>= _) _ _ s
 refine wpAny_bind (wpAny_seqItems hot hdt ?_)
 simp only[Int.toNat_natCast,hp]
 show wpAny _ _ (setField (.ref I) 0 (rawInt 0) >>= _) _ _ s
 refine wpAny_bind (wpAny_setField ho hd (by simp) ?_)
 have ho1:=Heap.get?_update_self (Obj.mapFields (·.setIfInBounds 0 (rawInt 0))) ho (Obj.isFreed_of_fields (Obj.data_mapFields hd _))
 have hd1:=Obj.data_mapFields hd (·.setIfInBounds 0 (rawInt 0))
 show wpAny _ _ (setField (.ref I) 2 .none >>= _) _ _ _
 refine wpAny_bind (wpAny_setField (s:={ s with heap:=s.heap.update I (Obj.mapFields (·.setIfInBounds 0 (rawInt 0))) }) ho1 hd1 (by simp) ?_)
 show wpAny _ _ (newExc (.type "StopIteration") [] >>= _) _ _ _
 refine wpAny_bind ?_
 simp only[newExc,newTuple]
 refine wpAny_bind (wpAny_newObj_type ?_ (by size_fits))
 refine wpAny_bind (m:=firstArgMember _ _) (wpAny_of_eq (a:=Value.none) (by first | rfl | (simp only[firstArgMember];rfl)) ?_)
 refine wpAny_newObj_type ?_ (by size_fits)
 simp only[raiseNew]
 refine wpAny_bind (wpAny_handled ?_)
 first | rw[show A.in1.handled=none from hh] | rw[hh]
 refine wpAny_bind (wpAny_pure (wpAny_throw ?_))
 refine wpAny_bind (wpAny_isInstance (T:="StopIteration") (b:=true) ⟨_,qo _ rfl,rfl⟩ isSubtype_stop ?_)
 exact wpAny_pure (hQ _ ((((Heap.SameBut.update ..).trans (Heap.SameBut.update ..)).extBut.push _).push _))
end
end
section
set_option maxRecDepth 100000
section
variable {prog:Program} {w:World} {A:Around} {E:Value->Shared->Prop} {s:Shared}
theorem Ye7{Q:Bool->Shared->Prop}(h:Q (byT w) s):wpAny (model prog w) A setsByText Q E s:=by
 unfold setsByText
 exact wpAny_bind (wpAny_askSetting (wpAny_pure h))
theorem Ykr{a:Addr}{es:Array (Int × Value)}{ep sl i:Nat}{t:SetTable}(hb:byT w=true)(ha:SAt s.heap a es ep t){Q:Option (Value × Nat)->Shared->Prop}
 (h:Q (((pickOrder (w.params.setOrder a ep) es)[i]?).map fun e=>(e.2,sl)) s):wpAny (model prog w) A (setNext a sl i ep) Q E s:=by
 obtain⟨oa,hoa,hexa,hda,hfa⟩:=ha
 unfold setNext
 refine wpAny_bind (wpAny_setState_of hoa hda hfa ?_)
 dsimp only
 refine wpAny_bind (Ye7 ?_)
 rw[if_pos hb,if_neg (by simp)]
 refine wpAny_bind (m:=setWalk a) ?_
 unfold setWalk
 refine wpAny_bind (wpAny_setState_of hoa hda hfa ?_)
 dsimp only
 refine wpAny_bind (Ye7 ?_)
 rw[if_pos hb]
 refine wpAny_bind (wpAny_askSetting (wpAny_pure ?_))
 exact wpAny_pure h
theorem Yks{a:Addr}{es:Array (Int × Value)}{ep sl i g:Nat}{t:SetTable}(hb:byT w=false)(hd:(!t.plain&&decide (es.size > 1))=false)(hl:t.led=true)(ha:SAt s.heap a es ep t){Q:Option (Value × Nat)->Shared->Prop}
 (hp:SetTable.below t.place sl=i) (h:Q (match es[i]?,t.place[i]? with | some (_,x),some j=>some (x,j+1) | _,_=>none) s):wpAny (model prog w) A (setNext a sl g ep) Q E s:=by
 obtain⟨oa,hoa,hexa,hda,hfa⟩:=ha
 unfold setNext
 refine wpAny_bind (wpAny_setState_of hoa hda hfa ?_)
 dsimp only
 refine wpAny_bind (Ye7 ?_)
 rw[if_neg (by rw[hb];exact qh)]
 show wpAny _ _ (if (!t.plain&&decide (es.size > 1))=true then _ else _) _ _ _
 rw[if_neg (show ¬((!t.plain&&decide (es.size > 1))=true) by rw[hd];exact qh)]
 show wpAny _ _ ((if (!t.led&&!es.isEmpty)=true then unsupported "set:maker-not-led" else pure ()) >>= _) _ _ _
 rw[if_neg (by rw[hl];simp)]
 refine wpAny_bind (wpAny_pure ?_)
 rw[hp]
 exact wpAny_pure h
def Yej(pl:Array Nat):Nat->Nat
 | 0=>0
 | i+1=>pl.getD i 0+1
theorem Ym0{pl:Array Nat}(hr:Rise pl){i:Nat}(hi:i<=pl.size):SetTable.below pl (Yej pl i)=i:=by
 obtain⟨h1,h2,h3⟩:=Yik hr (Yej pl i)
 generalize hp:SetTable.below pl (Yej pl i)=p at h1 h2 h3
 have mono:∀(i k:Nat) (hi:i < pl.size) (hk:k < pl.size),i < k->pl[i] < pl[k]:=fun i k hi hk h=>by
  have:=List.pairwise_iff_getElem.mp hr i k (by simpa using hi) (by simpa using hk) h
  simpa using this
 have e1:∀k (hk:k < pl.size),k < p->pl[k] < Yej pl i:=fun k hk hkp=>h2 _ (by
  rw[List.mem_iff_getElem]
  exact⟨k,by simp;lia,by simp⟩)
 have e2:∀k (hk:k < pl.size),p<=k->Yej pl i<=pl[k]:=fun k hk hkp=>h3 _ (by
  rw[List.mem_iff_getElem]
  exact⟨k - p,by simp;lia,by
   rw[List.getElem_drop,Array.getElem_toList]
   congr 1
   lia⟩)
 rcases Nat.lt_trichotomy p i with h | h | h
 ·have hk:p < pl.size:=by lia
  have:=e2 p hk (qs _)
  cases i with
  | zero=>lia
  | succ j=>
    have hj:j < pl.size:=by lia
    simp only[Yej,Array.getD,hj,dite_true]at this
    by_cases e:p=j
    ·subst e;exact absurd this (by simp)
    ·have:=mono p j hk hj (by lia)
     simp at *
     lia
 ·exact h
 ·have hk:i < pl.size:=by lia
  have:=e1 i hk h
  cases i with
  | zero=>simp[Yej]at this
  | succ j=>
    have hj:j < pl.size:=by lia
    have h':=mono j (j+1) hj hk (by lia)
    simp only[Yej,Array.getD,hj,dite_true]at this
    simp at *
    lia
def PInt(vals:List Int)(i:Nat)(v:Value):Prop:=∃k t,vals[i]?=some k/\v=.int k t
theorem Yg3{es:Array (Int × Value)}(hel:ElemsOf (intKind prog w) es.toList){e:Int × Value}(he:e∈es.toList):∃t,e.2=.int (kOf e) t:=by
 obtain⟨t,ht⟩:=Ymw hel he
 exact⟨t,by rw[ht];simp[kOf]⟩
theorem Yry{a:Addr}{ns:List Int}(hS:SetI prog w s.heap a ns){Q:Value->Shared->Prop}
 (hQ:∀(h':Heap) (d':Drawn) (I:Addr) (fp:List Addr) (vals:List Int) (St:Nat->Heap->Prop),(∀b o,s.heap.get? b=some o->h'.get? b=some o)->s.heap.objs.size<=I->I∈fp->
  (∀b∈fp,b < h'.objs.size/\(b=a\/s.heap.objs.size<=b))->vals.Perm ns->(∀A':Around,A'.handled=none->Walks prog w A' I fp [I] ns.length (PInt vals) St)->St 0 h'->
  (∀(i:Nat) (s':Shared),St i s'.heap->s'.TypeIs (.ref I) "set_iterator")->Q (.ref I) { s with heap:=h',drawn:=d' }) :
 wpAny (model prog w) A (pyIter (.ref a)) Q E s:=by
 obtain⟨o,es,ep,t,ho,hex,hd,hel,hns,hnd,hb,hf,ht⟩:=hS
 have hT:s.TypeIs (.ref a) "set":=⟨o,ho,hex.1⟩
 have hlen:ns.length=es.size:=by rw[<-hns,qe,qi]
 have hlt:a < s.heap.objs.size:=qk ho
 have hsa:SAt s.heap a es ep t:=⟨o,ho,hex,hd,hf⟩
 have hps:t.place.size=es.size:=by
  simp only[SetTable.fits,Bool.and_eq_true,beq_iff_eq]at hf
  exact hf.1
 refine wpAny_pyIter_slot hT F.slot_set_iter (wpAny_call_entry F.slot_set_iter hT Yh2 ?_ (F.args_set_iter_1 _))
 unfold Builtin.«frozenset.__iter__»
 show wpAny _ _ (Builtin.Frozenset.sizeOf a >>= _) _ _ s
 unfold Builtin.Frozenset.sizeOf
 refine wpAny_bind (wpAny_bind (wpAny_setEntries_of ho hd hf (wpAny_pure ?_)))
 refine wpAny_bind ?_
 unfold setDrawn
 refine wpAny_bind (wpAny_setState_of ho hd hf ?_)
 dsimp only
 refine wpAny_bind (Ye7 (wpAny_pure ?_))
 have plain:∀(vals:List Int) (st:Nat->Nat) (xv:Nat->Value),vals.Perm ns->st 0=0->(∀i,i < es.size->PInt vals i (xv i))->
  (∀(s':Shared) (A':Around) (i:Nat) (E':Value->Shared->Prop),SAt s'.heap a es ep t->i < es.size->∀Q':Option (Value × Nat)->Shared->Prop,Q' (some (xv i,st (i+1))) s'->wpAny (model prog w) A' (setNext a (st i) i ep) Q' E' s')->
  (∀(s':Shared) (A':Around) (E':Value->Shared->Prop),SAt s'.heap a es ep t->∀Q':Option (Value × Nat)->Shared->Prop,Q' none s'->wpAny (model prog w) A' (setNext a (st es.size) es.size ep) Q' E' s')->
  wpAny (model prog w) A.in1 (do
   let x <-newFields "set_iterator" [rawInt 0,rawInt 0,.ref a,rawInt es.size,rawInt (<-setEpoch a)]
   ret x) (fun fin s'=>∃v,fin=.done (.ret v)/\∃T' r,s'.TypeIs v T'/\typeLookup (.type T') "__next__"=pure (some r)/\Q v s') E s:=by
  intro vals st xv hp h0 hx hi hn
  refine wpAny_bind (wpAny_setEpoch_of ho hd hf ?_)
  refine wpAny_bind (wpAny_newObj_type ?_)
  refine wpAny_pure ⟨_,rfl,"set_iterator",_,⟨_,qo _ rfl,rfl⟩,slot_si_next.lookup,?_⟩
  have key:=hQ (s.heap.push { cls:=.type "set_iterator",data:=.fields #[rawInt 0,rawInt 0,.ref a,rawInt es.size,rawInt ep] }) s.drawn s.heap.objs.size [s.heap.objs.size,a] vals
   (fun i h=>SIt h s.heap.objs.size (.int (st i) 0) i a es.size ep/\SAt h a es ep t) (fun b o e=>qd _ e) (qs _) (by simp) (fun b hb=>by
    rw[Heap.size_push]
    rcases qr hb with rfl | hb
    ·exact⟨qx _,.inr (qs _)⟩
    ·rw[List.mem_singleton]at hb
     subst hb
     exact⟨qu hlt,.inl rfl⟩) hp (fun A' hA'=>{
    sub:=fun b hb=>by simp at hb;simp[hb]
    frame:=fun i h h' st' hk=>⟨st'.1.at fun o e=>hk _ (by simp) o e,st'.2.at fun o e=>hk a (by simp) o e⟩
    item:=fun i s' Q' E' hlt' st' hQ'=>by
     refine Yul st'.1 st'.2 (x:=xv i) (nx:=st (i+1)) (fun A2 Q2 E2 hq=>hi s' A2 i E2 st'.2 (by lia) Q2 hq) fun h' hit' hs'=>?_
     exact hQ' _ h' s'.toks (hx i (by lia)) ⟨hit',st'.2.at fun o e=>hs'.extBut a o (fun z=>by subst z;exact absurd hlt (Nat.lt_irrefl _)) e⟩ fun b o hb e=>hs'.extBut b o (fun z=>hb (by simp[z])) e
    done:=fun s' Q' E' st' hQ'=>by
     rw[hlen]at st'
     exact Yum hA' st'.1 st'.2 (fun A2 Q2 E2 hq=>hn s' A2 E2 st'.2 Q2 hq) fun h' he'=>hQ' h' s'.toks fun b o hb e=>he' b o (fun z=>hb (by simp[z])) e
    self:=fun i s' Q' E' st' hQ'=>Ypk st'.1 hQ' }) ⟨⟨_,qo _ rfl,rfl,by rw[h0];rfl⟩,hsa.at fun o e=>qd _ e⟩ (fun i s' st'=>st'.1.typeIs)
  exact key
 have hdr:∀b:Bool,(!t.plain&&decide (es.size > 1))=b->wpAny (model prog w) A.in1 (if (!byT w&&b)=true then do
  let first <-newTuple ((<-drawOrder es.size (List.range es.size)).map fun(i:Nat)=>rawInt i)
  let x <-newFields "set_iterator" [first,rawInt 0,.ref a,rawInt es.size,rawInt (<-setEpoch a)]
  ret x
  else do
   let x <-newFields "set_iterator" [rawInt 0,rawInt 0,.ref a,rawInt es.size,rawInt (<-setEpoch a)]
   ret x) (fun fin s'=>∃v,fin=.done (.ret v)/\∃T' r,s'.TypeIs v T'/\typeLookup (.type T') "__next__"=pure (some r)/\Q v s') E s:=by
  intro b hbd
  cases hbt:byT w with
  | true=>
    rw[if_neg (by simp)]
    generalize hor:pickOrder (w.params.setOrder a ep) es=ord
    have hpm:ord.toList.Perm es.toList:=by rw[<-hor];exact Ypj _ _
    have hos:ord.size=es.size:=by
     have:=hpm.length_eq
     simpa using this
    refine plain (ord.toList.map kOf) (fun _=>0) (fun i=>(ord.getD i (0,.none)).2) (by rw[<-hns];exact hpm.map kOf) rfl (fun i hi=>?_) (fun s' A' i E' ha hi Q' hq=>?_) (fun s' A' E' ha Q' hq=>?_)
    ·have hi':i < ord.size:=by lia
     obtain⟨u,hu⟩:=Yg3 hel (hpm.mem_iff.mp (show ord[i]∈ord.toList by simp))
     refine⟨kOf ord[i],u,by simp[hi'],?_⟩
     simp only[Array.getD,hi',dite_true]
     exact hu
    ·have hi':i < ord.size:=by lia
     refine Ykr hbt ha ?_
     rw[hor,Array.getElem?_eq_getElem hi']
     simp only[Array.getD,hi',dite_true]at hq
     exact hq
    ·refine Ykr hbt ha ?_
     rw[hor,Array.getElem?_eq_none (by lia)]
     exact hq
  | false=>
    have hled:=ht.1 hbt
    cases b with
    | false=>
      rw[if_neg (by simp)]
      have hrise:Rise t.place:=by
       cases hpl:t.plain with
       | true=>exact ht.2 hpl
       | false=>
         rw[hpl]at hbd
         have h1:t.place.toList.length<=1:=by
          simp at hbd
          rw[qi]
          lia
         unfold Rise
         match t.place.toList,h1 with
         | [],_=>exact .nil
         | [x],_=>simp
      refine plain ns (Yej t.place) (fun i=>(es.getD i (0,.none)).2) .rfl rfl (fun i hi=>?_) (fun s' A' i E' ha hi Q' hq=>?_) (fun s' A' E' ha Q' hq=>?_)
      ·obtain⟨u,hu⟩:=Yg3 hel (show es[i]∈es.toList by simp)
       refine⟨kOf es[i],u,by rw[<-hns];simp[hi],?_⟩
       simp only[Array.getD,hi,dite_true]
       exact hu
      ·refine Yks hbt hbd hled ha (Ym0 hrise (by lia)) ?_
       have hi2:i < t.place.size:=by lia
       rw[Array.getElem?_eq_getElem hi,Array.getElem?_eq_getElem hi2]
       simp only[Array.getD,hi,hi2,dite_true,Yej]at hq
       exact hq
      ·refine Yks hbt hbd hled ha (Ym0 hrise (by lia)) ?_
       rw[Array.getElem?_eq_none (qs _)]
       exact hq
    | true=>
      rw[if_pos (by simp)]
      refine wpAny_bind (Yim es.size (List.range es.size) s _ (by simp) fun ys d' hp=>?_)
      simp only[newTuple]
      have hyl:ys.length=es.size:=by rw[hp.length_eq];simp
      refine wpAny_bind (wpAny_newObj_type ?_ (by show(ys.map fun(i:Nat)=>rawInt i).toArray.size<=sizeLine;rw[qj,qe,hyl];exact fits_of_scanBound hb))
      have ho1:((s.heap.push { cls:=.type "tuple",data:=.seq (ys.map fun(i:Nat)=>rawInt i).toArray })).get? a=some o:=qd _ ho
      refine wpAny_bind (wpAny_setEpoch_of (s:={ s with heap:=s.heap.push { cls:=.type "tuple",data:=.seq (ys.map fun(i:Nat)=>rawInt i).toArray },drawn:=d' }) ho1 hd hf ?_)
      refine wpAny_bind (wpAny_newObj_type ?_)
      refine wpAny_pure ⟨_,rfl,"set_iterator",_,⟨_,qo _ rfl,rfl⟩,slot_si_next.lookup,?_⟩
      have hmem:∀j∈ys,j < es.size:=fun j hj=>by simpa using hp.mem_iff.mp hj
      have hvp:(ys.map fun j=>kOf (es.getD j (0,.none))).Perm ns:=by
       rw[<-hns]
       refine(hp.map _).trans ?_
       have:(List.range es.size).map (fun j=>kOf (es.getD j (0,.none)))=es.toList.map kOf:=by
        refine List.ext_getElem (by simp) fun i h1 h2=>?_
        have hi:i < es.size:=by simpa using h1
        simp[Array.getD,hi]
       rw[this]
      generalize hH:s.heap.push { cls:=.type "tuple",data:=.seq (ys.map fun(i:Nat)=>rawInt i).toArray }=H at ho1 ⊢
      have hHs:H.objs.size=s.heap.objs.size+1:=by rw[<-hH,Heap.size_push]
      have hT0:H.IsTuple s.heap.objs.size (ys.map fun(i:Nat)=>rawInt i).toArray:=⟨_,by rw[<-hH];exact qo _ rfl,rfl,_,rfl⟩
      have keepH:∀b o,s.heap.get? b=some o->H.get? b=some o:=fun b o e=>by rw[<-hH];exact qd _ e
      have haI:a≠H.objs.size:=fun z=>by rw[z,hHs]at hlt;exact absurd hlt (Nat.not_lt.mpr (Nat.le_succ _))
      have hTI:s.heap.objs.size≠H.objs.size:=by rw[hHs];exact ql (qx _)
      exact hQ (H.push { cls:=.type "set_iterator",data:=.fields #[.ref s.heap.objs.size,rawInt 0,.ref a,rawInt es.size,rawInt ep] }) d' H.objs.size [H.objs.size,a,s.heap.objs.size] (ys.map fun j=>kOf (es.getD j (0,.none)))
       (fun i h=>SIt h H.objs.size (.ref s.heap.objs.size) i a es.size ep/\SAt h a es ep t/\h.IsTuple s.heap.objs.size (ys.map fun(i:Nat)=>rawInt i).toArray) (fun b o e=>qd _ (keepH b o e)) (by lia) (by simp) (fun b hb=>by
        rw[Heap.size_push]
        simp only[List.mem_cons,List.not_mem_nil,or_false]at hb
        rcases hb with rfl | rfl | rfl
        ·exact⟨qx _,.inr (by rw[hHs];exact Nat.le_succ _)⟩
        ·exact⟨qu (by rw[hHs];exact qu hlt),.inl rfl⟩
        ·exact⟨qu (by rw[hHs];exact qx _),.inr (qs _)⟩) hvp (fun A' hA'=>{
        sub:=fun b hb=>by simp at hb;simp[hb]
        frame:=fun i h h' st' hk=>⟨st'.1.at fun o e=>hk _ (by simp) o e,st'.2.1.at fun o e=>hk a (by simp) o e,st'.2.2.at fun o e=>hk _ (by simp) o e⟩
        item:=fun i s' Q' E' hlt' st' hQ'=>by
         have hi:i < ys.length:=by lia
         have hj:=hmem ys[i] (List.getElem_mem hi)
         refine Yrw st'.1 st'.2.1 st'.2.2 (j:=ys[i]) (tk:=0) (e:=es[ys[i]]) (by simp[hi,rawInt]) (Array.getElem?_eq_getElem hj) fun h' hit' hs'=>?_
         refine hQ' _ h' s'.toks ?_ ⟨hit',st'.2.1.at fun o e=>hs'.extBut a o haI e,st'.2.2.at fun o e=>hs'.extBut _ o hTI e⟩ fun b o hb e=>hs'.extBut b o (fun z=>hb (by simp[z])) e
         obtain⟨u,hu⟩:=Yg3 hel (show es[ys[i]]∈es.toList by simp)
         exact⟨kOf es[ys[i]],u,by simp[hi,Array.getD,hj],hu⟩
        done:=fun s' Q' E' st' hQ'=>by
         rw[hlen]at st'
         exact Yrx hA' st'.1 st'.2.1 st'.2.2 (by simp[hyl]) fun h' he'=>hQ' h' s'.toks fun b o hb e=>he' b o (fun z=>hb (by simp[z])) e
        self:=fun i s' Q' E' st' hQ'=>Ypk st'.1 hQ' }) ⟨⟨_,qo _ rfl,rfl,rfl⟩,⟨o,qd _ ho1,hex,hd,hf⟩,hT0.push _⟩ (fun i s' st'=>st'.1.typeIs)
 exact hdr _ rfl
end
end
section
inductive D where
 | non | bl (b:Bool) | int (i:Int) | str (x:Str) | tup (l:List D) | lst (l:List D)
 | scr (ns:List Int)
 | dct (t:Bool) (ks vs:List D)
 | obj (c:Str) (ks:List Str) (vs:List D)
 | adr (a:Addr)
mutual
def toPy:D->PyData
 | .non=>.none
 | .bl b=>.bool b
 | .int i=>.int i
 | .str x=>.str x
 | .tup l=>.tuple (Ycp l)
 | .lst l=>.list (Ycp l)
 | .scr ns=>.list (ns.map PyData.int)
 | .dct _ _ _=>.none
 | .obj _ _ _=>.none
 | .adr _=>.none
def Ycp:List D->List PyData
 | []=>[]
 | d::l=>toPy d::Ycp l
end
def eqD(d e:D):Bool:=PyData.eqv (toPy d) (toPy e)
def eqL(l m:List D):Bool:=PyData.eqvAll (Ycp l) (Ycp m)
def numV:V->Option Int
 | .int i=>some i
 | .bl b=>some (if b then 1 else 0)
 | _=>none
def Yun:List V->Option (List Int)
 | []=>some []
 | x::r=>(numV x).bind fun i=>(Yun r).map (i::·)
def Yxh(ks:List Int):Int:=reduceHash (Builtin.Tuple.tupleHashOf (ks.map hashInt))
def DtOk(a:Addr)(nks:List (List Int × Addr))(vxs:List V)(ep:Nat)(h:Heap):Prop:=
 (a==sysModules)=false/\∃us o es,Vals vxs us/\h.get? a=some o/\o.ExactDict/\o.data=.dict es ep/\es.toList=(nks.zip us).map fun p=>(⟨Yxh p.1.1,.ref p.1.2,p.2⟩:DictEntry)
def dTo(a:Addr)(nks:List (List Int × Addr))(vxs:List V)(ep:Nat):HO:=.ext (DtOk a nks vxs ep)
def Dc(t:Bool)(G H:Hp)(a:Addr)(kxs vxs:List V):Prop:=
 (t=false/\∃kvs:List (Key × V),H a=some (.dK kvs)/\(kvs.map (·.1)).Nodup/\kxs=kvs.map (fun p=>kV p.1)/\vxs=kvs.map (·.2))\/
 (t=true/\∃(nks:List (List Int × Addr)) (ep:Nat),H a=some (dTo a nks vxs ep)/\nks.length=vxs.length/\(nks.map (·.1)).Nodup/\kxs=nks.map (fun p=>V.ref p.2)/\∀p∈nks,∃ys,G p.2=some (.tup ys)/\Yun ys=some p.1)
mutual
def Rp(K:W.Frag)(G:Hp):D->V->Prop
 | .non,v=>v=V.non
 | .bl b,v=>v=V.bl b
 | .int i,v=>v=V.int i
 | .str x,v=>v=V.str x/\PyData.strOk x=true
 | .tup l,v=>∃a xs,v=V.ref a/\G a=some (HO.tup xs)/\RpL K G l xs
 | .lst l,v=>∃a xs,v=V.ref a/\Rd G a (HO.lst xs)/\RpL K G l xs
 | .scr ns,v=>∃a,v=V.ref a/\SqL K G a (ns.map V.int)
 | .dct t ks vs,v=>∃a kxs vxs,v=V.ref a/\Dc t G G a kxs vxs/\RpL K G ks kxs/\RpL K G vs vxs
 | .obj c ks vs,v=>∃a C dx xs,v=V.ref a/\W.nsIn K mainGlobals c=some (some (.ref C))/\G a=some (HO.ins C dx (ks.zip xs))/\xs.length=ks.length/\RpL K G vs xs
 | .adr a,v=>v=V.ref a
def RpL(K:W.Frag)(G:Hp):List D->List V->Prop
 | [],xs=>xs=[]
 | d::l,xs=>∃x r,xs=x::r/\Rp K G d x/\RpL K G l r
end
variable {K:W.Frag}
theorem Yan{G G':Hp}(h:Same G G'){a:Addr}{u:HO}(r:Rd G a u):Rd G' a u:=by
 rcases r with r | ⟨o,r⟩
 ·exact .inl (h _ _ r)
 ·exact .inr ⟨o,h _ _ r⟩
theorem Dc.mono{t:Bool}{G G' H H':Hp}(g:Same G G'){a:Addr}{kxs vxs:List V}(h:∀o,H a=some o->H' a=some o)(d:Dc t G H a kxs vxs):Dc t G' H' a kxs vxs:=by
 rcases d with⟨e,kvs,h1,h2⟩ | ⟨e,nks,ep,h1,h2,h3,h4,h5⟩
 ·exact .inl ⟨e,kvs,h _ h1,h2⟩
 ·refine .inr ⟨e,nks,ep,h _ h1,h2,h3,h4,fun p hp=>?_⟩
  obtain⟨ys,q1,q2⟩:=h5 p hp
  exact⟨ys,g _ _ q1,q2⟩
theorem Dc.someT{t:Bool}{G H:Hp}{a:Addr}{kxs vxs:List V}(d:Dc t G H a kxs vxs):∃o,H a=some o/\∀xs,o≠.tup xs:=by
 rcases d with⟨_,kvs,h1,_⟩ | ⟨_,nks,ep,h1,_⟩
 ·exact⟨_,h1,fun xs z=>by cases z⟩
 ·exact⟨_,h1,fun xs z=>by cases z⟩
theorem Dc.some{t:Bool}{G H:Hp}{a:Addr}{kxs vxs:List V}(d:Dc t G H a kxs vxs):∃o,H a=some o/\∀xs,o≠.lst xs:=by
 rcases d with⟨_,kvs,h1,_⟩ | ⟨_,nks,ep,h1,_⟩
 ·exact⟨_,h1,fun xs z=>by cases z⟩
 ·exact⟨_,h1,fun xs z=>by cases z⟩
mutual
theorem Rp.mono{G G':Hp}(h:Same G G'):∀{d:D} {v:V},Rp K G d v->Rp K G' d v
 | .non,_,r=>by rw[Rp]at r ⊢;exact r
 | .bl _,_,r=>by rw[Rp]at r ⊢;exact r
 | .int _,_,r=>by rw[Rp]at r ⊢;exact r
 | .str _,_,r=>by rw[Rp]at r ⊢;exact r
 | .tup l,_,r=>by
   rw[Rp]at r ⊢
   obtain⟨a,xs,e,g,q⟩:=r
   exact⟨a,xs,e,h _ _ g,RpL.mono h q⟩
 | .lst l,_,r=>by
   rw[Rp]at r ⊢
   obtain⟨a,xs,e,g,q⟩:=r
   exact⟨a,xs,e,Yan h g,RpL.mono h q⟩
 | .scr ns,_,r=>by
   rw[Rp]at r ⊢
   obtain⟨a,e,g⟩:=r
   exact⟨a,e,h.seq g⟩
 | .dct t ks vs,_,r=>by
   rw[Rp]at r ⊢
   obtain⟨a,kxs,vxs,e,g,q1,q2⟩:=r
   exact⟨a,kxs,vxs,e,g.mono h fun o=>h _ o,RpL.mono h q1,RpL.mono h q2⟩
 | .obj c ks vs,_,r=>by
   rw[Rp]at r ⊢
   obtain⟨a,C,dx,xs,e,n,g,l,q⟩:=r
   exact⟨a,C,dx,xs,e,n,h _ _ g,l,RpL.mono h q⟩
 | .adr _,_,r=>by rw[Rp]at r ⊢;exact r
theorem RpL.mono{G G':Hp}(h:Same G G'):∀{l:List D} {xs:List V},RpL K G l xs->RpL K G' l xs
 | [],_,r=>by rw[RpL]at r ⊢;exact r
 | d::l,_,r=>by
   rw[RpL]at r ⊢
   obtain⟨x,xs,e,g,q⟩:=r
   exact⟨x,xs,e,Rp.mono h g,RpL.mono h q⟩
end
section
variable {G:Hp}
theorem RpL.length:∀{l:List D} {xs:List V},RpL K G l xs->xs.length=l.length
 | [],_,r=>by rw[RpL]at r;subst r;rfl
 | d::l,_,r=>by
   rw[RpL]at r
   obtain⟨x,xs,rfl,_,q⟩:=r
   simp[RpL.length q]
theorem RpL.get:∀{l:List D} {xs:List V} {i:Nat} {d:D},RpL K G l xs->l[i]?=some d->∃x,xs[i]?=some x/\Rp K G d x
 | [],_,_,_,_,e=>by simp at e
 | d::l,_,0,_,r,e=>by
   rw[RpL]at r
   obtain⟨x,xs,rfl,g,q⟩:=r
   simp at e
   subst e
   exact⟨x,rfl,g⟩
 | d::l,_,i+1,_,r,e=>by
   rw[RpL]at r
   obtain⟨x,xs,rfl,g,q⟩:=r
   obtain⟨y,h1,h2⟩:=RpL.get (i:=i) q (by simpa using e)
   exact⟨y,by simpa using h1,h2⟩
theorem RpL.nil:RpL K G [] []:=by rw[RpL]
theorem RpL.cons{d:D}{l:List D}{x:V}{xs:List V}(h:Rp K G d x)(q:RpL K G l xs):RpL K G (d::l) (x::xs):=by rw[RpL];exact⟨x,xs,rfl,h,q⟩
theorem RpL.append:∀{l m:List D} {xs ys:List V},RpL K G l xs->RpL K G m ys->RpL K G (l++m) (xs++ys)
 | [],_,_,_,r,q=>by rw[RpL]at r;subst r;exact q
 | d::l,m,_,ys,r,q=>by
   rw[RpL]at r
   obtain⟨x,xs,rfl,g,r⟩:=r
   exact .cons g (RpL.append r q)
theorem RpL.one{d:D}{x:V}(h:Rp K G d x):RpL K G [d] [x]:=.cons h .nil
theorem RpL.set:∀{l:List D} {xs:List V} (i:Nat) {d:D} {x:V},RpL K G l xs->Rp K G d x->RpL K G (l.set i d) (xs.set i x)
 | [],_,_,_,_,r,_=>by rw[RpL]at r;subst r;exact .nil
 | e::l,_,0,_,_,r,h=>by
   rw[RpL]at r
   obtain⟨x,xs,rfl,g,r⟩:=r
   exact .cons h r
 | e::l,_,i+1,_,_,r,h=>by
   rw[RpL]at r
   obtain⟨x,xs,rfl,g,r⟩:=r
   exact .cons g (RpL.set i r h)
theorem RpL.take:∀{l:List D} {xs:List V} (n:Nat),RpL K G l xs->RpL K G (l.take n) (xs.take n)
 | _,_,0,_=>by rw[List.take_zero,List.take_zero];exact .nil
 | [],_,_+1,r=>by rw[RpL]at r;subst r;exact .nil
 | d::l,_,n+1,r=>by
   rw[RpL]at r
   obtain⟨x,xs,rfl,g,r⟩:=r
   exact .cons g (RpL.take n r)
theorem RpL.drop:∀{l:List D} {xs:List V} (n:Nat),RpL K G l xs->RpL K G (l.drop n) (xs.drop n)
 | _,_,0,r=>r
 | [],_,_+1,r=>by rw[RpL]at r;subst r;exact .nil
 | d::l,_,n+1,r=>by
   rw[RpL]at r
   obtain⟨x,xs,rfl,g,r⟩:=r
   exact RpL.drop n r
theorem RpL.ints:∀(ns:List Int),RpL K G (ns.map D.int) (ns.map V.int)
 | []=>.nil
 | n::ns=>.cons (by rw[Rp]) (RpL.ints ns)
end
structure Gr(H G H' G':Hp):Prop where
 h:Same H H'
 g:Same G G'
 s:Same G' H'
 n:∀a,G a=none->G' a≠none->H a=none
theorem Gr.refl{H G:Hp}(s:Same G H):Gr H G H G:=⟨Same.refl _,Same.refl _,s,fun _ h h'=>absurd h h'⟩
theorem Gr.trans{H G H1 G1 H2 G2:Hp}(a:Gr H G H1 G1)(b:Gr H1 G1 H2 G2):Gr H G H2 G2:=
 ⟨a.h.trans b.h,a.g.trans b.g,b.s,fun x h h'=>by
  by_cases e:G1 x=none
  ·exact a.h.free (b.n x e h')
  ·exact a.n x h e⟩
theorem Gr.new{H G:Hp}(s:Same G H){p:Addr}(hp:H p=none)(o:HO):Gr H G (upd H p o) (upd G p o):=by
 have gp:G p=none:=s.free hp
 refine⟨fun b u e=>?_,fun b u e=>?_,fun b u e=>?_,fun b h h'=>?_⟩
 ·rw[Yj (Yt e hp)];exact e
 ·rw[Yj (Yt e gp)];exact e
 ·by_cases q:b=p
  ·subst q;rw[Yl]at e ⊢;exact e
  ·rw[Yj q]at e ⊢;exact s _ _ e
 ·by_cases q:b=p
  ·subst q;exact hp
  ·rw[Yj q]at h';exact absurd h h'
theorem Gr.hid{H G:Hp}(s:Same G H){p:Addr}(hp:H p=none)(o:HO):Gr H G (upd H p o) G:=by
 have gp:G p=none:=s.free hp
 refine⟨fun b u e=>?_,Same.refl _,fun b u e=>?_,fun b h h'=>absurd h h'⟩
 ·rw[Yj (Yt e hp)];exact e
 ·rw[Yj (Yt e gp)];exact s _ _ e
theorem Gr.show{H G H' G':Hp}(g:Gr H G H' G'){p:Addr}{o:HO}(hp:H p=none)(gp:G' p=none)(e:H' p=some o):Gr H G H' (upd G' p o):=by
 refine⟨g.h,fun b u q=>?_,fun b u q=>?_,fun b h h'=>?_⟩
 ·have:=g.g b u q
  rw[Yj (Yt this gp)];exact this
 ·by_cases z:b=p
  ·subst z;rw[Yl]at q;rw[e];exact q
  ·rw[Yj z]at q;exact g.s b u q
 ·by_cases z:b=p
  ·subst z;exact hp
  ·rw[Yj z]at h';exact g.n b h h'
def Ct(K:W.Frag)(G H:Hp):D->V->Prop
 | .non,v=>v=V.non
 | .bl b,v=>v=V.bl b
 | .int i,v=>v=V.int i
 | .str x,v=>v=V.str x/\PyData.strOk x=true
 | .tup l,v=>∃a xs,v=V.ref a/\(H a=some (HO.tup xs)/\G a=some (HO.tup xs))/\RpL K G l xs
 | .lst l,v=>∃a xs,v=V.ref a/\Rd H a (HO.lst xs)/\RpL K G l xs
 | .scr ns,v=>∃a,v=V.ref a/\SqL K H a (ns.map V.int)
 | .dct t ks vs,v=>∃a kxs vxs,v=V.ref a/\Dc t G H a kxs vxs/\RpL K G ks kxs/\RpL K G vs vxs
 | .obj c ks vs,v=>∃a C dx xs,v=V.ref a/\W.nsIn K mainGlobals c=some (some (.ref C))/\G a=some (HO.ins C dx (ks.zip xs))/\xs.length=ks.length/\RpL K G vs xs
 | .adr a,v=>v=V.ref a
theorem Ct.of{G H:Hp}(s:Same G H){d:D}{v:V}(r:Rp K G d v):Ct K G H d v:=by
 cases d<;>rw[Rp]at r<;>rw[Ct]
 ·exact r
 ·exact r
 ·exact r
 ·exact r
 ·obtain⟨a,xs,e,g,q⟩:=r
  exact⟨a,xs,e,⟨s _ _ g,g⟩,q⟩
 ·obtain⟨a,xs,e,g,q⟩:=r
  exact⟨a,xs,e,Yan s g,q⟩
 ·obtain⟨a,e,g⟩:=r
  exact⟨a,e,s.seq g⟩
 ·obtain⟨a,kxs,vxs,e,g,q1,q2⟩:=r
  exact⟨a,kxs,vxs,e,g.mono (Same.refl _) fun o=>s _ o,q1,q2⟩
 ·exact r
 ·exact r
theorem Ct.rp{G H:Hp}(s:Same G H){d:D}{v:V}(r:Ct K G H d v):Rp K H d v:=by
 cases d<;>rw[Ct]at r<;>rw[Rp]
 ·exact r
 ·exact r
 ·exact r
 ·exact r
 ·obtain⟨a,xs,e,g,q⟩:=r
  exact⟨a,xs,e,g.1,q.mono s⟩
 ·obtain⟨a,xs,e,g,q⟩:=r
  exact⟨a,xs,e,g,q.mono s⟩
 ·exact r
 ·obtain⟨a,kxs,vxs,e,g,q1,q2⟩:=r
  exact⟨a,kxs,vxs,e,g.mono s fun _ z=>z,q1.mono s,q2.mono s⟩
 ·obtain⟨a,C,dx,xs,e,n,g,l,q⟩:=r
  exact⟨a,C,dx,xs,e,n,s _ _ g,l,q.mono s⟩
 ·exact r
theorem Ct.grow{G H G' H':Hp}(g:Gr H G H' G'){d:D}{v:V}(r:Ct K G H d v):Ct K G' H' d v:=by
 cases d<;>rw[Ct]at r<;>rw[Ct]
 ·exact r
 ·exact r
 ·exact r
 ·exact r
 ·obtain⟨a,xs,e,h,q⟩:=r
  exact⟨a,xs,e,⟨g.h _ _ h.1,g.g _ _ h.2⟩,q.mono g.g⟩
 ·obtain⟨a,xs,e,h,q⟩:=r
  exact⟨a,xs,e,Yan g.h h,q.mono g.g⟩
 ·obtain⟨a,e,h⟩:=r
  exact⟨a,e,g.h.seq h⟩
 ·obtain⟨a,kxs,vxs,e,h,q1,q2⟩:=r
  exact⟨a,kxs,vxs,e,h.mono g.g fun o=>g.h _ o,q1.mono g.g,q2.mono g.g⟩
 ·obtain⟨a,C,dx,xs,e,n,h,l,q⟩:=r
  exact⟨a,C,dx,xs,e,n,g.g _ _ h,l,q.mono g.g⟩
 ·exact r
def CtL(K:W.Frag)(G H:Hp):List D->List V->Prop
 | [],xs=>xs=[]
 | d::l,xs=>∃x r,xs=x::r/\Ct K G H d x/\CtL K G H l r
inductive B where
 | sh (d:D) | ow (l:List D) | od (t:Bool) (ks vs:List D)
abbrev Ro:=List (Option B)
structure SR(K:W.Frag)(H0 G0:Hp)(σ:L2.St)(H G:Hp)(ρ:Ro):Prop where
 gr:Gr H0 G0 H G
 len:σ.length=ρ.length
 sh:∀(i:Nat) d,ρ[i]?=some (some (B.sh d))->∃v,σ[i]?=some (some v)/\Rp K G d v
 ow:∀(i:Nat) l,ρ[i]?=some (some (B.ow l))->∃a xs,σ[i]?=some (some (V.ref a))/\G a=none/\H0 a=none/\H a=some (.lst xs)/\RpL K G l xs
 ap:∀(i j:Nat) l l' a b,ρ[i]?=some (some (B.ow l))->ρ[j]?=some (some (B.ow l'))->i≠j->σ[i]?=some (some (V.ref a))->σ[j]?=some (some (V.ref b))->a≠b
 od:∀(i:Nat) t ks vs,ρ[i]?=some (some (B.od t ks vs))->∃a kxs vxs,σ[i]?=some (some (V.ref a))/\G a=none/\H0 a=none/\Dc t G H a kxs vxs/\RpL K G ks kxs/\RpL K G vs vxs
 apd:∀(i j:Nat) t ks vs t' ks' vs' a b,ρ[i]?=some (some (B.od t ks vs))->ρ[j]?=some (some (B.od t' ks' vs'))->i≠j->σ[i]?=some (some (V.ref a))->σ[j]?=some (some (V.ref b))->a≠b
section
variable {H0 G0 H G H' G':Hp} {σ:L2.St} {ρ:Ro}
theorem SR.mkSh(g:Gr H0 G0 H G)(len:σ.length=ρ.length)(sh:∀(i:Nat) d,ρ[i]?=some (some (B.sh d))->∃v,σ[i]?=some (some v)/\Rp K G d v)(no:∀(i:Nat) l,ρ[i]?≠some (some (B.ow l)))(no':∀(i:Nat) t ks vs,ρ[i]?≠some (some (B.od t ks vs))):SR K H0 G0 σ H G ρ:=
 ⟨g,len,sh,fun i l h=>absurd h (no i l),fun i j l l' a b h=>absurd h (no i l),fun i t ks vs h=>absurd h (no' i t ks vs),fun i j t ks vs t' ks' vs' a b h=>absurd h (no' i t ks vs)⟩
theorem Yc5(g:Gr H G H' G'){a:Addr}{o:HO}(h:H a=some o)(n:G a=none):G' a=none:=by
 cases q:G' a with
 | none=>rfl
 | some o=>
   have:=g.n a n (by rw[q];exact fun z=>nomatch z)
   rw[h]at this
   cases this
theorem SR.grow(s:SR K H0 G0 σ H G ρ)(g:Gr H G H' G'):SR K H0 G0 σ H' G' ρ:=by
 refine⟨s.gr.trans g,s.len,fun i d e=>?_,fun i l e=>?_,s.ap,fun i t ks vs e=>?_,s.apd⟩
 ·obtain⟨v,h1,h2⟩:=s.sh i d e
  exact⟨v,h1,h2.mono g.g⟩
 ·obtain⟨a,xs,h1,h2,h3,h4,h5⟩:=s.ow i l e
  exact⟨a,xs,h1,Yc5 g h4 h2,h3,g.h _ _ h4,h5.mono g.g⟩
 ·obtain⟨a,kxs,vxs,h1,h2,h3,h4,h5,h6⟩:=s.od i t ks vs e
  obtain⟨o,h7,_⟩:=h4.some
  exact⟨a,kxs,vxs,h1,Yc5 g h7 h2,h3,h4.mono g.g fun o=>g.h _ o,h5.mono g.g,h6.mono g.g⟩
theorem SR.seen(s:SR K H0 G0 σ H G ρ):Same G H:=s.gr.s
theorem Yi{α:Type}{l:List α}{i j:Nat}{x y:α}(h:(l.set i x)[j]?=some y):(j=i/\y=x/\i < l.length)\/(j≠i/\l[j]?=some y):=by
 by_cases e:j=i
 ·subst e
  have hl:j < l.length:=by
   have:=(qm h).1
   simpa using this
  rw[List.getElem?_set_self hl]at h
  exact .inl ⟨rfl,(Option.some.inj h).symm,hl⟩
 ·rw[Qa (Ne.symm e)]at h
  exact .inr ⟨e,h⟩
theorem SR.set_sh(s:SR K H0 G0 σ H G ρ)(i:Nat){d:D}{v:V}(r:Rp K G d v):SR K H0 G0 (σ.set i (some v)) H G (ρ.set i (some (.sh d))):=by
 refine⟨s.gr,by simp[s.len],fun j e h=>?_,fun j l h=>?_,fun j k l l' a b h1 h2 h3 h4 h5=>?_,fun j t ks vs h=>?_,fun j k t ks vs t' ks' vs' a b h1 h2 h3 h4 h5=>?_⟩
 ·rcases Yi h with⟨rfl,e1,hl⟩ | ⟨hj,h⟩
  ·cases e1
   exact⟨v,by rw[List.getElem?_set_self (by rw[s.len];exact hl)],r⟩
  ·obtain⟨w,q1,q2⟩:=s.sh j e h
   exact⟨w,by rw[Qa (Ne.symm hj)];exact q1,q2⟩
 ·rcases Yi h with⟨rfl,e1,hl⟩ | ⟨hj,h⟩
  ·cases e1
  ·obtain⟨a,xs,q1,q2⟩:=s.ow j l h
   exact⟨a,xs,by rw[Qa (Ne.symm hj)];exact q1,q2⟩
 ·rcases Yi h1 with⟨rfl,e1,_⟩ | ⟨hj,h1⟩
  ·cases e1
  ·rcases Yi h2 with⟨rfl,e1,_⟩ | ⟨hk,h2⟩
   ·cases e1
   ·rw[Qa (Ne.symm hj)]at h4
    rw[Qa (Ne.symm hk)]at h5
    exact s.ap j k l l' a b h1 h2 h3 h4 h5
 ·rcases Yi h with⟨rfl,e1,hl⟩ | ⟨hj,h⟩
  ·cases e1
  ·obtain⟨a,kxs,vxs,q1,q2⟩:=s.od j t ks vs h
   exact⟨a,kxs,vxs,by rw[Qa (Ne.symm hj)];exact q1,q2⟩
 ·rcases Yi h1 with⟨rfl,e1,_⟩ | ⟨hj,h1⟩
  ·cases e1
  ·rcases Yi h2 with⟨rfl,e1,_⟩ | ⟨hk,h2⟩
   ·cases e1
   ·rw[Qa (Ne.symm hj)]at h4
    rw[Qa (Ne.symm hk)]at h5
    exact s.apd j k t ks vs t' ks' vs' a b h1 h2 h3 h4 h5
theorem SR.set_ow(s:SR K H0 G0 σ H G ρ)(i:Nat){l:List D}{p:Addr}{xs:List V}(g:Gr H G H' G')(hp:H p=none)(gp:G' p=none)(e:H' p=some (.lst xs))(r:RpL K G' l xs):SR K H0 G0 (σ.set i (some (.ref p))) H' G' (ρ.set i (some (.ow l))):=by
 have s':=s.grow g
 have np:∀(j:Nat) l a,ρ[j]?=some (some (B.ow l))->σ[j]?=some (some (V.ref a))->a≠p:=fun j l a h1 h2 z=>by
  obtain⟨b,ys,q1,_,_,q4,_⟩:=s.ow j l h1
  rw[h2]at q1
  cases q1
  rw[z,hp]at q4
  cases q4
 refine⟨s'.gr,by simp[s.len],fun j e h=>?_,fun j l h=>?_,fun j k l l' a b h1 h2 h3 h4 h5=>?_,fun j t ks vs h=>?_,fun j k t ks vs t' ks' vs' a b h1 h2 h3 h4 h5=>?_⟩
 ·rcases Yi h with⟨rfl,e1,hl⟩ | ⟨hj,h⟩
  ·cases e1
  ·obtain⟨w,q1,q2⟩:=s'.sh j e h
   exact⟨w,by rw[Qa (Ne.symm hj)];exact q1,q2⟩
 ·rcases Yi h with⟨rfl,e1,hl⟩ | ⟨hj,h⟩
  ·cases e1
   exact⟨p,xs,by rw[List.getElem?_set_self (by rw[s.len];exact hl)],gp,s.gr.h.free hp,e,r⟩
  ·obtain⟨a,xs,q1,q2⟩:=s'.ow j l h
   exact⟨a,xs,by rw[Qa (Ne.symm hj)];exact q1,q2⟩
 ·rcases Yi h1 with⟨rfl,e1,hl⟩ | ⟨hj,h1n⟩
  ·rcases Yi h2 with⟨rfl,e2,_⟩ | ⟨hk,h2⟩
   ·exact absurd rfl h3
   ·rw[List.getElem?_set_self (by rw[s.len];exact hl)]at h4
    cases h4
    rw[Qa (Ne.symm hk)]at h5
    exact Ne.symm (np k l' b h2 h5)
  ·rcases Yi h2 with⟨rfl,e2,hl⟩ | ⟨hk,h2⟩
   ·rw[List.getElem?_set_self (by rw[s.len];exact hl)]at h5
    cases h5
    rw[Qa (Ne.symm hj)]at h4
    exact np j l a h1n h4
   ·rw[Qa (Ne.symm hj)]at h4
    rw[Qa (Ne.symm hk)]at h5
    exact s.ap j k l l' a b h1n h2 h3 h4 h5
 ·rcases Yi h with⟨rfl,e1,hl⟩ | ⟨hj,h⟩
  ·cases e1
  ·obtain⟨a,kxs,vxs,q1,q2⟩:=s'.od j t ks vs h
   exact⟨a,kxs,vxs,by rw[Qa (Ne.symm hj)];exact q1,q2⟩
 ·rcases Yi h1 with⟨rfl,e1,_⟩ | ⟨hj,h1⟩
  ·cases e1
  ·rcases Yi h2 with⟨rfl,e1,_⟩ | ⟨hk,h2⟩
   ·cases e1
   ·rw[Qa (Ne.symm hj)]at h4
    rw[Qa (Ne.symm hk)]at h5
    exact s.apd j k t ks vs t' ks' vs' a b h1 h2 h3 h4 h5
theorem SR.mut(s:SR K H0 G0 σ H G ρ){i:Nat}{l l':List D}{a:Addr}{ys:List V}(hi:ρ[i]?=some (some (B.ow l)))(ha:σ[i]?=some (some (V.ref a)))(r:RpL K G l' ys):SR K H0 G0 σ (upd H a (.lst ys)) G (ρ.set i (some (.ow l'))):=by
 obtain⟨a',xs,q1,q2,q3,q4,q5⟩:=s.ow i l hi
 rw[ha]at q1
 cases q1
 have hl:i < ρ.length:=(qm hi).1
 refine⟨⟨fun b o e=>?_,s.gr.g,fun b o e=>?_,s.gr.n⟩,by simp[s.len],fun j e h=>?_,fun j m h=>?_,fun j k m m' b c h1 h2 h3 h4 h5=>?_,fun j t ks vs h=>?_,fun j k t ks vs t' ks' vs' b c h1 h2 h3 h4 h5=>?_⟩
 ·rw[Yj (Yt e q3)];exact s.gr.h b o e
 ·rw[Yj (Yt e q2)];exact s.gr.s b o e
 ·rcases Yi h with⟨rfl,e1,_⟩ | ⟨hj,h⟩
  ·cases e1
  ·exact s.sh j e h
 ·rcases Yi h with⟨rfl,e1,_⟩ | ⟨hj,h⟩
  ·cases e1
   exact⟨a,ys,ha,q2,q3,Yl,r⟩
  ·obtain⟨b,zs,p1,p2,p3,p4,p5⟩:=s.ow j m h
   exact⟨b,zs,p1,p2,p3,by rw[Yj (s.ap j i m l b a h hi hj p1 ha)];exact p4,p5⟩
 ·have old:∀(j:Nat) m,(ρ.set i (some (.ow l')))[j]?=some (some (B.ow m))->∃m',ρ[j]?=some (some (B.ow m')):=fun j m h=>by
   rcases Yi h with⟨rfl,_,_⟩ | ⟨_,h⟩
   ·exact⟨l,hi⟩
   ·exact⟨m,h⟩
  obtain⟨n1,e1⟩:=old j m h1
  obtain⟨n2,e2⟩:=old k m' h2
  exact s.ap j k n1 n2 b c e1 e2 h3 h4 h5
 ·rcases Yi h with⟨rfl,e1,_⟩ | ⟨hj,h⟩
  ·cases e1
  ·obtain⟨b,kxs,vxs,p1,p2,p3,p4,p5⟩:=s.od j t ks vs h
   refine⟨b,kxs,vxs,p1,p2,p3,p4.mono (Same.refl _) fun o q=>?_,p5⟩
   obtain⟨o',q',nl⟩:=p4.some
   rw[q]at q'
   cases q'
   rw[Yj (fun z=>by rw[z,q4]at q;cases q;exact nl _ rfl)];exact q
 ·rcases Yi h1 with⟨rfl,e1,_⟩ | ⟨hj,h1⟩
  ·cases e1
  ·rcases Yi h2 with⟨rfl,e1,_⟩ | ⟨hk,h2⟩
   ·cases e1
   ·exact s.apd j k t ks vs t' ks' vs' b c h1 h2 h3 h4 h5
theorem SR.freezeT(s:SR K H0 G0 σ H G ρ){i:Nat}{l:List D}(hi:ρ[i]?=some (some (B.ow l))):∃G',SR K H0 G0 σ H G' (ρ.set i (some (.sh (.lst l))))/\∀b ys,G' b=some (.tup ys)->G b=some (.tup ys):=by
 obtain⟨a,xs,q1,q2,q3,q4,q5⟩:=s.ow i l hi
 have hl:i < ρ.length:=(qm hi).1
 have sm:Same G (upd G a (.lst xs)):=fun b o e=>by rw[Yj (Yt e q2)];exact e
 refine⟨upd G a (.lst xs),?_,fun b ys e=>by
  by_cases z:b=a
  ·subst z;rw[Yl]at e;cases e
  ·rw[Yj z]at e;exact e⟩
 refine⟨⟨s.gr.h,s.gr.g.trans sm,fun b o e=>?_,fun b h h'=>?_⟩,by simp[s.len],fun j e h=>?_,fun j m h=>?_,fun j k m m' b c h1 h2 h3 h4 h5=>?_,fun j t ks vs h=>?_,fun j k t ks vs t' ks' vs' b c h1 h2 h3 h4 h5=>?_⟩
 ·by_cases z:b=a
  ·subst z;rw[Yl]at e;rw[q4];exact e
  ·rw[Yj z]at e;exact s.gr.s b o e
 ·by_cases z:b=a
  ·subst z;exact q3
  ·rw[Yj z]at h';exact s.gr.n b h h'
 ·rcases Yi h with⟨rfl,e1,_⟩ | ⟨hj,h⟩
  ·cases e1
   exact⟨_,q1,by rw[Rp];exact⟨a,xs,rfl,.inl Yl,q5.mono sm⟩⟩
  ·obtain⟨v,p1,p2⟩:=s.sh j e h
   exact⟨v,p1,p2.mono sm⟩
 ·rcases Yi h with⟨rfl,e1,_⟩ | ⟨hj,h⟩
  ·cases e1
  ·obtain⟨b,zs,p1,p2,p3,p4,p5⟩:=s.ow j m h
   exact⟨b,zs,p1,by rw[Yj (s.ap j i m l b a h hi hj p1 q1)];exact p2,p3,p4,p5.mono sm⟩
 ·rcases Yi h1 with⟨rfl,e1,_⟩ | ⟨hj,h1⟩
  ·cases e1
  ·rcases Yi h2 with⟨rfl,e1,_⟩ | ⟨hk,h2⟩
   ·cases e1
   ·exact s.ap j k m m' b c h1 h2 h3 h4 h5
 ·rcases Yi h with⟨rfl,e1,_⟩ | ⟨hj,h⟩
  ·cases e1
  ·obtain⟨b,kxs,vxs,p1,p2,p3,p4,p5,p6⟩:=s.od j t ks vs h
   obtain⟨o',q',nl⟩:=p4.some
   exact⟨b,kxs,vxs,p1,by rw[Yj (fun z=>by rw[z,q4]at q';cases q';exact nl _ rfl)];exact p2,p3,p4.mono sm fun _ z=>z,p5.mono sm,p6.mono sm⟩
 ·rcases Yi h1 with⟨rfl,e1,_⟩ | ⟨hj,h1⟩
  ·cases e1
  ·rcases Yi h2 with⟨rfl,e1,_⟩ | ⟨hk,h2⟩
   ·cases e1
   ·exact s.apd j k t ks vs t' ks' vs' b c h1 h2 h3 h4 h5
theorem SR.freeze(s:SR K H0 G0 σ H G ρ){i:Nat}{l:List D}(hi:ρ[i]?=some (some (B.ow l))):∃G',SR K H0 G0 σ H G' (ρ.set i (some (.sh (.lst l)))):=by
 obtain⟨G',h,_⟩:=s.freezeT hi
 exact⟨G',h⟩
theorem SR.freezedT(s:SR K H0 G0 σ H G ρ){i:Nat}{t:Bool}{ks vs:List D}(hi:ρ[i]?=some (some (B.od t ks vs))):∃G',SR K H0 G0 σ H G' (ρ.set i (some (.sh (.dct t ks vs))))/\∀b ys,G' b=some (.tup ys)->G b=some (.tup ys):=by
 obtain⟨a,kxs,vxs,q1,q2,q3,q4,q5,q6⟩:=s.od i t ks vs hi
 obtain⟨o,q7,nl⟩:=q4.some
 have hl:i < ρ.length:=(qm hi).1
 have sm:Same G (upd G a o):=fun b o e=>by rw[Yj (Yt e q2)];exact e
 obtain⟨oT,q8,nt⟩:=q4.someT
 rw[q7]at q8
 cases q8
 refine⟨upd G a o,?_,fun b ys e=>by
  by_cases z:b=a
  ·subst z;rw[Yl]at e;cases e;exact absurd rfl (nt _)
  ·rw[Yj z]at e;exact e⟩
 refine⟨⟨s.gr.h,s.gr.g.trans sm,fun b o' e=>?_,fun b h h'=>?_⟩,by simp[s.len],fun j e h=>?_,fun j m h=>?_,fun j k m m' b c h1 h2 h3 h4 h5=>?_,fun j t ks vs h=>?_,fun j k t ks vs t' ks' vs' b c h1 h2 h3 h4 h5=>?_⟩
 ·by_cases z:b=a
  ·subst z;rw[Yl]at e;rw[q7];exact e
  ·rw[Yj z]at e;exact s.gr.s b o' e
 ·by_cases z:b=a
  ·subst z;exact q3
  ·rw[Yj z]at h';exact s.gr.n b h h'
 ·rcases Yi h with⟨rfl,e1,_⟩ | ⟨hj,h⟩
  ·cases e1
   refine⟨_,q1,?_⟩
   rw[Rp]
   refine⟨a,kxs,vxs,rfl,q4.mono sm fun o' z=>?_,q5.mono sm,q6.mono sm⟩
   rw[q7]at z
   rw[Yl];exact z
  ·obtain⟨v,p1,p2⟩:=s.sh j e h
   exact⟨v,p1,p2.mono sm⟩
 ·rcases Yi h with⟨rfl,e1,_⟩ | ⟨hj,h⟩
  ·cases e1
  ·obtain⟨b,zs,p1,p2,p3,p4,p5⟩:=s.ow j m h
   exact⟨b,zs,p1,by rw[Yj (fun z=>by rw[z,q7]at p4;cases p4;exact nl _ rfl)];exact p2,p3,p4,p5.mono sm⟩
 ·rcases Yi h1 with⟨rfl,e1,_⟩ | ⟨hj,h1⟩
  ·cases e1
  ·rcases Yi h2 with⟨rfl,e1,_⟩ | ⟨hk,h2⟩
   ·cases e1
   ·exact s.ap j k m m' b c h1 h2 h3 h4 h5
 ·rcases Yi h with⟨rfl,e1,_⟩ | ⟨hj,h⟩
  ·cases e1
  ·obtain⟨b,kx,vx,p1,p2,p3,p4,p5,p6⟩:=s.od j t ks vs h
   exact⟨b,kx,vx,p1,by rw[Yj (s.apd j i _ _ _ _ _ _ b a h hi hj p1 q1)];exact p2,p3,p4.mono sm fun _ z=>z,p5.mono sm,p6.mono sm⟩
 ·rcases Yi h1 with⟨rfl,e1,_⟩ | ⟨hj,h1⟩
  ·cases e1
  ·rcases Yi h2 with⟨rfl,e1,_⟩ | ⟨hk,h2⟩
   ·cases e1
   ·exact s.apd j k t ks vs t' ks' vs' b c h1 h2 h3 h4 h5
theorem SR.freezed(s:SR K H0 G0 σ H G ρ){i:Nat}{t:Bool}{ks vs:List D}(hi:ρ[i]?=some (some (B.od t ks vs))):∃G',SR K H0 G0 σ H G' (ρ.set i (some (.sh (.dct t ks vs)))):=by
 obtain⟨G',h,_⟩:=s.freezedT hi
 exact⟨G',h⟩
def Le(ρ ρ':Ro):Prop:=ρ.length=ρ'.length/\∀(i:Nat) b,ρ[i]?=some (some b)->ρ'[i]?=some (some b)
theorem SR.le{ρ':Ro}(s:SR K H0 G0 σ H G ρ')(h:Le ρ ρ'):SR K H0 G0 σ H G ρ:=
 ⟨s.gr,s.len.trans h.1.symm,fun i d e=>s.sh i d (h.2 i _ e),fun i l e=>s.ow i l (h.2 i _ e),fun i j l l' a b e1 e2=>s.ap i j l l' a b (h.2 i _ e1) (h.2 j _ e2),
  fun i t ks vs e=>s.od i t ks vs (h.2 i _ e),fun i j t ks vs t' ks' vs' a b e1 e2=>s.apd i j t ks vs t' ks' vs' a b (h.2 i _ e1) (h.2 j _ e2)⟩
theorem SR.rebase(s:SR K H0 G0 σ H G ρ):∃H1,SR K H1 G σ H G ρ/\∀σ' H' G' ρ',SR K H1 G σ' H' G' ρ'->SR K H0 G0 σ' H' G' ρ':=by
 classical
 let own:Addr->Prop:=fun a=>∃(i:Nat),((∃l:List D,ρ[i]?=some (some (B.ow l)))\/(∃t ks vs,ρ[i]?=some (some (B.od t ks vs))))/\σ[i]?=some (some (V.ref a))
 have h0:∀a,own a->H0 a=none:=fun a hx_=>by
  obtain⟨i,e1,e2⟩:=hx_
  rcases e1 with⟨l,e1⟩ | ⟨t,ks,vs,e1⟩
  ·obtain⟨b,xs,q1,_,q3,_⟩:=s.ow i l e1
   rw[e2]at q1;cases q1;exact q3
  ·obtain⟨b,kxs,vxs,q1,_,q3,_⟩:=s.od i t ks vs e1
   rw[e2]at q1;cases q1;exact q3
 have back:∀a,(if own a then (none:Option HO)else H a)=none->H0 a=none:=fun a h=>by
  by_cases o:own a
  ·exact h0 a o
  ·rw[if_neg o]at h;exact s.gr.h.free h
 refine⟨fun a=>if own a then none else H a,⟨⟨fun b o e=>?_,Same.refl _,s.gr.s,fun _ h h'=>absurd h h'⟩,s.len,s.sh,fun i l e=>?_,s.ap,fun i t ks vs e=>?_,s.apd⟩,fun σ' H' G' ρ' t=>⟨⟨fun b o e=>?_,s.gr.g.trans t.gr.g,t.gr.s,fun b h h'=>?_⟩,t.len,t.sh,fun i l e=>?_,t.ap,fun i t1 ks vs e=>?_,t.apd⟩⟩
 ·by_cases z:own b
  ·simp only[if_pos z]at e;cases e
  ·simp only[if_neg z]at e;exact e
 ·obtain⟨a,xs,q1,q2,q3,q4,q5⟩:=s.ow i l e
  exact⟨a,xs,q1,q2,if_pos ⟨i,.inl ⟨l,e⟩,q1⟩,q4,q5⟩
 ·obtain⟨a,kxs,vxs,q1,q2,q3,q4⟩:=s.od i t ks vs e
  exact⟨a,kxs,vxs,q1,q2,if_pos ⟨i,.inr ⟨t,ks,vs,e⟩,q1⟩,q4⟩
 ·refine t.gr.h b o ?_
  have z:¬own b:=fun z=>by rw[h0 b z]at e;cases e
  show(if own b then none else H b)=some o
  rw[if_neg z];exact s.gr.h b o e
 ·by_cases z:G b=none
  ·exact back b (t.gr.n b z h')
  ·exact s.gr.n b h z
 ·obtain⟨a,xs,q1,q2,q3,q4,q5⟩:=t.ow i l e
  exact⟨a,xs,q1,q2,back a q3,q4,q5⟩
 ·obtain⟨a,kxs,vxs,q1,q2,q3,q4⟩:=t.od i t1 ks vs e
  exact⟨a,kxs,vxs,q1,q2,back a q3,q4⟩
end
def tOf(K:W.Frag)(f:Ro->Option D):TE:=fun σ H Q=>∃ρ d H0 G0 G,f ρ=some d/\SR K H0 G0 σ H G ρ/\∀v H' G',Gr H G H' G'->Rp K G' d v->Q v H'
def tCof(K:W.Frag)(f:Ro->Option D):TE:=fun σ H Q=>∃ρ d H0 G0 G,f ρ=some d/\SR K H0 G0 σ H G ρ/\∀v H' G',Gr H G H' G'->Ct K G' H' d v->Q v H'
def tCAof(K:W.Frag)(f:Ro->Option (List D)):TA:=fun σ H Q=>∃ρ l H0 G0 G,f ρ=some l/\SR K H0 G0 σ H G ρ/\∀vs H' G',Gr H G H' G'->CtL K G' H' l vs->Q vs H'
def tFof(K:W.Frag)(f:Ro->Option (List D)):TE:=fun σ H Q=>∃ρ l H0 G0 G,f ρ=some l/\SR K H0 G0 σ H G ρ/\∀p xs H' G',Gr H G H' G'->H p=none->G' p=none->H' p=some (.lst xs)->RpL K G' l xs->Q (.ref p) H'
def tTof(K:W.Frag)(f:Ro->Option Bool):TT:=fun σ H Q=>∃ρ b H0 G0 G,f ρ=some b/\SR K H0 G0 σ H G ρ/\∀H' G',Gr H G H' G'->Q b H'
def tAof(K:W.Frag)(f:Ro->Option (List D)):TA:=fun σ H Q=>∃ρ l H0 G0 G,f ρ=some l/\SR K H0 G0 σ H G ρ/\∀vs H' G',Gr H G H' G'->RpL K G' l vs->Q vs H'
def Wk(K:W.Frag)(J:It)(G':Hp)(ds:List D):Prop:=ds.length<=sizeLine/\∀(i:Nat) H2 G2,Same G' G2->Same G2 H2->
 (∀d,ds[i]?=some d->J.go i H2/\∀y H3,J.yld i H2 y H3->∃G3,Gr H2 G2 H3 G3/\Rp K G3 d y)/\(ds.length<=i->J.stop i H2)
def tIof(K:W.Frag)(f:Ro->Option (List D)):TI:=fun σ H R=>∃ρ ds H0 G0 G,f ρ=some ds/\SR K H0 G0 σ H G ρ/\∀J H' G',Gr H G H' G'->Wk K J G' ds->R J H'
inductive Out where
 | nx (ρ:Ro) | rt (d:D) | bk (ρ:Ro) | ct (ρ:Ro)
def Cont(K:W.Frag)(H0 G0:Hp)(F:Ends):Out->Prop
 | .nx ρ'=>∀σ' H' G',SR K H0 G0 σ' H' G' ρ'->F.nx σ' H'
 | .rt d=>∀v H' G',Gr H0 G0 H' G'->Rp K G' d v->F.rt v H'
 | .bk ρ'=>∀σ' H' G',SR K H0 G0 σ' H' G' ρ'->F.bk σ' H'
 | .ct ρ'=>∀σ' H' G',SR K H0 G0 σ' H' G' ρ'->F.ct σ' H'
def sOf(K:W.Frag)(f:Ro->Option Out):TS:=fun F σ H=>∃ρ out H0 G0 G,f ρ=some out/\SR K H0 G0 σ H G ρ/\Cont K H0 G0 F out
def gOf(K:W.Frag)(gt:D->Ro->Option Ro):TG:=fun v σ H Q=>∃d ρ ρ' H0 G0 G,gt d ρ=some ρ'/\SR K H0 G0 σ H G ρ/\Rp K G d v/\∀σ',SR K H0 G0 σ' H G ρ'->Q σ' H
abbrev ME(X:Cx)(e:Expr)(f:Ro->Option D):Prop:=PE X e (tOf X.K f)
abbrev MC(X:Cx)(e:Expr)(f:Ro->Option D):Prop:=PE X e (tCof X.K f)
abbrev MCA(X:Cx)(es:List Expr)(f:Ro->Option (List D)):Prop:=PA X es (tCAof X.K f)
abbrev MF(X:Cx)(e:Expr)(f:Ro->Option (List D)):Prop:=PE X e (tFof X.K f)
abbrev MT(X:Cx)(e:Expr)(f:Ro->Option Bool):Prop:=PT X e (tTof X.K f)
abbrev MA(X:Cx)(es:List Expr)(f:Ro->Option (List D)):Prop:=PA X es (tAof X.K f)
abbrev MI(X:Cx)(tg iter:Expr)(f:Ro->Option (List D)):Prop:=PI X tg iter (tIof X.K f)
abbrev MS(X:Cx)(st:Stmt)(f:Ro->Option Out):Prop:=PS X st (sOf X.K f)
abbrev MB(X:Cx)(sts:List Stmt)(f:Ro->Option Out):Prop:=PSs X sts (sOf X.K f)
abbrev MG(X:Cx)(tg:Expr)(gt:D->Ro->Option Ro):Prop:=PG X tg (gOf X.K gt)
section
variable {X:Cx}
theorem PE.imp{e:Expr}{t t':TE}(h:PE X e t)(i:∀σ H Q,t' σ H Q->t σ H Q):PE X e t':=fun pins s σ H Q I hw=>h pins s σ H Q I (i σ H Q hw)
theorem PT.imp{e:Expr}{t t':TT}(h:PT X e t)(i:∀σ H Q,t' σ H Q->t σ H Q):PT X e t':=fun pins s σ H Q I hw=>h pins s σ H Q I (i σ H Q hw)
theorem PA.imp{es:List Expr}{t t':TA}(h:PA X es t)(i:∀σ H Q,t' σ H Q->t σ H Q):PA X es t':=fun pos pins s σ H Q I hw=>h pos pins s σ H Q I (i σ H Q hw)
theorem PS.imp{st:Stmt}{t t':TS}(h:PS X st t)(i:∀F σ H,t' F σ H->t F σ H):PS X st t':=fun pins s σ H F I hw=>h pins s σ H F I (i F σ H hw)
theorem PSs.imp{st:List Stmt}{t t':TS}(h:PSs X st t)(i:∀F σ H,t' F σ H->t F σ H):PSs X st t':=fun pins s σ H F I hw=>h pins s σ H F I (i F σ H hw)
theorem PI.imp{tg e:Expr}{t t':TI}(h:PI X tg e t)(i:∀σ H R,t' σ H R->t σ H R):PI X tg e t':=fun pins s σ H R I hw=>h pins s σ H R I (i σ H R hw)
theorem PG.imp{e:Expr}{t t':TG}(h:PG X e t)(i:∀v σ H Q,t' v σ H Q->t v σ H Q):PG X e t':=fun pins s σ H v u Q I r hw=>h pins s σ H v u Q I r (i v σ H Q hw)
variable {H0 G0 H G:Hp} {σ:L2.St} {ρ:Ro}
theorem tOf.at{f:Ro->Option D}{d:D}{Q:VK}(e:f ρ=some d)(s:SR K H0 G0 σ H G ρ)(h:∀v H' G',Gr H G H' G'->Rp K G' d v->SR K H0 G0 σ H' G' ρ->Q v H'):tOf K f σ H Q:=
 ⟨ρ,d,H0,G0,G,e,s,fun v H' G' g r=>h v H' G' g r (s.grow g)⟩
theorem tCof.at{f:Ro->Option D}{d:D}{Q:VK}(e:f ρ=some d)(s:SR K H0 G0 σ H G ρ)(h:∀v H' G',Gr H G H' G'->Ct K G' H' d v->SR K H0 G0 σ H' G' ρ->Q v H'):tCof K f σ H Q:=
 ⟨ρ,d,H0,G0,G,e,s,fun v H' G' g r=>h v H' G' g r (s.grow g)⟩
theorem tCAof.at{f:Ro->Option (List D)}{l:List D}{Q:List V->Hp->Prop}(e:f ρ=some l)(s:SR K H0 G0 σ H G ρ)(h:∀vs H' G',Gr H G H' G'->CtL K G' H' l vs->SR K H0 G0 σ H' G' ρ->Q vs H'):tCAof K f σ H Q:=
 ⟨ρ,l,H0,G0,G,e,s,fun v H' G' g r=>h v H' G' g r (s.grow g)⟩
theorem ME.mc{e:Expr}{f:Ro->Option D}(h:ME X e f):MC X e f:=PE.imp h fun σ H Q ⟨ρ,d,H0,G0,G,e,s,h⟩=>⟨ρ,d,H0,G0,G,e,s,fun v H' G' g r=>h v H' G' g (.of g.s r)⟩
theorem tTof.at{f:Ro->Option Bool}{b:Bool}{Q:Bool->Hp->Prop}(e:f ρ=some b)(s:SR K H0 G0 σ H G ρ)(h:∀H' G',Gr H G H' G'->SR K H0 G0 σ H' G' ρ->Q b H'):tTof K f σ H Q:=
 ⟨ρ,b,H0,G0,G,e,s,fun H' G' g=>h H' G' g (s.grow g)⟩
theorem tAof.at{f:Ro->Option (List D)}{l:List D}{Q:List V->Hp->Prop}(e:f ρ=some l)(s:SR K H0 G0 σ H G ρ)(h:∀vs H' G',Gr H G H' G'->RpL K G' l vs->SR K H0 G0 σ H' G' ρ->Q vs H'):tAof K f σ H Q:=
 ⟨ρ,l,H0,G0,G,e,s,fun v H' G' g r=>h v H' G' g r (s.grow g)⟩
end
end
section
variable {K:W.Frag}
def b2{α:Type}(fa fb:Ro->Option D)(g:D->D->Option α):Ro->Option α:=fun ρ=>(fa ρ).bind fun x=>(fb ρ).bind fun y=>g x y
def b1{α:Type}(fa:Ro->Option D)(g:D->Option α):Ro->Option α:=fun ρ=>(fa ρ).bind g
theorem Yjd{α:Type}{fa fb:Ro->Option D}{g:D->D->Option α}{ρ:Ro}{r:α}(h:b2 fa fb g ρ=some r):∃x y,fa ρ=some x/\fb ρ=some y/\g x y=some r:=by
 unfold b2 at h
 obtain⟨x,h1,h⟩:=qa h
 obtain⟨y,h2,h⟩:=qa h
 exact⟨x,y,h1,h2,h⟩
theorem Ya8{α:Type}{fa:Ro->Option D}{g:D->Option α}{ρ:Ro}{r:α}(h:b1 fa g ρ=some r):∃x,fa ρ=some x/\g x=some r:=by
 unfold b1 at h
 obtain⟨x,h1,h⟩:=qa h
 exact⟨x,h1,h⟩
def Sem2(K:W.Frag)(r:R2)(g:D->D->Option D):Prop:=∀(x y:V) (dx dy d:D) (H G:Hp) (Q:VK),g dx dy=some d->Same G H->Ct K G H dx x->Ct K G H dy y->(∀v H' G',Gr H G H' G'->Rp K G' d v->Q v H')->r x y H Q
def Yh3(K:W.Frag)(r:R2)(g:D->D->Option Bool):Prop:=∀(x y:V) (dx dy:D) (b:Bool) (H G:Hp) (Q:VK),g dx dy=some b->Same G H->Ct K G H dx x->Ct K G H dy y->Q (.bl b) H->r x y H Q
def SemC(K:W.Frag)(r:List V->Hp->VK->Prop)(g:List D->Option D):Prop:=∀(vs:List V) (ds:List D) (d:D) (H G:Hp) (Q:VK),g ds=some d->Same G H->CtL K G H ds vs->(∀v H' G',Gr H G H' G'->Rp K G' d v->Q v H')->r vs H Q
def SemF(K:W.Frag)(r:List V->Hp->VK->Prop)(g:List D->Option (List D)):Prop:=∀(vs:List V) (ds l:List D) (H G:Hp) (Q:VK),g ds=some l->Same G H->CtL K G H ds vs->
 (∀p xs H' G',Gr H G H' G'->H p=none->G' p=none->H' p=some (.lst xs)->RpL K G' l xs->Q (.ref p) H')->r vs H Q
section
variable {X:Cx} {a b c e:Expr} {es:List Expr} {fa fb fc f:Ro->Option D} {ga:Ro->Option (List D)} {pos:Pos}
def getV(i:Nat):Ro->Option D:=fun ρ=>match ρ[i]? with
 | some (some (B.sh d))=>some d
 | _=>none
def getO(i:Nat):Ro->Option (List D):=fun ρ=>match ρ[i]? with
 | some (some (B.ow l))=>some l
 | _=>none
theorem Ypl{i:Nat}{ρ:Ro}{d:D}(h:getV i ρ=some d):ρ[i]?=some (some (B.sh d)):=by
 unfold getV at h
 split at h
 ·cases h;assumption
 ·cases h
theorem Ye8{i:Nat}{ρ:Ro}{l:List D}(h:getO i ρ=some l):ρ[i]?=some (some (B.ow l)):=by
 unfold getO at h
 split at h
 ·cases h;assumption
 ·cases h
theorem Yxi(i:Nat){x:Str}(hN:X.N[i]?=some x:=by rfl)(hv:Vis X.env.scope x:=by first | exact Or.inl rfl | exact Or.inr (Or.inl rfl) | exact Or.inr (Or.inr rfl))(hd:(x==("__debug__":Str))=false:=by decide)
 (hcd:(x==("__classdict__":Str))=false:=by decide):ME X (.Name x pos) (getV i):=
 PE.imp (Ydx hN hv hd hcd) fun σ H Q hx_=>by
  obtain⟨ρ,d,H0,G0,G,e,s,h⟩:=hx_
  obtain⟨v,h1,h2⟩:=s.sh i d (Ypl e)
  exact⟨v,h1,h v H G (.refl s.seen) h2⟩
def getC(i:Nat):Ro->Option D:=fun ρ=>match ρ[i]? with
 | some (some (B.sh d))=>some d
 | some (some (B.ow l))=>some (.lst l)
 | some (some (B.od t ks vs))=>some (.dct t ks vs)
 | _=>none
theorem Yxj(i:Nat){x:Str}(hN:X.N[i]?=some x:=by rfl)(hv:Vis X.env.scope x:=by first | exact Or.inl rfl | exact Or.inr (Or.inl rfl) | exact Or.inr (Or.inr rfl))(hd:(x==("__debug__":Str))=false:=by decide)
 (hcd:(x==("__classdict__":Str))=false:=by decide):MC X (.Name x pos) (getC i):=
 PE.imp (Ydx hN hv hd hcd) fun σ H Q hx_=>by
  obtain⟨ρ,d,H0,G0,G,e,s,h⟩:=hx_
  unfold getC at e
  split at e
  ·rename_i d' hd'
   cases e
   obtain⟨v,h1,h2⟩:=s.sh i _ hd'
   exact⟨v,h1,h v H G (.refl s.seen) (.of s.seen h2)⟩
  ·rename_i l hl
   cases e
   obtain⟨a,xs,h1,h2,h3,h4,h5⟩:=s.ow i l hl
   exact⟨_,h1,h _ H G (.refl s.seen) (by rw[Ct];exact⟨a,xs,rfl,.inl h4,h5⟩)⟩
  ·rename_i t ks vs hl
   cases e
   obtain⟨a,kxs,vxs,h1,h2,h3,h4,h5⟩:=s.od i t ks vs hl
   exact⟨_,h1,h _ H G (.refl s.seen) (by rw[Ct];exact⟨a,kxs,vxs,rfl,h4,h5⟩)⟩
  ·cases e
def kD(d:D):Ro->Option D:=fun _=>some d
theorem Ye9{v:V}{d:D}{t:TE}(h:PE X e t)(ht:∀σ H Q,Q v H->t σ H Q)(hr:∀G,Rp X.K G d v):ME X e (kD d):=
 PE.imp h fun σ H Q hx_=>by
  obtain⟨ρ,d',H0,G0,G,e,s,h⟩:=hx_
  cases e
  exact ht σ H Q (h v H G (.refl s.seen) (hr G))
theorem Yxk{i:Int}{j}:ME X (.Constant (.int i) j pos) (kD (.int i)):=Ye9 (v:=.int i) Ytb (fun _ _ _ q=>q) fun _=>by rw[Rp]
theorem Yz0{k:Bool}{j}:ME X (.Constant (.bool k) j pos) (kD (.bl k)):=Ye9 (v:=.bl k) Yzj (fun _ _ _ q=>q) fun _=>by rw[Rp]
theorem Yxl{j}:ME X (.Constant .none j pos) (kD .non):=Ye9 (v:=.non) Yws (fun _ _ _ q=>q) fun _=>by rw[Rp]
theorem Yxm{x:Str}{j}(hx:PyData.strOk x=true:=by decide +kernel):ME X (.Constant (.str x) j pos) (kD (.str x)):=Ye9 (v:=.str x) Ytc (fun _ _ _ q=>q) fun _=>by rw[Rp];exact⟨rfl,hx⟩
theorem Ytk{r:R2}{g:D->D->Option D}(hr:Sem2 K r g){σ:L2.St}{H:Hp}{Q:VK}(h:tOf K (b2 fa fb g) σ H Q):tOp r (tCof K fa) (tCof K fb) σ H Q:=by
 obtain⟨ρ,d,H0,G0,G,e,s,h⟩:=h
 obtain⟨dx,dy,h1,h2,h3⟩:=Yjd e
 exact tCof.at h1 s fun v H1 G1 g1 r1 s1=>tCof.at h2 s1 fun u H2 G2 g2 r2 s2=>hr v u dx dy d H2 G2 Q h3 s2.seen (r1.grow g2) r2 fun w H' G' g3 r3=>h w H' G' ((g1.trans g2).trans g3) r3
theorem Yuo{r:R2}{g:D->D->Option Bool}(hr:Yh3 K r g){σ:L2.St}{H:Hp}{Q:Bool->Hp->Prop}(h:tTof K (b2 fa fb g) σ H Q):Yw7 (tOp r (tCof K fa) (tCof K fb)) σ H Q:=by
 obtain⟨ρ,d,H0,G0,G,e,s,h⟩:=h
 obtain⟨dx,dy,h1,h2,h3⟩:=Yjd e
 exact tCof.at h1 s fun v H1 G1 g1 r1 s1=>tCof.at h2 s1 fun u H2 G2 g2 r2 s2=>hr v u dx dy d H2 G2 _ h3 s2.seen (r1.grow g2) r2 ⟨d,rfl,h H2 G2 (g1.trans g2)⟩
def mB(f:Ro->Option Bool):Ro->Option D:=fun ρ=>(f ρ).map D.bl
theorem Ylw{f:Ro->Option Bool}{ρ:Ro}{d:D}(h:mB f ρ=some d):∃b,f ρ=some b/\d=.bl b:=by
 unfold mB at h
 obtain⟨b,h1,h2⟩:=qb h
 exact⟨b,h1,h2.symm⟩
theorem Yrz{r:R2}{g:D->D->Option Bool}(hr:Yh3 K r g){σ:L2.St}{H:Hp}{Q:VK}(h:tOf K (mB (b2 fa fb g)) σ H Q):tOp r (tCof K fa) (tCof K fb) σ H Q:=by
 obtain⟨ρ,d,H0,G0,G,e,s,h⟩:=h
 obtain⟨b,eb,rfl⟩:=Ylw e
 obtain⟨dx,dy,h1,h2,h3⟩:=Yjd eb
 exact tCof.at h1 s fun v H1 G1 g1 r1 s1=>tCof.at h2 s1 fun u H2 G2 g2 r2 s2=>hr v u dx dy b H2 G2 _ h3 s2.seen (r1.grow g2) r2 (h _ H2 G2 (g1.trans g2) (by rw[Rp]))
theorem Ykt{op:Operator}{r:R2}{g:D->D->Option D}(ho:OpR X (binaryOp op) r)(hr:Sem2 X.K r g)(ha:MC X a fa)(hb:MC X b fb):ME X (.BinOp a op b pos) (b2 fa fb g):=PE.imp (Yw1 ho ha hb) fun _ _ _ h=>Ytk hr h
theorem Ym1{op:CmpOp}{r:R2}{g:D->D->Option Bool}(ho:OpR X (compareOp op) r)(hr:Yh3 X.K r g)(ha:MC X a fa)(hb:MC X b fb)(hm:behindInMarks op b=false):ME X (.Compare a [op] [b] pos) (mB (b2 fa fb g)):=PE.imp (Yo0 ho ha hb hm) fun _ _ _ h=>Yrz hr h
theorem Ygf{op:CmpOp}{r:R2}{g:D->D->Option Bool}(ho:OpR X (compareOp op) r)(hr:Yh3 X.K r g)(ha:MC X a fa)(hb:MC X b fb)(hm:behindInMarks op b=false):MT X (.Compare a [op] [b] pos) (b2 fa fb g):=PT.imp (Yt4 ho ha hb hm) fun _ _ _ h=>Yuo hr h
theorem Yxn{r:R2}{g:D->D->Option D}(hi:IxR X r)(hr:Sem2 X.K r g)(ha:MC X a fa)(hb:MC X b fb)(hs:Yer b):ME X (.Subscript a b pos) (b2 fa fb g):=PE.imp (Yxc hi ha hb hs) fun _ _ _ h=>Ytk hr h
def i2(C:Int->Int->Bool)(g:Int->Int->Int):D->D->Option D
 | .int i,.int j=>if C i j=true then some (.int (g i j))else none
 | _,_=>none
def i2b(g:Int->Int->Bool):D->D->Option Bool
 | .int i,.int j=>some (g i j)
 | _,_=>none
theorem Ypm{C:Int->Int->Prop}{Cb:Int->Int->Bool}(hC:∀i j,Cb i j=true->C i j){g:Int->Int->Int}:Sem2 K (rI C fun i j=>.int (g i j)) (i2 Cb g):=by
 intro x y dx dy d H G Q h s rx ry q
 unfold i2 at h
 split at h
 ·split at h
  ·rename_i i j hc
   cases h
   rw[Ct]at rx ry
   subst rx;subst ry
   exact⟨i,j,rfl,rfl,hC i j hc,q _ H G (.refl s) (by rw[Rp])⟩
  ·cases h
 ·cases h
theorem Yup{g:Int->Int->Int}:Sem2 K (rI0 fun i j=>.int (g i j)) (i2 (fun _ _=>true) g):=by
 intro x y dx dy d H G Q h s rx ry q
 unfold i2 at h
 split at h
 ·split at h
  ·rename_i i j hc
   cases h
   rw[Ct]at rx ry
   subst rx;subst ry
   exact⟨i,j,rfl,rfl,q _ H G (.refl s) (by rw[Rp])⟩
  ·cases h
 ·cases h
theorem Ylx{g:Int->Int->Bool}:Yh3 K (rI0 fun i j=>.bl (g i j)) (i2b g):=by
 intro x y dx dy d H G Q h s rx ry q
 unfold i2b at h
 split at h
 ·rename_i i j
  cases h
  rw[Ct]at rx ry
  subst rx;subst ry
  exact⟨i,j,rfl,rfl,q⟩
 ·cases h
def addI:D->D->Option D:=i2 (fun _ _=>true) fun i j=>i+j
def mulI:D->D->Option D:=i2 (fun i j=>(decide (-(2 ^ 64) < i)&&decide (i < 2 ^ 64))||(decide (-(2 ^ 64) < j)&&decide (j < 2 ^ 64))) fun i j=>i * j
def divI:D->D->Option D:=i2 (fun _ j=>decide (0 < j)&&decide (j < 1073741824)) fun i j=>i / j
def modI:D->D->Option D:=i2 (fun _ j=>decide (0 < j)) fun i j=>i % j
theorem Yxo(ha:MC X a fa)(hb:MC X b fb):ME X (.BinOp a .Mult b pos) (b2 fa fb mulI):=Ykt Yw3 (Ypm fun i j h=>by
 simp only[Bool.or_eq_true,Bool.and_eq_true,decide_eq_true_eq]at h
 exact h) ha hb
theorem Yxp(ha:MC X a fa)(hb:MC X b fb):ME X (.BinOp a .FloorDiv b pos) (b2 fa fb divI):=Ykt Yt3 (Ypm fun i j h=>by
 simp only[Bool.and_eq_true,decide_eq_true_eq]at h
 exact h) ha hb
theorem Yxq(ha:MC X a fa)(hb:MC X b fb):ME X (.BinOp a .Mod b pos) (b2 fa fb modI):=Ykt Yw4 (Ypm fun i j h=>of_decide_eq_true h) ha hb
def ltI:=i2b fun i j=>decide (i < j)
def gtI:=i2b fun i j=>decide (j < i)
def geI:=i2b fun i j=>decide (j<=i)
theorem Yz1(ha:MC X a fa)(hb:MC X b fb):ME X (.Compare a [.GtE] [b] pos) (mB (b2 fa fb geI)):=Ym1 Yzu Ylx ha hb (Ydy _)
theorem Yz2(ha:MC X a fa)(hb:MC X b fb):MT X (.Compare a [.Lt] [b] pos) (b2 fa fb ltI):=Ygf Yzs Ylx ha hb (Ydy _)
theorem Yz3(ha:MC X a fa)(hb:MC X b fb):MT X (.Compare a [.Gt] [b] pos) (b2 fa fb gtI):=Ygf Yzt Ylx ha hb (Ydy _)
mutual
def dep:D->Nat
 | .tup l=>depL l+1
 | .lst l=>depL l+1
 | .scr _=>1
 | .dct _ _ _=>1000
 | .obj _ _ _=>1000
 | .adr _=>1000
 | _=>0
def depL:List D->Nat
 | []=>0
 | d::l=>max (dep d) (depL l)
end
mutual
theorem Ych:∀d:D,(toPy d).depth<=dep d
 | .non=>by simp[toPy,PyData.depth,dep]
 | .bl b=>by simp[toPy,PyData.depth,dep]
 | .int b=>by simp[toPy,PyData.depth,dep]
 | .str b=>by simp[toPy,PyData.depth,dep]
 | .tup l=>by have:=Ydb l;simp[toPy,PyData.depth,dep];lia
 | .lst l=>by have:=Ydb l;simp[toPy,PyData.depth,dep];lia
 | .scr ns=>by rw[toPy,PyData.depth,dep,W.ke_depthAll];exact qs _
 | .dct _ _ _=>by simp[toPy,PyData.depth,dep]
 | .obj _ _ _=>by simp[toPy,PyData.depth,dep]
 | .adr _=>by simp[toPy,PyData.depth,dep]
theorem Ydb:∀l:List D,PyData.depthAll (Ycp l)<=depL l
 | []=>by simp[Ycp,PyData.depthAll,depL]
 | d::l=>by have h1:=Ych d;have h2:=Ydb l;simp[Ycp,PyData.depthAll,depL];lia
end
section
variable {pins:List (Addr × Obj)} {σ:L2.St} {H:Hp} {s:Shared}
mutual
theorem Ydc(I:Inv X pins σ H s):∀{d:D} {v:V} {u:Value},dep d<=100->Rp X.K H d v->RelV v u->∃as,Reads s.heap u (toPy d) as/\(toPy d).canLay0=true
 | .non,v,u,_,r,q=>by
   rw[Rp]at r;subst r
   cases q
   exact⟨_,by rw[toPy];exact .none,by simp[toPy,PyData.canLay0]⟩
 | .bl b,v,u,_,r,q=>by
   rw[Rp]at r;subst r
   cases q
   exact⟨_,by rw[toPy];exact .bool b,by simp[toPy,PyData.canLay0]⟩
 | .int i,v,u,_,r,q=>by
   rw[Rp]at r;subst r
   obtain⟨t,rfl⟩:=q
   exact⟨_,by rw[toPy];exact .int i t,by simp[toPy,PyData.canLay0]⟩
 | .str x,v,u,_,r,q=>by
   rw[Rp]at r;obtain⟨rfl,hx⟩:=r
   obtain⟨t,rfl⟩:=q
   exact⟨_,by rw[toPy];exact .str x t,by simp[toPy,PyData.canLay0,hx]⟩
 | .tup l,v,u,hd,r,q=>by
   rw[Rp]at r
   obtain⟨a,xs,rfl,g,rl⟩:=r
   cases q
   obtain⟨_,its,rv,ht⟩:=(show ObjOk X.prog X.w H s.heap a (.tup xs) from I.hok a _ g)
   obtain⟨o,h1,h2,n,h3⟩:=ht
   obtain⟨as,q,hc⟩:=Yg4 I (by simp only[dep]at hd;lia) rl rv
   exact⟨_,by rw[toPy];exact .tuple h1 h2 h3 (by simpa using q),by simpa [toPy,PyData.canLay0]using hc⟩
 | .lst l,v,u,hd,r,q=>by
   rw[Rp]at r
   obtain⟨a,xs,rfl,g,rl⟩:=r
   cases q
   obtain⟨its,rv,pl,_⟩:=I.list (.inl g)
   obtain⟨o,h1,h2,n,h3⟩:=pl.isList
   obtain⟨as,q,hc⟩:=Yg4 I (by simp only[dep]at hd;lia) rl rv
   exact⟨_,by rw[toPy];exact .list h1 h2 h3 (by simpa using q),by simpa [toPy,PyData.canLay0]using hc⟩
 | .dct _ _ _,v,u,hd,r,q=>by simp[dep]at hd
 | .obj _ _ _,v,u,hd,r,q=>by simp[dep]at hd
 | .adr _,v,u,hd,r,q=>by simp[dep]at hd
 | .scr ns,v,u,_,r,q=>by
   rw[Rp]at r
   obtain⟨a,rfl,g⟩:=r
   cases q
   obtain⟨its,rv,pl,_⟩:=I.list g
   exact⟨_,by rw[toPy];exact W.reads_of_ints pl.isList (Yfu rv),by rw[toPy];simp[PyData.canLay0,W.ke_canLayAll0]⟩
theorem Yg4(I:Inv X pins σ H s):∀{l:List D} {xs:List V} {us:List Value},depL l<=100->RpL X.K H l xs->Vals xs us->∃as,ReadsAll s.heap us (Ycp l) as/\PyData.canLayAll0 (Ycp l)=true
 | [],xs,us,_,r,q=>by
   rw[RpL]at r;subst r
   cases q
   exact⟨_,by rw[Ycp];exact .nil,by simp[Ycp,PyData.canLayAll0]⟩
 | d::l,xs,us,hd,r,q=>by
   rw[RpL]at r
   obtain⟨x,xs,rfl,r1,r2⟩:=r
   rw[depL]at hd
   cases q with
   | cons q1 q2=>
     obtain⟨as,h1,h2⟩:=Ydc I (by lia) r1 q1
     obtain⟨bs,h3,h4⟩:=Yg4 I (by lia) r2 q2
     exact⟨_,by rw[Ycp];exact .cons h1 h3,by simp[Ycp,PyData.canLayAll0,h2,h4]⟩
end
end
theorem Yg5(l:List D)(d:D):((Ycp l).any fun y=>PyData.eqv y (toPy d))=l.any fun y=>eqD y d:=by
 induction l with
 | nil=>simp[Ycp]
 | cons e l ih=>
   rw[Ycp,List.any_cons,List.any_cons,ih]
   rfl
def eqM(neg:Bool):D->D->Option Bool:=fun d e=>if dep d<=60/\dep e<=60 then some (if neg then !eqD d e else eqD d e)else none
def rEqD(K:W.Frag)(neg:Bool):R2:=fun x y H Q=>∃d e,Rp K H d x/\Rp K H e y/\(dep d<=60/\dep e<=60)/\Q (.bl (if neg then !eqD d e else eqD d e)) H
theorem Ytl(hu:X.A.units+64 < cLine):OpR X (compareOp .Eq) (rEqD X.K false):=by
 intro pins s σ H x y v u Q I rx ry h
 obtain⟨d,e,r1,r2,hd,q⟩:=h
 obtain⟨as,h1,h2⟩:=Ydc I (by lia) r1 rx
 obtain⟨bs,h3,h4⟩:=Ydc I (by lia) r2 ry
 exact SeqAt.eqOverData X.prog X.w X.A X.xe s v u _ _ as bs _ h1 h3 h2 h4 (by have:=Ych d;have:=Ych e;lia) ⟨.bl _,H,I,rfl,by exact q⟩
theorem Ytm(hu:X.A.units+64 < cLine):OpR X (compareOp .NotEq) (rEqD X.K true):=by
 intro pins s σ H x y v u Q I rx ry h
 obtain⟨d,e,r1,r2,hd,q⟩:=h
 obtain⟨as,h1,h2⟩:=Ydc I (by lia) r1 rx
 obtain⟨bs,h3,h4⟩:=Ydc I (by lia) r2 ry
 exact SeqAt.neOverData X.prog X.w X.A X.xe s v u _ _ as bs _ h1 h3 h2 h4 (by have:=Ych d;have:=Ych e;lia) ⟨.bl _,H,I,rfl,by exact q⟩
theorem Yje{neg:Bool}:Yh3 K (rEqD K neg) (eqM neg):=by
 intro x y dx dy b H G Q h s rx ry q
 unfold eqM at h
 split at h
 ·cases h
  exact⟨dx,dy,rx.rp s,ry.rp s,by assumption,q⟩
 ·cases h
theorem Yz4(hu:X.A.units+64 < cLine)(ha:MC X a fa)(hb:MC X b fb):ME X (.Compare a [.Eq] [b] pos) (mB (b2 fa fb (eqM false))):=Ym1 (Ytl hu) Yje ha hb (Ydy _)
theorem Yz5(hu:X.A.units+64 < cLine)(ha:MC X a fa)(hb:MC X b fb):ME X (.Compare a [.NotEq] [b] pos) (mB (b2 fa fb (eqM true))):=Ym1 (Ytm hu) Yje ha hb (Ydy _)
theorem Yz6(hu:X.A.units+64 < cLine)(ha:MC X a fa)(hb:MC X b fb):MT X (.Compare a [.Eq] [b] pos) (b2 fa fb (eqM false)):=Ygf (Ytl hu) Yje ha hb (Ydy _)
theorem Yz7(hu:X.A.units+64 < cLine)(ha:MC X a fa)(hb:MC X b fb):MT X (.Compare a [.NotEq] [b] pos) (b2 fa fb (eqM true)):=Ygf (Ytm hu) Yje ha hb (Ydy _)
def Yr:D->Option (List D)
 | .tup l=>some l
 | .lst l=>some l
 | .scr ns=>some (ns.map D.int)
 | _=>none
def inD(d:D)(l:List D):Bool:=l.any fun y=>eqD y d
def inM(neg:Bool):D->D->Option Bool:=fun d c=>(Yr c).bind fun l=>if depL l<=60/\dep d<=60 then some (if neg then !inD d l else inD d l)else none
def rInD(K:W.Frag)(neg:Bool):R2:=fun x y H Q=>∃d c l,Rp K H d x/\Rp K H c y/\Yr c=some l/\(depL l<=60/\dep d<=60)/\Q (.bl (if neg then !inD d l else inD d l)) H
theorem Yao{c:D}{l:List D}(h:Yr c=some l):c=.tup l\/c=.lst l\/∃ns,c=.scr ns/\l=ns.map D.int:=by
 cases c with
 | tup m=>cases h;exact .inl rfl
 | lst m=>cases h;exact .inr (.inl rfl)
 | scr ns=>cases h;exact .inr (.inr ⟨ns,rfl,rfl⟩)
 | non=>cases h
 | bl _=>cases h
 | int _=>cases h
 | str _=>cases h
 | dct _ _ _=>cases h
 | obj _ _ _=>cases h
 | adr _=>cases h
theorem Yin:∀ns:List Int,Ycp (ns.map D.int)=ns.map PyData.int
 | []=>by simp[Ycp]
 | n::ns=>by simp[Ycp,toPy,Yin ns]
theorem Ypn(hu:X.A.units+64 < cLine):OpR X (compareOp .NotIn) (rInD X.K true):=by
 intro pins s σ H x y v u Q I rx ry h
 obtain⟨d,c,l,r1,r2,hc,hd,q⟩:=h
 obtain⟨as,h1,h2⟩:=Ydc I (by lia) r1 rx
 have hdc:dep c<=61:=by
  rcases Yao hc with rfl | rfl | ⟨ns,rfl,rfl⟩
  ·rw[dep];lia
  ·rw[dep];lia
  ·rw[dep];lia
 obtain⟨bs,h3,h4⟩:=Ydc I (by lia) r2 ry
 have hdd:=Ych d
 have hdl:=Ydb l
 rcases Yao hc with rfl | rfl | ⟨ns,rfl,rfl⟩
 ·rw[toPy]at h3 h4
  exact SeqAt.notIn_tuple_reads h3 h1 (by simpa [PyData.canLay0]using h4) h2 (by lia) ⟨.bl _,H,I,rfl,by rw[Yg5];exact q⟩
 ·rw[toPy]at h3 h4
  exact SeqAt.notIn_list_reads h3 h1 (by simpa [PyData.canLay0]using h4) h2 (by lia) ⟨.bl _,H,I,rfl,by rw[Yg5];exact q⟩
 ·rw[toPy,<-Yin]at h3 h4
  exact SeqAt.notIn_list_reads h3 h1 (by simpa [PyData.canLay0]using h4) h2 (by lia) ⟨.bl _,H,I,rfl,by rw[Yg5];exact q⟩
theorem Yuq{neg:Bool}:Yh3 K (rInD K neg) (inM neg):=by
 intro x y dx dy b H G Q h s rx ry q
 unfold inM at h
 obtain⟨l,h1,h⟩:=qa h
 split at h
 ·cases h
  exact⟨dx,dy,l,rx.rp s,ry.rp s,h1,by assumption,q⟩
 ·cases h
theorem Yxr(hu:X.A.units+64 < cLine)(ha:MC X a fa)(hb:MC X b fb)(hm:behindInMarks .NotIn b=false:=by with_unfolding_all rfl):MT X (.Compare a [.NotIn] [b] pos) (b2 fa fb (inM true)):=Ygf (Ypn hu) Yuq ha hb hm
end
end
section
variable {K:W.Frag}
section
variable {X:Cx} {a b c e:Expr} {es:List Expr} {fa fb f:Ro->Option D} {fc fd:Ro->Option Bool} {ga:Ro->Option (List D)} {pos:Pos} {rest:List Expr}
def truD:D->Option Bool
 | .non=>some false
 | .bl b=>some b
 | .int i=>some (i != 0)
 | .tup l=>some (!l.isEmpty)
 | .lst l=>some (!l.isEmpty)
 | .scr ns=>some (!ns.isEmpty)
 | .str _=>none
 | .dct _ _ _=>none
 | .obj _ _ _=>none
 | .adr _=>none
theorem Yur{d:D}{v:V}{k:Bool}{H G:Hp}(h:truD d=some k)(r:Ct X.K G H d v):TruV X.K v H k:=by
 cases d with
 | non=>rw[Ct]at r;subst r;cases h;rfl
 | bl b=>rw[Ct]at r;subst r;cases h;rfl
 | int i=>rw[Ct]at r;subst r;cases h;rfl
 | str x=>cases h
 | dct _ _ _=>cases h
 | obj _ _ _=>cases h
 | adr _=>cases h
 | tup l=>
   rw[Ct]at r
   obtain⟨a,xs,rfl,g,rl⟩:=r
   cases h
   refine .inr (.inl ⟨xs,.inl (.inl g.1),?_⟩)
   have:=rl.length
   cases l<;>cases xs<;>simp_all
 | lst l=>
   rw[Ct]at r
   obtain⟨a,xs,rfl,g,rl⟩:=r
   cases h
   refine .inl ⟨xs,.inl g,?_⟩
   have:=rl.length
   cases l<;>cases xs<;>simp_all
 | scr ns=>
   rw[Ct]at r
   obtain⟨a,rfl,g⟩:=r
   cases h
   refine .inl ⟨_,g,?_⟩
   cases ns<;>simp
theorem Yxs(ha:MC X a fa)(he:∀whole,isTrue a X.env whole=(do let v <-whole;standAt a.pos;holding [v] (truthy v)):=by intro _;rfl):MT X a (b1 fa truD):=
 PT.imp (Yrn ha he) fun σ H Q hx_=>by
  obtain⟨ρ,k,H0,G0,G,e,s,h⟩:=hx_
  obtain⟨d,h1,h2⟩:=Ya8 e
  exact tCof.at h1 s fun v H1 G1 g1 r1 s1=>⟨k,Yur h2 r1,h H1 G1 g1⟩
def andT(fc fd:Ro->Option Bool):Ro->Option Bool:=fun ρ=>(fc ρ).bind fun k=>if k=true then fd ρ else some false
def orT(fc fd:Ro->Option Bool):Ro->Option Bool:=fun ρ=>(fc ρ).bind fun k=>if k=true then some true else fd ρ
def notT(fc:Ro->Option Bool):Ro->Option Bool:=fun ρ=>(fc ρ).map (!·)
abbrev MW(X:Cx)(e:Expr)(f:Ro->Option Bool):Prop:=PW X e (tTof X.K f)
theorem PW.imp{t t':TT}(h:PW X e t)(i:∀σ H Q,t' σ H Q->t σ H Q):PW X e t':=fun whole pins s σ H Q I hw=>h whole pins s σ H Q I (i σ H Q hw)
theorem Yus(ha:MT X a fc):MW X (.BoolOp .And [a] pos) fc:=Yt0 ha
theorem Yxt(ha:MT X a fc):MW X (.BoolOp .Or [a] pos) fc:=Ywt ha
theorem Yut{σ:L2.St}{H:Hp}{Q:Bool->Hp->Prop}(h:tTof K (andT fc fd) σ H Q):tAnd (tTof K fc) (tTof K fd) σ H Q:=by
 obtain⟨ρ,k,H0,G0,G,e,s,h⟩:=h
 unfold andT at e
 obtain⟨k1,h1,e⟩:=qa e
 refine tTof.at h1 s fun H1 G1 g1 s1=>?_
 cases k1 with
 | true=>
   rw[if_pos rfl]at e ⊢
   exact tTof.at e s1 fun H2 G2 g2 _=>h H2 G2 (g1.trans g2)
 | false=>
   rw[if_neg qh]at e ⊢
   cases e
   exact h H1 G1 g1
theorem Yxu{σ:L2.St}{H:Hp}{Q:Bool->Hp->Prop}(h:tTof K (orT fc fd) σ H Q):tOr (tTof K fc) (tTof K fd) σ H Q:=by
 obtain⟨ρ,k,H0,G0,G,e,s,h⟩:=h
 unfold orT at e
 obtain⟨k1,h1,e⟩:=qa e
 refine tTof.at h1 s fun H1 G1 g1 s1=>?_
 cases k1 with
 | false=>
   rw[if_neg qh]at e ⊢
   exact tTof.at e s1 fun H2 G2 g2 _=>h H2 G2 (g1.trans g2)
 | true=>
   rw[if_pos rfl]at e ⊢
   cases e
   exact h H1 G1 g1
theorem Yxv(ha:MT X a fc)(hb:MW X (.BoolOp .And (b::rest) pos) fd):MW X (.BoolOp .And (a::b::rest) pos) (andT fc fd):=PW.imp (Ywu ha hb) fun _ _ _ h=>Yut h
theorem Yz8(ha:MT X a fc)(hb:MW X (.BoolOp .Or (b::rest) pos) fd):MW X (.BoolOp .Or (a::b::rest) pos) (orT fc fd):=PW.imp (Yzk ha hb) fun _ _ _ h=>Yxu h
theorem Yxw(ha:MT X a fc):MT X (.UnaryOp .Not a pos) (notT fc):=PT.imp (Ywv ha) fun σ H Q hx_=>by
 obtain⟨ρ,k,H0,G0,G,e,s,h⟩:=hx_
 obtain⟨k1,h1,rfl⟩:=qb e
 exact tTof.at h1 s fun H1 G1 g1 _=>h H1 G1 g1
def blD:D->Option Bool
 | .bl b=>some b
 | _=>none
theorem Ym2{d:D}{k:Bool}(h:blD d=some k):d=.bl k:=by cases d<;>simp[blD]at h;subst h;rfl
def andV(fa fb:Ro->Option D):Ro->Option D:=fun ρ=>(b1 fa blD ρ).bind fun k=>if k=true then fb ρ else some (.bl false)
def notV(fa:Ro->Option D):Ro->Option D:=fun ρ=>(b1 fa blD ρ).map fun k=>.bl (!k)
theorem Yuu(ha:ME X a fa):ME X (.BoolOp .And [a] pos) fa:=Yww ha
theorem Yxx(ha:ME X a fa)(hb:ME X (.BoolOp .And (b::rest) pos) fb):ME X (.BoolOp .And (a::b::rest) pos) (andV fa fb):=PE.imp (Ywx ha hb) fun σ H Q hx_=>by
 obtain⟨ρ,d,H0,G0,G,e,s,h⟩:=hx_
 unfold andV at e
 obtain⟨k,h1,e⟩:=qa e
 obtain⟨d1,h2,h3⟩:=Ya8 h1
 cases Ym2 h3
 refine tOf.at h2 s fun v H1 G1 g1 r1 s1=>⟨k,by rw[Rp]at r1;exact r1,?_⟩
 cases k with
 | true=>
   rw[if_pos rfl]at e ⊢
   exact tOf.at e s1 fun w H2 G2 g2 r2 _=>h w H2 G2 (g1.trans g2) r2
 | false=>
   rw[if_neg qh]at e ⊢
   cases e
   exact h _ H1 G1 g1 (by rw[Rp])
theorem Yxy(ha:ME X a fa):ME X (.UnaryOp .Not a pos) (notV fa):=PE.imp (Ywy ha) fun σ H Q hx_=>by
 obtain⟨ρ,d,H0,G0,G,e,s,h⟩:=hx_
 obtain⟨k,h1,rfl⟩:=qb e
 obtain⟨d1,h2,h3⟩:=Ya8 h1
 cases Ym2 h3
 exact tOf.at h2 s fun v H1 G1 g1 r1 s1=>⟨k,by rw[Rp]at r1;exact r1,h _ H1 G1 g1 (by rw[Rp])⟩
def ifV(fc:Ro->Option Bool)(fa fb:Ro->Option D):Ro->Option D:=fun ρ=>(fc ρ).bind fun k=>if k=true then fa ρ else fb ρ
theorem Yz9(hc:MT X c fc)(ha:ME X a fa)(hb:ME X b fb):ME X (.IfExp c a b pos) (ifV fc fa fb):=PE.imp (Yrl hc ha hb) fun σ H Q hx_=>by
 obtain⟨ρ,d,H0,G0,G,e,s,h⟩:=hx_
 unfold ifV at e
 obtain⟨k,h1,e⟩:=qa e
 refine tTof.at h1 s fun H1 G1 g1 s1=>?_
 cases k with
 | true=>
   rw[if_pos rfl]at e ⊢
   exact tOf.at e s1 fun w H2 G2 g2 r2 _=>h w H2 G2 (g1.trans g2) r2
 | false=>
   rw[if_neg qh]at e ⊢
   exact tOf.at e s1 fun w H2 G2 g2 r2 _=>h w H2 G2 (g1.trans g2) r2
def Yn6:D->Bool
 | .non=>true
 | _=>false
theorem Ym3{d:D}{v:V}{G H:Hp}(r:Ct K G H d v):decide (v=V.non)=Yn6 d:=by
 cases d with
 | non=>rw[Ct]at r;subst r;rfl
 | bl _=>rw[Ct]at r;subst r;rfl
 | int _=>rw[Ct]at r;subst r;rfl
 | str _=>rw[Ct]at r;obtain⟨rfl,_⟩:=r;rfl
 | tup _=>rw[Ct]at r;obtain⟨_,_,rfl,_⟩:=r;rfl
 | lst _=>rw[Ct]at r;obtain⟨_,_,rfl,_⟩:=r;rfl
 | scr _=>rw[Ct]at r;obtain⟨_,rfl,_⟩:=r;rfl
 | dct _ _ _=>rw[Ct]at r;obtain⟨_,_,_,rfl,_⟩:=r;rfl
 | obj _ _ _=>rw[Ct]at r;obtain⟨_,_,_,_,rfl,_⟩:=r;rfl
 | adr _=>rw[Ct]at r;subst r;rfl
def isN(neg:Bool):D->D->Option Bool:=fun d e=>if Yn6 e then some (if neg then !Yn6 d else Yn6 d)else none
theorem Yuv:Yh3 K (fun x y H Q=>y=.non/\Q (.bl (decide (x=.non))) H) (isN false):=by
 intro x y dx dy b H G Q h s rx ry q
 unfold isN at h
 split at h
 ·rename_i hn
  cases h
  cases dy<;>simp[Yn6]at hn
  rw[Ct]at ry
  exact⟨ry,by rw[Ym3 rx];exact q⟩
 ·cases h
theorem Ym4:Yh3 K (fun x y H Q=>y=.non/\Q (.bl (!decide (x=.non))) H) (isN true):=by
 intro x y dx dy b H G Q h s rx ry q
 unfold isN at h
 split at h
 ·rename_i hn
  cases h
  cases dy<;>simp[Yn6]at hn
  rw[Ct]at ry
  exact⟨ry,by rw[Ym3 rx];exact q⟩
 ·cases h
theorem Yuw(ha:MC X a fa)(hb:MC X b fb):ME X (.Compare a [.IsNot] [b] pos) (mB (b2 fa fb (isN true))):=Ym1 Yoz Ym4 ha hb (Ydy _)
theorem Yxz(ha:MC X a fa)(hb:MC X b fb):MT X (.Compare a [.Is] [b] pos) (b2 fa fb (isN false)):=Ygf Yw6 Yuv ha hb (Ydy _)
theorem Yux(ha:MC X a fa)(hb:MC X b fb):MT X (.Compare a [.IsNot] [b] pos) (b2 fa fb (isN true)):=Ygf Yoz Ym4 ha hb (Ydy _)
def ixD:D->D->Option D
 | c,.int i=>(Yr c).bind fun l=>atI l i
 | _,_=>none
theorem Ypo{G:Hp}{l:List D}{xs:List V}{i:Int}{d:D}(r:RpL K G l xs)(h:atI l i=some d):∃x,atI xs i=some x/\Rp K G d x:=by
 unfold atI at h ⊢
 rw[r.length]
 obtain⟨j,h1,h2⟩:=qa h
 obtain⟨x,h3,h4⟩:=r.get h2
 exact⟨x,by rw[h1];exact h3,h4⟩
theorem Yx0:Sem2 X.K (rIx X.K) ixD:=by
 intro x y dx dy d H G Q h s rx ry q
 unfold ixD at h
 split at h
 ·rename_i c i
  obtain⟨l,h1,h2⟩:=qa h
  rw[Ct]at ry
  subst ry
  rcases Yao h1 with rfl | rfl | ⟨ns,rfl,rfl⟩
  ·rw[Ct]at rx
   obtain⟨p,xs,rfl,g,rl⟩:=rx
   obtain⟨v,h3,h4⟩:=Ypo rl h2
   exact .inr (.inl ⟨p,xs,i,v,rfl,rfl,.inl (.inl g.1),h3,q v H G (.refl s) h4⟩)
  ·rw[Ct]at rx
   obtain⟨p,xs,rfl,g,rl⟩:=rx
   obtain⟨v,h3,h4⟩:=Ypo rl h2
   exact .inl ⟨p,xs,i,v,rfl,rfl,.inl g,h3,q v H G (.refl s) h4⟩
  ·rw[Ct]at rx
   obtain⟨p,rfl,g⟩:=rx
   obtain⟨v,h3,h4⟩:=Ypo (G:=G) (K:=X.K) (.ints ns) h2
   exact .inl ⟨p,_,i,v,rfl,rfl,g,h3,q v H G (.refl s) h4⟩
 ·cases h
theorem Yuy(ha:MC X a fa)(hb:MC X b fb)(hs:Yer b:=by intro _ _;rfl):ME X (.Subscript a b pos) (b2 fa fb ixD):=Yxn Yxd Yx0 ha hb hs
def intD:D->Option Int
 | .int i=>some i
 | _=>none
def optI(f:Option (Ro->Option D)):Ro->Option (Option Int):=fun ρ=>match f with
 | none=>some none
 | some f=>(b1 f intD ρ).map some
def cutD(l:List D)(lo hi:Option Int):List D:=(l.drop (HT.sIx l.length 0 lo)).take (HT.sIx l.length l.length hi - HT.sIx l.length 0 lo)
def lstD:D->Option (List D)
 | .lst l=>some l
 | .scr ns=>some (ns.map D.int)
 | _=>none
theorem Ypp{d:D}{l:List D}{v:V}{G H:Hp}(h:lstD d=some l)(r:Ct K G H d v):∃p xs,v=.ref p/\SqL K H p xs/\RpL K G l xs:=by
 cases d with
 | lst m=>
   cases h
   rw[Ct]at r
   obtain⟨p,xs,e,g,q⟩:=r
   exact⟨p,xs,e,.inl g,q⟩
 | scr ns=>
   cases h
   rw[Ct]at r
   obtain⟨p,e,g⟩:=r
   exact⟨p,_,e,g,.ints ns⟩
 | non=>cases h
 | bl _=>cases h
 | int _=>cases h
 | str _=>cases h
 | tup _=>cases h
 | dct _ _ _=>cases h
 | obj _ _ _=>cases h
 | adr _=>cases h
def slF(fa:Ro->Option D)(lo hi:Option (Ro->Option D)):Ro->Option (List D):=fun ρ=>(b1 fa lstD ρ).bind fun l=>(optI lo ρ).bind fun i=>(optI hi ρ).bind fun j=>some (cutD l i j)
abbrev tO(K:W.Frag)(f:Option (Ro->Option D)):TO:=match f with
 | none=>Yo9
 | some f=>Yxb (tCof K f)
theorem Yx1{H0 G0 H G:Hp}{σ:L2.St}{ρ:Ro}{f:Option (Ro->Option D)}{i:Option Int}{Q:Option Int->Hp->Prop}(e:optI f ρ=some i)(s:SR K H0 G0 σ H G ρ)(h:∀H' G',Gr H G H' G'->SR K H0 G0 σ H' G' ρ->Q i H'):tO K f σ H Q:=by
 cases f with
 | none=>
   cases e
   exact h H G (.refl s.seen) s
 | some f=>
   obtain⟨k,h1,rfl⟩:=qb e
   obtain⟨d,h2,h3⟩:=Ya8 h1
   refine tCof.at h2 s fun v H1 G1 g1 r1 s1=>⟨k,?_,h H1 G1 g1 s1⟩
   cases d<;>simp[intD]at h3
   subst h3
   rw[Ct]at r1
   exact r1
theorem Yr0{lo hi:Option Expr}{fl fh:Option (Ro->Option D)}{p2:Pos}(ha:MC X a fa)(hl:PO X lo (tO X.K fl))(hh:PO X hi (tO X.K fh)):MF X (.Subscript a (.Slice lo hi none p2) pos) (slF fa fl fh):=
 PE.imp (Yrr Yue ha hl hh) fun σ H Q hx_=>by
  obtain⟨ρ,l,H0,G0,G,e,s,h⟩:=hx_
  unfold slF at e
  obtain⟨l0,h1,e⟩:=qa e
  obtain⟨i,h2,e⟩:=qa e
  obtain⟨j,h3,e⟩:=qa e
  cases e
  obtain⟨d,h4,h5⟩:=Ya8 h1
  refine tCof.at h4 s fun v H1 G1 g1 r1 s1=>Yx1 h2 s1 fun H2 G2 g2 s2=>Yx1 h3 s2 fun H3 G3 g3 s3=>?_
  have r3:=(r1.grow g2).grow g3
  obtain⟨p,xs,rfl,g,rl⟩:=Ypp h5 r3
  refine⟨p,xs,rfl,g,fun q hq=>?_⟩
  have hq0:H q=none:=g1.h.free (g2.h.free (g3.h.free hq))
  have gg:=((g1.trans g2).trans g3).trans (Gr.hid (p:=q) s3.seen hq (.lst (cutV xs i j)))
  refine h q _ _ G3 gg hq0 (s3.seen.free hq) Yl ?_
  unfold cutD cutV
  rw[rl.length]
  exact(rl.drop _).take _
theorem y0a:PO X none (tO X.K none):=Yuc
theorem y0b(h:MC X e f):PO X (some e) (tO X.K (some f)):=Yud h
def lF(f:Ro->Option (List D)):Ro->Option D:=fun ρ=>(f ρ).map D.lst
theorem MF.me{g:Ro->Option (List D)}(h:MF X e g):ME X e (lF g):=PE.imp h fun σ H Q hx_=>by
 obtain⟨ρ,d,H0,G0,G,e,s,h⟩:=hx_
 obtain⟨l,h1,rfl⟩:=qb e
 exact⟨ρ,l,H0,G0,G,h1,s,fun p xs H' G' g hp gp e' r=>h _ H' _ (g.show hp gp e') (by
  rw[Rp]
  refine⟨p,xs,rfl,.inl Yl,r.mono fun b o q=>?_⟩
  rw[Yj (Yt q gp)];exact q)⟩
def aNil:Ro->Option (List D):=fun _=>some []
def Ye(f:Ro->Option D)(g:Ro->Option (List D)):Ro->Option (List D):=fun ρ=>(f ρ).bind fun d=>(g ρ).map (d::·)
theorem Ytn:MA X [] aNil:=PA.imp Yc4 fun σ H Q hx_=>by
 obtain⟨ρ,l,H0,G0,G,e,s,h⟩:=hx_
 cases e
 exact h [] H G (.refl s.seen) .nil
theorem Ypq(ha:ME X e f)(hr:MA X es ga)(hs:starEach (e::es) X.env=(false,eval e X.env)::starEach es X.env:=by rfl):MA X (e::es) (Ye f ga):=PA.imp (Ya7 ha hr hs) fun σ H Q hx_=>by
 obtain⟨ρ,l,H0,G0,G,e,s,h⟩:=hx_
 unfold Ye at e
 obtain⟨d,h1,e⟩:=qa e
 obtain⟨l',h2,rfl⟩:=qb e
 exact tOf.at h1 s fun v H1 G1 g1 r1 s1=>tAof.at h2 s1 fun vs H2 G2 g2 r2 _=>h (v::vs) H2 G2 (g1.trans g2) (.cons (r1.mono g2.g) r2)
theorem Ypr:MCA X [] aNil:=PA.imp Yc4 fun σ H Q hx_=>by
 obtain⟨ρ,l,H0,G0,G,e,s,h⟩:=hx_
 cases e
 exact h [] H G (.refl s.seen) rfl
theorem Ym5(ha:MC X e f)(hr:MCA X es ga)(hs:starEach (e::es) X.env=(false,eval e X.env)::starEach es X.env:=by rfl):MCA X (e::es) (Ye f ga):=PA.imp (Ya7 ha hr hs) fun σ H Q hx_=>by
 obtain⟨ρ,l,H0,G0,G,e,s,h⟩:=hx_
 unfold Ye at e
 obtain⟨d,h1,e⟩:=qa e
 obtain⟨l',h2,rfl⟩:=qb e
 exact tCof.at h1 s fun v H1 G1 g1 r1 s1=>tCAof.at h2 s1 fun vs H2 G2 g2 r2 _=>h (v::vs) H2 G2 (g1.trans g2) ⟨v,vs,rfl,r1.grow g2,r2⟩
def cap6:Nat:=1000000
theorem Yeu{n:Nat}(h:n<=cap6):n<=sizeLine:=qz h (by rw[sizeLine_eq];decide)
def dTup(ga:Ro->Option (List D)):Ro->Option D:=fun ρ=>(ga ρ).bind fun l=>if l.length<=cap6 then some (.tup l)else none
theorem Yx2{x1}(h:MA X es ga):ME X (.Tuple es x1 pos) (dTup ga):=PE.imp (Yw9 h) fun σ H Q hx_=>by
 obtain⟨ρ,d,H0,G0,G,e,s,h⟩:=hx_
 unfold dTup at e
 obtain⟨l,h1,e⟩:=qa e
 split at e
 ·cases e
  refine tAof.at h1 s fun vs H1 G1 g1 r1 s1=>⟨by rw[r1.length];exact Yeu (by assumption),fun p hp=>?_⟩
  refine h _ _ _ (g1.trans (.new s1.seen hp (.tup vs))) ?_
  rw[Rp]
  exact⟨p,vs,rfl,Yl,r1.mono (Gr.new s1.seen hp (.tup vs)).g⟩
 ·cases e
def dLst(ga:Ro->Option (List D)):Ro->Option (List D):=fun ρ=>(ga ρ).bind fun l=>if l.length<=cap6 then some l else none
theorem Yx3(h:MA X es ga):MF X (.List es pos) (dLst ga):=PE.imp (Yms h) fun σ H Q hx_=>by
 obtain⟨ρ,d,H0,G0,G,e,s,h⟩:=hx_
 unfold dLst at e
 obtain⟨l,h1,e⟩:=qa e
 split at e
 ·cases e
  refine tAof.at h1 s fun vs H1 G1 g1 r1 s1=>⟨by rw[r1.length];exact Yeu (by assumption),fun p hp=>?_⟩
  exact h p vs _ G1 (g1.trans (.hid s1.seen hp (.lst vs))) (g1.h.free hp) (s1.seen.free hp) Yl r1
 ·cases e
def cC(ga:Ro->Option (List D))(g:List D->Option D):Ro->Option D:=fun ρ=>(ga ρ).bind g
def cF(ga:Ro->Option (List D))(g:List D->Option (List D)):Ro->Option (List D):=fun ρ=>(ga ρ).bind g
theorem Yto{r:List V->Hp->VK->Prop}{g:List D->Option D}(hr:SemC K r g){σ:L2.St}{H:Hp}{Q:VK}(h:tOf K (cC ga g) σ H Q):tCB r (tCAof K ga) σ H Q:=by
 obtain⟨ρ,d,H0,G0,G,e,s,h⟩:=h
 unfold cC at e
 obtain⟨l,h1,h2⟩:=qa e
 exact tCAof.at h1 s fun vs H1 G1 g1 r1 s1=>hr vs l d H1 G1 Q h2 s1.seen r1 fun v H' G' g2 r2=>h v H' G' (g1.trans g2) r2
theorem Yps{r:List V->Hp->VK->Prop}{g:List D->Option (List D)}(hr:SemF K r g){σ:L2.St}{H:Hp}{Q:VK}(h:tFof K (cF ga g) σ H Q):tCB r (tCAof K ga) σ H Q:=by
 obtain⟨ρ,d,H0,G0,G,e,s,h⟩:=h
 unfold cF at e
 obtain⟨l,h1,h2⟩:=qa e
 exact tCAof.at h1 s fun vs H1 G1 g1 r1 s1=>hr vs l d H1 G1 Q h2 s1.seen r1 fun p xs H' G' g2 hp gp e' r2=>h p xs H' G' (g1.trans g2) (g1.h.free hp) gp e' r2
section
variable {x:Str} {p:Pos} {id T:String} {r:List V->Hp->VK->Prop} {g:List D->Option D} {gf:List D->Option (List D)}
theorem Yr1(hc:Yco X (.builtin id) r)(hr:SemC X.K r g)(hg:Gl X x)(hm:X.mg x=none)(hv:bootBuiltins x=some (.builtin id))(ha:MCA X (e::es) ga)(hn:x≠"__name__":=by decide)(hdb:(x==("__debug__":Str))=false:=by decide)
 (he:starEach (e::es) X.env=(false,eval e X.env)::starEach es X.env:=by rfl) (hpl:(backTo pos (starEach es X.env)).any (·.1)=false:=by rfl):ME X (.Call (.Name x p) (e::es) [] pos) (cC ga g):=
 PE.imp (Ygq hc hg hm hv ha hn hdb he hpl) fun _ _ _ h=>Yto hr h
theorem Yr2(hc:Yco X (.builtin id) r)(hr:SemF X.K r gf)(hg:Gl X x)(hm:X.mg x=none)(hv:bootBuiltins x=some (.builtin id))(ha:MCA X (e::es) ga)(hn:x≠"__name__":=by decide)(hdb:(x==("__debug__":Str))=false:=by decide)
 (he:starEach (e::es) X.env=(false,eval e X.env)::starEach es X.env:=by rfl) (hpl:(backTo pos (starEach es X.env)).any (·.1)=false:=by rfl):MF X (.Call (.Name x p) (e::es) [] pos) (cF ga gf):=
 PE.imp (Ygq hc hg hm hv ha hn hdb he hpl) fun _ _ _ h=>Yps hr h
theorem Ypt(hc:Yco X (.type T) r)(hr:SemC X.K r g)(hg:Gl X x)(hm:X.mg x=none)(hv:bootBuiltins x=some (.type T))(ha:MCA X (e::es) ga)(hn:x≠"__name__":=by decide)(hdb:(x==("__debug__":Str))=false:=by decide)
 (he:starEach (e::es) X.env=(false,eval e X.env)::starEach es X.env:=by rfl) (hpl:(backTo pos (starEach es X.env)).any (·.1)=false:=by rfl):ME X (.Call (.Name x p) (e::es) [] pos) (cC ga g):=
 PE.imp (Yg0 hc hg hm hv ha hn hdb he hpl) fun _ _ _ h=>Yto hr h
theorem Ypu(hc:Yco X (.type T) r)(hr:SemF X.K r gf)(hg:Gl X x)(hm:X.mg x=none)(hv:bootBuiltins x=some (.type T))(ha:MCA X (e::es) ga)(hn:x≠"__name__":=by decide)(hdb:(x==("__debug__":Str))=false:=by decide)
 (he:starEach (e::es) X.env=(false,eval e X.env)::starEach es X.env:=by rfl) (hpl:(backTo pos (starEach es X.env)).any (·.1)=false:=by rfl):MF X (.Call (.Name x p) (e::es) [] pos) (cF ga gf):=
 PE.imp (Yg0 hc hg hm hv ha hn hdb he hpl) fun _ _ _ h=>Yps hr h
end
def spOf(K:W.Frag)(n:Nat)(fn:List D->Option D):Sp:=fun vs H Q _=>vs.length=n/\∃ds d G,Same G H/\RpL K G ds vs/\fn ds=some d/\∀v H' G',Gr H G H' G'->Rp K G' d v->Q v H'
theorem Yuz{k n:Nat}{fa':Addr}{fd':FuncData}{ps:List Str}{x:Str}{p:Pos}{fn:List D->Option D}(F:FnOk X.prog X.w X.K X.mg X.base CX0 k fa' fd' ps (spOf X.K n fn))(hr:Room k X.A)(hg:Gl X x)(hm:X.mg x=some (.ref fa'))(hk:W.keepIn X.K (.ref fa')=true)(hb:Binds X.K fd' ps [])
 (ha:MA X (e::es) ga) (hdb:(x==("__debug__":Str))=false:=by decide) (he:starEach (e::es) X.env=(false,eval e X.env)::starEach es X.env:=by rfl) (hpl:(backTo pos (starEach es X.env)).any (·.1)=false:=by rfl)
 (hl:∀ρ l,ga ρ=some l->l.length=n):ME X (.Call (.Name x p) (e::es) [] pos) (cC ga fn):=
 PE.imp (Yt8 (E:=E0) F hr hg hm hk hb .nil Ype ha hdb he hpl) fun σ H Q hx_=>by
  obtain⟨ρ,d,H0,G0,G,e,s,h⟩:=hx_
  unfold cC at e
  obtain⟨l,h1,h2⟩:=qa e
  refine tAof.at h1 s fun vs H1 G1 g1 r1 s1=>?_
  rw[List.append_nil]
  exact⟨by rw[r1.length];exact hl ρ l h1,l,d,G1,s1.seen,r1,h2,fun v H' G' g2 r2=>h v H' G' (g1.trans g2) r2⟩
theorem Yr3{ρ:Ro}{l:List D}(h:aNil ρ=some l):l.length=0:=by cases h;rfl
theorem Yfa{f:Ro->Option D}{g:Ro->Option (List D)}{n:Nat}(hg:∀ρ l,g ρ=some l->l.length=n):∀ρ l,Ye f g ρ=some l->l.length=n+1:=fun ρ l h=>by
 unfold Ye at h
 obtain⟨d,h1,e⟩:=qa h
 obtain⟨l',h2,rfl⟩:=qb e
 rw[qq,hg ρ l' h2]
def lenC:List D->Option D
 | [c]=>(Yr c).map fun l=>.int l.length
 | _=>none
theorem Ypv{G H:Hp}{c:D}{l:List D}{v:V}(h:Yr c=some l)(r:Ct K G H c v):∃p xs,v=.ref p/\(SqL K H p xs\/SqT K H p xs)/\RpL K G l xs:=by
 rcases Yao h with rfl | rfl | ⟨ns,rfl,rfl⟩
 ·rw[Ct]at r
  obtain⟨p,xs,rfl,g,rl⟩:=r
  exact⟨p,xs,rfl,.inr (.inl (.inl g.1)),rl⟩
 ·rw[Ct]at r
  obtain⟨p,xs,rfl,g,rl⟩:=r
  exact⟨p,xs,rfl,.inl (.inl g),rl⟩
 ·rw[Ct]at r
  obtain⟨p,rfl,g⟩:=r
  exact⟨p,_,rfl,.inl g,.ints ns⟩
theorem Yfx{G:Hp}{d:D}{vs:List V}(h:RpL K G [d] vs):∃v,vs=[v]/\Rp K G d v:=by
 rw[RpL]at h
 obtain⟨x,r,rfl,h1,h2⟩:=h
 rw[RpL]at h2
 subst h2
 exact⟨x,rfl,h1⟩
theorem Ycx{G H:Hp}{d:D}{vs:List V}(h:CtL K G H [d] vs):∃v,vs=[v]/\Ct K G H d v:=by
 obtain⟨x,r,rfl,h1,h2⟩:=h
 cases (show r=[] from h2)
 exact⟨x,rfl,h1⟩
theorem Ycy:SemC X.K (fun xs H Q=>∃p ys,xs=[.ref p]/\(SqL X.K H p ys\/SqT X.K H p ys)/\Q (.int ys.length) H) lenC:=by
 intro vs ds d H G Q h s r q
 match ds,h,r with
 | [c],h,r=>
   obtain⟨l,h1,rfl⟩:=qb h
   obtain⟨v,rfl,rv⟩:=Ycx r
   obtain⟨p,xs,rfl,h2,rl⟩:=Ypv (K:=X.K) h1 rv
   exact⟨p,xs,rfl,h2,q _ H G (.refl s) (by rw[Rp,rl.length])⟩
def Yr4:List D->Option (List D)
 | [c]=>Yr c
 | _=>none
theorem Ym6:SemF X.K (fun xs H Q=>∃p ys,xs=[.ref p]/\(SqL X.K H p ys\/SqT X.K H p ys)/\∀l,H l=none->Q (.ref l) (upd H l (.lst ys))) Yr4:=by
 intro vs ds l H G Q h s r q
 match ds,h,r with
 | [c],h,r=>
   obtain⟨v,rfl,rv⟩:=Ycx r
   obtain⟨p,xs,rfl,h2,rl⟩:=Ypv (K:=X.K) h rv
   exact⟨p,xs,rfl,h2,fun m hm=>q m xs _ G (.hid s hm _) hm (s.free hm) Yl rl⟩
def tupC:List D->Option D
 | [c]=>(Yr c).map D.tup
 | _=>none
theorem Yfy:SemC X.K (fun xs H Q=>∃p ys,xs=[.ref p]/\((SqL X.K H p ys/\∀l,H l=none->Q (.ref l) (upd H l (.tup ys)))\/(SqT X.K H p ys/\Q (.ref p) H))) tupC:=by
 intro vs ds d H G Q h s r q
 match ds,h,r with
 | [c],h,r=>
   obtain⟨l,h1,rfl⟩:=qb h
   obtain⟨v,rfl,rv⟩:=Ycx r
   rcases Yao h1 with rfl | rfl | ⟨ns,rfl,rfl⟩
   ·rw[Ct]at rv
    obtain⟨p,xs,rfl,g,rl⟩:=rv
    exact⟨p,xs,rfl,.inr ⟨.inl (.inl g.1),q _ H G (.refl s) (by rw[Rp];exact⟨p,xs,rfl,g.2,rl⟩)⟩⟩
   ·rw[Ct]at rv
    obtain⟨p,xs,rfl,g,rl⟩:=rv
    refine⟨p,xs,rfl,.inl ⟨.inl g,fun m hm=>q _ _ _ (.new s hm (.tup xs)) ?_⟩⟩
    rw[Rp]
    exact⟨m,xs,rfl,Yl,rl.mono (Gr.new s hm (.tup xs)).g⟩
   ·rw[Ct]at rv
    obtain⟨p,rfl,g⟩:=rv
    refine⟨p,_,rfl,.inl ⟨g,fun m hm=>q _ _ _ (.new s hm (.tup _)) ?_⟩⟩
    rw[Rp]
    exact⟨m,_,rfl,Yl,.ints ns⟩
def intC:List D->Option D
 | [.int i]=>some (.int i)
 | [.bl k]=>some (.int (if k then 1 else 0))
 | _=>none
theorem Yly:SemC X.K (fun xs H Q=>(∃i,xs=[.int i]/\Q (.int i) H)\/∃k,xs=[.bl k]/\Q (.int (if k then 1 else 0)) H) intC:=by
 intro vs ds d H G Q h s r q
 match ds,h,r with
 | [.int i],h,r=>
   cases h
   obtain⟨v,rfl,rv⟩:=Ycx r
   rw[Ct]at rv
   subst rv
   exact .inl ⟨i,rfl,q _ H G (.refl s) (by rw[Rp])⟩
 | [.bl k],h,r=>
   cases h
   obtain⟨v,rfl,rv⟩:=Ycx r
   rw[Ct]at rv
   subst rv
   exact .inr ⟨k,rfl,q _ H G (.refl s) (by rw[Rp])⟩
end
end
section
variable {K:W.Frag}
section
variable {X:Cx} {e:Expr} {f:Ro->Option D} {gl:Ro->Option (List D)} {pos pos':Pos} {st:Stmt} {sts:List Stmt} {fs gs:Ro->Option Out}
def sNil:Ro->Option Out:=fun ρ=>some (.nx ρ)
def sSeq(f g:Ro->Option Out):Ro->Option Out:=fun ρ=>(f ρ).bind fun
 | .nx ρ'=>g ρ'
 | o=>some o
theorem Yx4:MB X [] sNil:=PSs.imp Ylq fun F σ H hx_=>by
 obtain⟨ρ,out,H0,G0,G,e,s,h⟩:=hx_
 cases e
 exact h σ H G s
theorem Yu0(h1:MS X st fs)(h2:MB X sts gs):MB X (st::sts) (sSeq fs gs):=PSs.imp (Ycq h1 h2) fun F σ H hx_=>by
 obtain⟨ρ,out,H0,G0,G,e,s,h⟩:=hx_
 unfold sSeq at e
 obtain⟨o,h3,e⟩:=qa e
 cases o with
 | nx ρ'=>exact⟨ρ,.nx ρ',H0,G0,G,h3,s,fun σ' H' G' s'=>⟨ρ',out,H0,G0,G',e,s',h⟩⟩
 | rt d=>cases e;exact⟨ρ,.rt d,H0,G0,G,h3,s,h⟩
 | bk ρ'=>cases e;exact⟨ρ,.bk ρ',H0,G0,G,h3,s,h⟩
 | ct ρ'=>cases e;exact⟨ρ,.ct ρ',H0,G0,G,h3,s,h⟩
theorem Yx5(h1:MS X st fs):MB X [st] fs:=Yi3 h1
def frz1(i:Nat)(ρ:Ro):Ro:=match ρ[i]? with
 | some (some (B.ow l))=>ρ.set i (some (.sh (.lst l)))
 | some (some (B.od t ks vs))=>ρ.set i (some (.sh (.dct t ks vs)))
 | _=>ρ
theorem SR.frz1{H0 G0 H G:Hp}{σ:L2.St}{ρ:Ro}(s:SR K H0 G0 σ H G ρ)(i:Nat):∃G',SR K H0 G0 σ H G' (M.frz1 i ρ):=by
 unfold M.frz1
 split
 ·rename_i l hl
  exact s.freeze hl
 ·rename_i t ks vs hl
  exact s.freezed hl
 ·exact⟨G,s⟩
def frz(is:List Nat)(ρ:Ro):Ro:=is.foldl (fun r i=>frz1 i r) ρ
theorem SR.frz{H0 G0 H:Hp}{σ:L2.St}:∀(is:List Nat) {G:Hp} {ρ:Ro},SR K H0 G0 σ H G ρ->∃G',SR K H0 G0 σ H G' (M.frz is ρ)
 | [],G,_,s=>⟨G,s⟩
 | i::is,_,ρ,s=>by
   obtain⟨G',s'⟩:=s.frz1 i
   exact SR.frz is s'
theorem SR.frz1T{H0 G0 H G:Hp}{σ:L2.St}{ρ:Ro}(s:SR K H0 G0 σ H G ρ)(i:Nat):∃G',SR K H0 G0 σ H G' (M.frz1 i ρ)/\∀b ys,G' b=some (.tup ys)->G b=some (.tup ys):=by
 unfold M.frz1
 split
 ·rename_i l hl
  exact s.freezeT hl
 ·rename_i t ks vs hl
  exact s.freezedT hl
 ·exact⟨G,s,fun _ _ h=>h⟩
theorem SR.frzT{H0 G0 H:Hp}{σ:L2.St}:∀(is:List Nat) {G:Hp} {ρ:Ro},SR K H0 G0 σ H G ρ->∃G',SR K H0 G0 σ H G' (M.frz is ρ)/\∀b ys,G' b=some (.tup ys)->G b=some (.tup ys)
 | [],G,_,s=>⟨G,s,fun _ _ h=>h⟩
 | i::is,_,ρ,s=>by
   obtain⟨G',s',h1⟩:=s.frz1T i
   obtain⟨G2,s2,h2⟩:=SR.frzT is s'
   exact⟨G2,s2,fun b ys e=>h1 b ys (h2 b ys e)⟩
def wF(is:List Nat)(f:Ro->Option Out):Ro->Option Out:=fun ρ=>f (frz is ρ)
theorem Yx6(is:List Nat)(h:MS X st fs):MS X st (wF is fs):=PS.imp h fun F σ H hx_=>by
 obtain⟨ρ,out,H0,G0,G,e,s,h⟩:=hx_
 obtain⟨G',s'⟩:=SR.frz is s
 exact⟨frz is ρ,out,H0,G0,G',e,s',h⟩
def sSet(i:Nat)(f:Ro->Option D):Ro->Option Out:=fun ρ=>(f ρ).map fun d=>.nx (ρ.set i (some (.sh d)))
def sOwn(i:Nat)(f:Ro->Option (List D)):Ro->Option Out:=fun ρ=>(f ρ).map fun l=>.nx (ρ.set i (some (.ow l)))
theorem Yx7{i:Nat}{F:Ends}{σ:L2.St}{H:Hp}(h:sOf K (sSet i f) F σ H):tAsg (tOf K f) (Ynt i) F σ H:=by
 obtain⟨ρ,out,H0,G0,G,e,s,h⟩:=h
 obtain⟨d,h1,rfl⟩:=qb e
 exact tOf.at h1 s fun v H1 G1 g1 r1 s1=>h _ H1 G1 (s1.set_sh i r1)
theorem Yx8{i:Nat}{F:Ends}{σ:L2.St}{H:Hp}(h:sOf K (sOwn i gl) F σ H):tAsg (tFof K gl) (Ynt i) F σ H:=by
 obtain⟨ρ,out,H0,G0,G,e,s,h⟩:=h
 obtain⟨l,h1,rfl⟩:=qb e
 exact⟨ρ,l,H0,G0,G,h1,s,fun p xs H' G' g hp gp e' r=>h _ H' G' (s.set_ow i g hp gp e' r)⟩
theorem Yx9(i:Nat){x:Str}(hN:X.N.Nodup)(he:ME X e f)(hi:X.N[i]?=some x:=by rfl)(hx:Loc X.env.scope x:=by first | exact Or.inl rfl | exact Or.inr rfl)(hs:swapsWith e (some (.Name x pos')) pos.line X.env=pure false:=by rfl)
 (hf:X.fn x=true\/X.env.scope.names.lookup x=some .local:=by first | exact .inl rfl | exact .inr rfl):MS X (.Assign [.Name x pos'] e pos) (sSet i f):=PS.imp (Ymr hN hi hx he hs hf) fun _ _ _ h=>Yx7 h
theorem Yya(i:Nat){x:Str}(hN:X.N.Nodup)(he:MF X e gl)(hi:X.N[i]?=some x:=by rfl)(hx:Loc X.env.scope x:=by first | exact Or.inl rfl | exact Or.inr rfl)(hs:swapsWith e (some (.Name x pos')) pos.line X.env=pure false:=by rfl)
 (hf:X.fn x=true\/X.env.scope.names.lookup x=some .local:=by first | exact .inl rfl | exact .inr rfl):MS X (.Assign [.Name x pos'] e pos) (sOwn i gl):=PS.imp (Ymr hN hi hx he hs hf) fun _ _ _ h=>Yx8 h
def sRet(f:Ro->Option D):Ro->Option Out:=fun ρ=>(f ρ).map .rt
theorem Yyb(he:ME X e f):MS X (.Return (some e) pos) (sRet f):=PS.imp (You he) fun F σ H hx_=>by
 obtain⟨ρ,out,H0,G0,G,e,s,h⟩:=hx_
 obtain⟨d,h1,rfl⟩:=qb e
 exact tOf.at h1 s fun v H1 G1 g1 r1 s1=>h v H1 G1 s1.gr r1
def sIf(c:Ro->Option Bool)(f g:Ro->Option Out):Ro->Option Out:=fun ρ=>(c ρ).bind fun k=>if k=true then f ρ else g ρ
theorem y0c{c:Expr}{a b:List Stmt}{fc:Ro->Option Bool}(hc:MT X c fc)(ha:MB X a fs)(hb:MB X b gs):MS X (.If c a b pos) (sIf fc fs gs):=PS.imp (Yt1 hc ha hb) fun F σ H hx_=>by
 obtain⟨ρ,out,H0,G0,G,e,s,h⟩:=hx_
 unfold sIf at e
 obtain⟨k,h1,e⟩:=qa e
 refine tTof.at h1 s fun H1 G1 g1 s1=>?_
 cases k with
 | true=>
   rw[if_pos rfl]at e ⊢
   exact⟨ρ,out,H0,G0,G1,e,s1,h⟩
 | false=>
   rw[if_neg qh]at e ⊢
   exact⟨ρ,out,H0,G0,G1,e,s1,h⟩
def sMut(i:Nat)(f:Ro->Option D)(g:List D->D->Option (List D)):Ro->Option Out:=fun ρ=>(getO i ρ).bind fun l=>(f ρ).bind fun d=>(g l d).map fun l'=>.nx (ρ.set i (some (.ow l')))
theorem Ypw{H0 G0 H G:Hp}{σ:L2.St}{ρ:Ro}{i:Nat}{l:List D}(s:SR K H0 G0 σ H G ρ)(h:getO i ρ=some l):∃a xs,σ[i]?=some (some (V.ref a))/\H a=some (.lst xs)/\RpL K G l xs/\G a=none:=by
 obtain⟨a,xs,h1,h2,h3,h4,h5⟩:=s.ow i l (Ye8 h)
 exact⟨a,xs,h1,h4,h5,h2⟩
def appD(l:List D)(d:D):Option (List D):=if l.length < cap6 then some (l++[d])else none
theorem Ypx(i:Nat){x:Str}{p2 apos cpos:Pos}(he:ME X e f)(hN:X.N[i]?=some x:=by rfl)(hv:Vis X.env.scope x:=by first | exact Or.inl rfl | exact Or.inr (Or.inl rfl) | exact Or.inr (Or.inr rfl))
 (hd:(x==("__debug__":Str))=false:=by decide) (hcd:(x==("__classdict__":Str))=false:=by decide) (hse:swapsWith (.Call (.Attribute (.Name x p2) "append" apos) [e] [] cpos) none pos.line X.env=pure false:=by rfl)
 (hs:starEach [e] X.env=[(false,eval e X.env)]:=by rfl)
 (hfew:((backTo cpos (starEach [e] X.env)).all (fun x=>!x.1)&&(backToKw cpos (keywordEach [] X.env)).all (fun x=>x.1.isSome)&&decide ([e].length+([]:List Keyword).length+(if ([]:List Keyword).isEmpty then 0 else 1) < 30))=true:=by rfl)
 (hline:(apos.endLine==cpos.line)=true:=by rfl) (hbase:attributeBase (.Name x p2) "append" X.env (eval (.Name x p2) X.env)=eval (.Name x p2) X.env:=by rfl) :
 MS X (.Expr (.Call (.Attribute (.Name x p2) "append" apos) [e] [] cpos) pos) (sMut i f appD):=
 PS.imp (Yep (Ypb PySem.F.plainAttrs_list PySem.F.slot_list_append PySem.F.type_list_append Ye3 (Ydx hN hv hd hcd) (Ya7 he Yc4 hs) hbase hfew hline hs rfl) hse) fun F σ H hx_=>by
  obtain⟨ρ,out,H0,G0,G,e,s,h⟩:=hx_
  unfold sMut at e
  obtain⟨l,h1,e⟩:=qa e
  obtain⟨d,h2,e⟩:=qa e
  obtain⟨l',h3,rfl⟩:=qb e
  unfold appD at h3
  split at h3
  ·rename_i hl
   cases h3
   obtain⟨a,xs,ha,hH,hr,hG⟩:=Ypw s h1
   refine⟨_,ha,.inl ⟨rfl,xs,SqL.of hH⟩,tOf.at h2 s fun v H1 G1 g1 r1 s1=>?_⟩
   refine⟨a,xs,v,rfl,rfl,g1.h _ _ hH,?_,h σ _ G1 (s1.mut (Ye8 h1) ha ((hr.mono g1.g).append (.one r1)))⟩
   rw[hr.length]
   exact Qb hl (Yeu (qs _))
  ·cases h3
theorem Yr5{J:It}{G':Hp}{ds:List D}(hz:ds.length<=sizeLine)(h:∀(i:Nat) H2 G2,Same G' G2->Same G2 H2->(∀d,ds[i]?=some d->J.go i H2/\∀y H3,J.yld i H2 y H3->H3=H2/\Rp K G2 d y)/\(ds.length<=i->J.stop i H2)):Wk K J G' ds:=
 ⟨hz,fun i H2 G2 s1 s2=>⟨fun d hd=>⟨((h i H2 G2 s1 s2).1 d hd).1,fun y H3 q=>by
  obtain⟨rfl,r⟩:=((h i H2 G2 s1 s2).1 d hd).2 y H3 q
  exact⟨G2,.refl s2,r⟩⟩,(h i H2 G2 s1 s2).2⟩⟩
variable {tg:Expr}
def iSeq(K:W.Frag)(tl:TE):TI:=fun σ H R=>tl σ H fun x H1=>∃a xs,x=.ref a/\((SqL K H1 a xs/\(xs.length<=sizeLine->R (Itl K a) H1))\/(SqT K H1 a xs/\(xs.length<=sizeLine->R (Itt K a) H1)))
theorem Yyc{l:Expr}{tl:TE}(hl:PE X l tl):PI X tg l (iSeq X.K tl):=by
 intro pins s σ H R I h
 refine thn (hl pins s σ H _ I h) fun v s1 hx_=>?_
 obtain⟨x,H1,I1,r1,q1⟩:=hx_
 obtain⟨a,xs,e,q1⟩:=q1
 subst e
 cases r1
 rcases q1 with⟨hq,q⟩ | ⟨hq,q⟩
 ·obtain⟨its,rv,p,hz⟩:=I1.list hq
  refine wpAny_pyIter_list p.isList ?_
  refine⟨s1.heap.objs.size,[s1.heap.objs.size],_,_,H1,rfl,I1.kept (t':=s1.toks) fun b o e=>qd _ e,Yow a _,⟨_,qo _ rfl,rfl,rfl⟩,fun b hb=>?_,q hz⟩
  have e:b=s1.heap.objs.size:=by simpa using hb
  subst e
  exact I1.fpOk (qs _) (I1.hok.fresh (qs _))
 ·obtain⟨its,rv,p,hz⟩:=I1.tuple hq
  refine wpAny_pyIter_tuple (show s1.heap.IsTuple a its.toArray from p) ?_
  refine⟨s1.heap.objs.size,[s1.heap.objs.size],_,_,H1,rfl,I1.kept (t':=s1.toks) fun b o e=>qd _ e,Ynu a _,⟨_,qo _ rfl,rfl,rfl⟩,fun b hb=>?_,q hz⟩
  have e:b=s1.heap.objs.size:=by simpa using hb
  subst e
  exact I1.fpOk (qs _) (I1.hok.fresh (qs _))
theorem Yyd{l:Expr}(hl:ME X l f):MI X tg l (b1 f Yr):=PI.imp (Yyc hl) fun σ H R hx_=>by
 obtain⟨ρ,ds,H0,G0,G,e,s,h⟩:=hx_
 obtain⟨c,h1,h2⟩:=Ya8 e
 refine tOf.at h1 s fun v H1 G1 g1 r1 s1=>?_
 rcases Yao h2 with rfl | rfl | ⟨ns,rfl,rfl⟩
 ·rw[Rp]at r1
  obtain⟨p,xs,rfl,g,rl⟩:=r1
  refine⟨p,xs,rfl,.inr ⟨.inl (.inl (s1.seen _ _ g)),fun hz=>h _ H1 G1 g1 (Yr5 (by rw[<-rl.length];exact hz) fun i H2 G2 e1 e2=>⟨fun d hd=>?_,fun hi=>⟨xs,.inl (.inl (e2 _ _ (e1 _ _ g))),by rw[rl.length];exact hi⟩⟩)⟩⟩
  obtain⟨x,hx,rx⟩:=rl.get hd
  refine⟨⟨xs,x,.inl (.inl (e2 _ _ (e1 _ _ g))),hx⟩,fun y H3 q=>⟨q.1,?_⟩⟩
  have:=q.2 xs (.inl (.inl (e2 _ _ (e1 _ _ g))))
  rw[hx]at this
  cases this
  exact rx.mono e1
 ·rw[Rp]at r1
  obtain⟨p,xs,rfl,g,rl⟩:=r1
  refine⟨p,xs,rfl,.inl ⟨.inl (Yan s1.seen g),fun hz=>h _ H1 G1 g1 (Yr5 (by rw[<-rl.length];exact hz) fun i H2 G2 e1 e2=>⟨fun d hd=>?_,fun hi=>⟨xs,.inl (Yan e2 (Yan e1 g)),by rw[rl.length];exact hi⟩⟩)⟩⟩
  obtain⟨x,hx,rx⟩:=rl.get hd
  refine⟨⟨xs,x,.inl (Yan e2 (Yan e1 g)),hx⟩,fun y H3 q=>⟨q.1,?_⟩⟩
  have:=q.2 xs (.inl (Yan e2 (Yan e1 g)))
  rw[hx]at this
  cases this
  exact rx.mono e1
 ·rw[Rp]at r1
  obtain⟨p,rfl,g⟩:=r1
  have rl:RpL X.K G1 (ns.map D.int) (ns.map V.int):=.ints ns
  refine⟨p,_,rfl,.inl ⟨s1.seen.seq g,fun hz=>h _ H1 G1 g1 (Yr5 (by rw[<-rl.length];exact hz) fun i H2 G2 e1 e2=>⟨fun d hd=>?_,fun hi=>⟨_,e2.seq (e1.seq g),by rw[rl.length];exact hi⟩⟩)⟩⟩
  obtain⟨x,hx,rx⟩:=rl.get hd
  refine⟨⟨_,x,e2.seq (e1.seq g),hx⟩,fun y H3 q=>⟨q.1,?_⟩⟩
  have:=q.2 _ (e2.seq (e1.seq g))
  rw[hx]at this
  cases this
  exact rx.mono e1
def rngD(a n:Int):List D:=(List.range (n - a).toNat).map fun i=>.int (a+(i:Nat))
theorem Yg6(a n:Int):(rngD a n).length=(n - a).toNat:=by simp[rngD]
theorem Yye{a n:Int}{G':Hp}(hz:(n - a).toNat<=sizeLine):Wk K (Itr a (n - a).toNat) G' (rngD a n):=
 Yr5 (by rw[Yg6];exact hz) fun i H2 G2 _ _=>⟨fun d hd=>by
  unfold rngD at hd
  rw[Qc]at hd
  obtain⟨j,h1,rfl⟩:=qb hd
  have hj:i < (n - a).toNat:=by
   have:=(qm h1).1
   simpa using this
  rw[List.getElem?_range hj]at h1
  cases h1
  exact⟨hj,fun y H3 q=>⟨q.1,by rw[Rp];exact q.2⟩⟩,fun hi=>by rw[Yg6]at hi;exact hi⟩
def rng1:List D->Option (List D)
 | [.int n]=>if decide (-(cap6:Int)<=n)&&decide (n<=cap6)then some (rngD 0 n)else none
 | _=>none
theorem Ypy{l ds:List D}(h:rng1 l=some ds):∃n:Int,l=[.int n]/\-1000000<=n/\n<=1000000/\ds=rngD 0 n:=by
 unfold rng1 at h
 split at h
 ·rename_i n
  split at h
  ·rename_i hc
   cases h
   simp only[Bool.and_eq_true,decide_eq_true_eq]at hc
   have hcap:(cap6:Int)=1000000:=by decide
   exact⟨n,rfl,by lia,by lia,rfl⟩
  ·cases h
 ·cases h
theorem Ypz{a:Expr}{ga:Ro->Option (List D)}{p:Pos}(hg:Gl X "range")(hm:X.mg "range"=none)(ha:MA X [a] ga)(hs:starEach [a] X.env=[(false,eval a X.env)]:=by rfl):MI X tg (.Call (.Name "range" p) [a] [] pos) (cF ga rng1):=
 PI.imp (Yox hg hm ha hs) fun σ H R hx_=>by
  obtain⟨ρ,ds,H0,G0,G,e,s,h⟩:=hx_
  unfold cF at e
  obtain⟨l,h1,h2⟩:=qa e
  refine tAof.at h1 s fun vs H1 G1 g1 r1 s1=>?_
  obtain⟨n,rfl,c1,c2,rfl⟩:=Ypy h2
  obtain⟨v,rfl,rv⟩:=Yfx r1
  rw[Rp]at rv
  subst rv
  refine⟨n,rfl,by lia,by lia,?_⟩
  have:=h (Itr 0 (n - 0).toNat) H1 G1 g1 (Yye (Yeu (by unfold cap6;lia)))
  simpa using this
def gSet(i:Nat):D->Ro->Option Ro:=fun d ρ=>some (ρ.set i (some (.sh d)))
theorem Yu1(i:Nat){x:Str}(hN:X.N.Nodup)(hi:X.N[i]?=some x:=by rfl)(hx:Loc X.env.scope x:=by first | exact Or.inl rfl | exact Or.inr rfl)(hf:X.fn x=true\/X.env.scope.names.lookup x=some .local:=by first | exact .inl rfl | exact .inr rfl):MG X (.Name x pos) (gSet i):=
 PG.imp (Yeq hN hi hx hf) fun v σ H Q hx_=>by
  obtain⟨d,ρ,ρ',H0,G0,G,e,s,r,h⟩:=hx_
  cases e
  exact h _ (s.set_sh i r)
def Ylz(i j:Nat):D->Ro->Option Ro:=fun d ρ=>match d with
 | .tup [a,b]=>some ((ρ.set i (some (.sh a))).set j (some (.sh b)))
 | _=>none
theorem Yu2(i j:Nat){x y:Str}{px py:Pos}{k:Nat}(hc:X.calm=true)(hN:X.N.Nodup)(hi:X.N[i]?=some x:=by rfl)(hj:X.N[j]?=some y:=by rfl)(hx:Loc X.env.scope x:=by first | exact Or.inl rfl | exact Or.inr rfl)(hy:Loc X.env.scope y:=by first | exact Or.inl rfl | exact Or.inr rfl)
 (hf:X.fn x=true\/X.env.scope.names.lookup x=some .local:=by first | exact .inl rfl | exact .inr rfl) (hf2:X.fn y=true\/X.env.scope.names.lookup y=some .local:=by first | exact .inl rfl | exact .inr rfl):MG X (.Tuple [.Name x px,.Name y py] k pos) (Ylz i j):=
 PG.imp (Ywz (n:=2) hc (Yea (Yeq hN hi hx hf) (Yea (Yeq hN hj hy hf2) Yov))) fun v σ H Q hx_=>by
  obtain⟨d,ρ,ρ',H0,G0,G,e,s,r,h⟩:=hx_
  match d,e,r with
  | .tup [a,b],e,r=>
    cases e
    rw[Rp]at r
    obtain⟨p,xs,rfl,g,rl⟩:=r
    rw[RpL]at rl
    obtain⟨u,us,rfl,ru,rl⟩:=rl
    obtain⟨w,rfl,rw'⟩:=Yfx rl
    exact⟨p,[u,w],rfl,.inl (.inl (s.seen _ _ g)),rfl,u,[w],rfl,w,[],rfl,rfl,h _ ((s.set_sh i ru).set_sh j rw')⟩
def forM(gt:D->Ro->Option Ro)(fb:Ro->Option Out):List D->Ro->Option Out
 | [],ρ=>some (.nx ρ)
 | d::ds,ρ=>(gt d ρ).bind fun ρ1=>(fb ρ1).bind fun
   | .nx ρ2=>forM gt fb ds ρ2
   | .ct ρ2=>forM gt fb ds ρ2
   | .bk ρ2=>some (.nx ρ2)
   | .rt d=>some (.rt d)
def sFor(gl:Ro->Option (List D))(gt:D->Ro->Option Ro)(fb:Ro->Option Out):Ro->Option Out:=fun ρ=>(gl ρ).bind fun ds=>forM gt fb ds ρ
theorem Yev{gt:D->Ro->Option Ro}{fb:Ro->Option Out}:∀(ds:List D) (ρ:Ro) (out:Out),forM gt fb ds ρ=some out->(∃ρ',out=.nx ρ')\/∃d,out=.rt d
 | [],ρ,out,h=>by cases h;exact .inl ⟨_,rfl⟩
 | d::ds,ρ,out,h=>by
   rw[forM]at h
   obtain⟨ρ1,h1,h⟩:=qa h
   obtain⟨o,h2,h⟩:=qa h
   cases o with
   | nx ρ2=>exact Yev ds ρ2 out h
   | ct ρ2=>exact Yev ds ρ2 out h
   | bk ρ2=>cases h;exact .inl ⟨_,rfl⟩
   | rt d=>cases h;exact .inr ⟨_,rfl⟩
theorem Yyf{iter:Expr}{body:List Stmt}{gt:D->Ro->Option Ro}(hp:PassesOwn (model X.prog X.w) X.A X.env X.xe)(hc:X.calm=true)(hi:MI X tg iter gl)(hg:MG X tg gt)(hb:MB X body fs)
 (hs:∀x,foldedSetIterable iter X.env x=pure x:=by intro _;rfl):MS X (.For tg iter body [] pos) (sFor gl gt fs):=
 PS.imp (Yte hp hc hi hg hb hs) fun F σ H hx_=>by
  obtain⟨ρ,out,H0,G0,G,e,s,h⟩:=hx_
  unfold sFor at e
  obtain⟨ds,h1,h2⟩:=qa e
  refine⟨ρ,ds,H0,G0,G,h1,s,fun J H1 G1 g1 wk=>?_⟩
  obtain⟨Hb,sb,back⟩:=(s.grow g1).rebase
  have hout:=Yev ds ρ out h2
  refine⟨fun i m σ' H'=>m=ds.length - i/\i<=ds.length/\∃ρ' G',SR X.K Hb G1 σ' H' G' ρ'/\forM gt fs (ds.drop i) ρ'=some out,⟨_,rfl,Nat.zero_le _,ρ,G1,sb,h2⟩,?_⟩
  rintro i m σ' H' ⟨rfl,hi,ρ',G',s',e'⟩
  have W:=wk.2 i H' G' s'.gr.g s'.seen
  by_cases hlt:i < ds.length
  ·have hd:ds[i]?=some ds[i]:=qp hlt
   obtain⟨go,yl⟩:=W.1 _ hd
   rw[List.drop_eq_getElem_cons hlt,forM]at e'
   obtain⟨ρ1,e1,e'⟩:=qa e'
   obtain⟨o,e2,e'⟩:=qa e'
   refine .inr ⟨go,fun σ' H'=>i+1<=ds.length/\∃ρ' G',SR X.K Hb G1 σ' H' G' ρ'/\forM gt fs (ds.drop (i+1)) ρ'=some out,fun σ2 H2 q=>⟨ds.length - (i+1),by lia,rfl,q.1,q.2⟩,fun x H2 y=>?_⟩
   obtain⟨G2,g2,r2⟩:=yl x H2 y
   refine⟨_,ρ',ρ1,Hb,G1,G2,e1,s'.grow g2,r2,fun σ3 s3=>?_⟩
   refine⟨ρ1,o,Hb,G1,G2,e2,s3,?_⟩
   cases o with
   | nx ρ2=>exact fun σ4 H4 G4 s4=>⟨hlt,ρ2,G4,s4,e'⟩
   | ct ρ2=>exact fun σ4 H4 G4 s4=>⟨hlt,ρ2,G4,s4,e'⟩
   | bk ρ2=>
     cases e'
     exact fun σ4 H4 G4 s4=>h σ4 H4 G4 (back _ _ _ _ s4)
   | rt d=>
     cases e'
     refine fun v H4 G4 g4 r4=>h v H4 G4 ?_ r4
     have:=(back [] H4 G4 [] (SR.mkSh g4 rfl (fun i d e=>(by simp at e)) (fun i l e=>(by simp at e)) (fun i t ks vs e=>(by simp at e)))).gr
     exact this
  ·have ei:i=ds.length:=by lia
   subst ei
   rw[List.drop_length,forM]at e'
   cases e'
   exact .inl ⟨W.2 (qs _),h σ' H' G' (back _ _ _ _ s')⟩
def capR(src:List (Option Nat))(ρ:Ro):Ro:=src.map fun o=>o.bind fun j=>match ρ[j]? with
 | some (some (B.sh d))=>some (.sh d)
 | _=>none
theorem SR.cap{H0 G0 H G:Hp}{σ:L2.St}{ρ:Ro}(s:SR K H0 G0 σ H G ρ)(src:List (Option Nat)):SR K H G (capσ src σ) H G (capR src ρ):=by
 have noow:∀(i:Nat) l,(capR src ρ)[i]?≠some (some (B.ow l)):=fun i l h=>by
  unfold capR at h
  rw[Qc]at h
  obtain⟨o,h1,h2⟩:=qb h
  obtain⟨j,rfl,h3⟩:=qa h2
  split at h3<;>cases h3
 have nood:∀(i:Nat) t ks vs,(capR src ρ)[i]?≠some (some (B.od t ks vs)):=fun i t ks vs h=>by
  unfold capR at h
  rw[Qc]at h
  obtain⟨o,h1,h2⟩:=qb h
  obtain⟨j,rfl,h3⟩:=qa h2
  split at h3<;>cases h3
 refine SR.mkSh (.refl s.seen) (by simp[capσ,capR]) (fun i d h=>?_) noow nood
 unfold capR at h
 rw[Qc]at h
 obtain⟨o,h1,h2⟩:=qb h
 obtain⟨j,rfl,h3⟩:=qa h2
 split at h3
 ·rename_i d' hd
  cases h3
  obtain⟨v,q1,q2⟩:=s.sh j _ hd
  refine⟨v,?_,q2⟩
  unfold capσ
  rw[Qc,h1]
  show some ((σ[j]?).join)=some (some v)
  rw[q1]
  rfl
 ·cases h3
def Yew(gt:D->Ro->Option Ro)(fc:Ro->Option Bool)(fe:Ro->Option D)(ρ:Ro):List D->Option (List D)
 | []=>some []
 | d::ds=>(gt d ρ).bind fun ρ1=>(fc ρ1).bind fun k=>if k=true then (fe ρ1).bind fun v=>(Yew gt fc fe ρ ds).map (v::·)else Yew gt fc fe ρ ds
def Yb3(gl:Ro->Option (List D))(src:List (Option Nat))(gt:D->Ro->Option Ro)(fc:Ro->Option Bool)(fe:Ro->Option D):Ro->Option (List D):=fun ρ=>(gl ρ).bind fun ds=>Yew gt fc fe (capR src ρ) ds
def tY:Ro->Option Bool:=fun _=>some true
theorem Yu3{σ:L2.St}{H:Hp}{Q:Bool->Hp->Prop}(h:tTof K tY σ H Q):tYes σ H Q:=by
 obtain⟨ρ,k,H0,G0,G,e,s,h⟩:=h
 cases e
 exact h H G (.refl s.seen)
theorem Yyg:PIfs X [] (tTof X.K tY):=fun pins s σ H Q I h=>Yug pins s σ H Q I (Yu3 h)
theorem Yau{src:List (Option Nat)}{i:Nat}(h:src[i]?=some none):∀ρ d ρ1,gSet i d (capR src ρ)=some ρ1->Le (capR src ρ) ρ1:=fun ρ d ρ1 e=>by
 cases e
 refine⟨by simp,fun j b hb=>?_⟩
 by_cases hj:j=i
 ·subst hj
  unfold capR at hb
  rw[Qc,h]at hb
  cases hb
 ·rw[Qa (Ne.symm hj)];exact hb
theorem Yr6{src:List (Option Nat)}{i k:Nat}(h:src[i]?=some none)(h':src[k]?=some none):∀ρ d ρ1,Ylz i k d (capR src ρ)=some ρ1->Le (capR src ρ) ρ1:=fun ρ d ρ1 e=>by
 unfold Ylz at e
 split at e
 ·cases e
  refine⟨by simp,fun j b hb=>?_⟩
  have ne:∀n,src[n]?=some none->j≠n:=fun n hn z=>by
   subst z
   unfold capR at hb
   rw[Qc,hn]at hb
   cases hb
  rw[Qa (Ne.symm (ne k h')),Qa (Ne.symm (ne i h))];exact hb
 ·cases e
theorem Yp0{src:List (Option Nat)}{gt:D->Ro->Option Ro}{fc:Ro->Option Bool}{fe:Ro->Option D}(hle:∀ρ d ρ1,gt d (capR src ρ)=some ρ1->Le (capR src ρ) ρ1){σ:L2.St}{H:Hp}{Q:VK}
 (h:tFof K (Yb3 gl src gt fc fe) σ H Q):tLC (tIof K gl) src (gOf K gt) (tTof K fc) (tOf K fe) σ H Q:=by
 obtain⟨ρ,l,H0,G0,G,e,s,h⟩:=h
 unfold Yb3 at e
 obtain⟨ds,h1,h2⟩:=qa e
 refine⟨ρ,ds,H0,G0,G,h1,s,fun J H1 G1 g1 wk p hp=>?_⟩
 have s1:=s.grow g1
 have sc:=s1.cap src
 have gp:G1 p=none:=s1.seen.free hp
 refine⟨fun i m σ' H'=>m=ds.length - i/\i<=ds.length/\∃G' done xs rest,SR K H1 G1 σ' H' G' (capR src ρ)/\H' p=some (.lst xs)/\G' p=none/\RpL K G' done xs/\xs.length<=i/\Yew gt fc fe (capR src ρ) (ds.drop i)=some rest/\done++rest=l,
  ⟨_,rfl,Nat.zero_le _,G1,[],[],l,sc.grow (Gr.hid s1.seen hp _),Yl,gp,.nil,Nat.zero_le _,h2,rfl⟩,?_⟩
 rintro i m σ' H' ⟨rfl,hi,G',done,xs,rest,s',hx,gx,rx,hl,e',hd⟩
 have W:=wk.2 i H' G' s'.gr.g s'.seen
 by_cases hlt:i < ds.length
 ·have hdi:ds[i]?=some ds[i]:=qp hlt
  obtain⟨go,yl⟩:=W.1 _ hdi
  rw[List.drop_eq_getElem_cons hlt,Yew]at e'
  obtain⟨ρ1,e1,e'⟩:=qa e'
  obtain⟨k,e2,e'⟩:=qa e'
  refine .inr ⟨go,fun x H2 y=>?_⟩
  obtain⟨G2,g2,r2⟩:=yl x H2 y
  have keep:∀{Ha Ga Hb Gb:Hp},Gr Ha Ga Hb Gb->Ha p=some (.lst xs)->Ga p=none->Hb p=some (.lst xs)/\Gb p=none:=fun {Ha Ga Hb Gb} g e1 e2=>by
   refine⟨g.h _ _ e1,?_⟩
   cases q:Gb p with
   | none=>rfl
   | some o=>
     have:=g.n p e2 (by rw[q];exact fun z=>nomatch z)
     rw[e1]at this
     cases this
  obtain⟨hx2,gx2⟩:=keep g2 hx gx
  refine⟨_,capR src ρ,ρ1,H1,G1,G2,e1,s'.grow g2,r2,fun σ3 s3=>?_⟩
  refine tTof.at e2 s3 fun H4 G4 g4 s4=>?_
  obtain⟨hx4,gx4⟩:=keep g4 hx2 gx2
  have le:=hle ρ _ ρ1 e1
  cases k with
  | false=>
    rw[if_neg qh]at e' ⊢
    exact⟨ds.length - (i+1),by lia,rfl,hlt,G4,done,xs,rest,s4.le le,hx4,gx4,(rx.mono g2.g).mono g4.g,by lia,e',hd⟩
  | true=>
    rw[if_pos rfl]at e' ⊢
    obtain⟨v,e3,e'⟩:=qa e'
    obtain⟨rest',e4,rfl⟩:=qb e'
    refine tOf.at e3 s4 fun w H5 G5 g5 r5 s5=>?_
    obtain⟨hx5,gx5⟩:=keep g5 hx4 gx4
    have hz:=wk.1
    refine⟨xs,hx5,by lia,ds.length - (i+1),by lia,rfl,hlt,G5,done++[v],xs++[w],rest',?_,Yl,gx5,(((rx.mono g2.g).mono g4.g).mono g5.g).append (.one r5),by simp;lia,e4,by simpa using hd⟩
    have s6:=s5.le le
    have noow:∀(i:Nat) l,(capR src ρ)[i]?≠some (some (B.ow l)):=fun i l h=>by
     unfold capR at h
     rw[Qc]at h
     obtain⟨o,h1,h2⟩:=qb h
     obtain⟨j,rfl,h3⟩:=qa h2
     split at h3<;>cases h3
    have nood:∀(i:Nat) t ks vs,(capR src ρ)[i]?≠some (some (B.od t ks vs)):=fun i t ks vs h=>by
     unfold capR at h
     rw[Qc]at h
     obtain⟨o,h1,h2⟩:=qb h
     obtain⟨j,rfl,h3⟩:=qa h2
     split at h3<;>cases h3
    refine SR.mkSh ⟨fun b o q=>?_,s6.gr.g,fun b o q=>?_,s6.gr.n⟩ s6.len s6.sh noow nood
    ·rw[Yj (Yt q hp)];exact s6.gr.h b o q
    ·rw[Yj (Yt q gx5)];exact s6.gr.s b o q
 ·have ei:i=ds.length:=by lia
  subst ei
  rw[List.drop_length,Yew]at e'
  cases e'
  rw[List.append_nil]at hd
  subst hd
  exact .inl ⟨W.2 (qs _),h p xs H' G' (g1.trans s'.gr) (g1.h.free hp) gx hx rx⟩
section
variable {elt iter:Expr} {ifs:List Expr} {scope:Scope} {N:List Str} {src:List (Option Nat)} {gt:D->Ro->Option Ro} {fc:Ro->Option Bool} {fe:Ro->Option D}
theorem Yu4(S:CompSc X.N X.env.scope N src scope)(hc:X.calm=true)(hit:MI X tg iter gl)(hg:∀cl C fp s H,MG (Yad X scope N cl C fp s H) tg gt)(hi:∀cl C fp s H,PIfs (Yad X scope N cl C fp s H) ifs (tTof X.K fc))(he:∀cl C fp s H,ME (Yad X scope N cl C fp s H) elt fe)
 (hle:∀ρ d ρ1,gt d (capR src ρ)=some ρ1->Le (capR src ρ) ρ1) (hs:∀x,foldedSetIterable iter X.env x=pure x:=by intro _;rfl):MF X (.ListComp elt [⟨tg,iter,ifs,0⟩] scope pos) (Yb3 gl src gt fc fe):=
 PE.imp (Yui S hc hit hg hi he hs) fun _ _ _ h=>Yp0 hle h
theorem Yu5(i:Nat){y:Str}{py spos:Pos}(hN:X.N.Nodup)(S:CompSc X.N X.env.scope N src scope)(hc:X.calm=true)(hit:MI X tg iter gl)(hg:∀cl C fp s H,MG (Yad X scope N cl C fp s H) tg gt)(hi:∀cl C fp s H,PIfs (Yad X scope N cl C fp s H) ifs (tTof X.K fc))(he:∀cl C fp s H,ME (Yad X scope N cl C fp s H) elt fe)
 (hle:∀ρ d ρ1,gt d (capR src ρ)=some ρ1->Le (capR src ρ) ρ1) (hsw:swapsWith (.ListComp elt [⟨tg,iter,ifs,0⟩] scope pos) (some (.Name y py)) spos.line X.env=pure true:=by rfl) (hy:X.N[i]?=some y:=by rfl) (hx:Loc X.env.scope y:=by first | exact Or.inl rfl | exact Or.inr rfl)
 (hf:X.fn y=true\/X.env.scope.names.lookup y=some .local:=by first | exact .inl rfl | exact .inr rfl) (hs:∀x,foldedSetIterable iter X.env x=pure x:=by intro _;rfl):MS X (.Assign [.Name y py] (.ListComp elt [⟨tg,iter,ifs,0⟩] scope pos) spos) (sOwn i (Yb3 gl src gt fc fe)):=
 PS.imp (Yuj S hc hit hg hi he hN hy hx hsw hf hs) fun F σ H h=>by
  obtain⟨ρ,out,H0,G0,G,e,s,h⟩:=h
  obtain⟨l,h1,rfl⟩:=qb e
  exact Yp0 hle ⟨ρ,l,H0,G0,G,h1,s,fun p xs H' G' g hp gp e' r=>h _ H' G' (s.set_ow i g hp gp e' r)⟩
end
def Yx(n:Nat)(ds:List D):Ro:=ds.map (fun d=>some (.sh d))++List.replicate (n - ds.length) none
def runB(k n:Nat)(fb:Ro->Option Out)(ds:List D):Option D:=if ds.length=k then (fb (Yx n ds)).bind fun
 | .rt d=>some d
 | .nx _=>some .non
 | _=>none
 else none
theorem SR.start{H G:Hp}{ds:List D}{vs:List V}{N:List Str}(s:Same G H)(r:RpL K G ds vs):SR K H G (start N vs) H G (Yx N.length ds):=by
 have hl:=r.length
 have noow:∀(i:Nat) l,(Yx N.length ds)[i]?≠some (some (B.ow l)):=fun i l h=>by
  unfold Yx at h
  rw[List.getElem?_append]at h
  split at h
  ·rw[Qc]at h
   obtain⟨d,_,h2⟩:=qb h
   cases h2
  ·rw[List.getElem?_replicate]at h
   split at h<;>cases h
 have nood:∀(i:Nat) t ks vs,(Yx N.length ds)[i]?≠some (some (B.od t ks vs)):=fun i t ks vs h=>by
  unfold Yx at h
  rw[List.getElem?_append]at h
  split at h
  ·rw[Qc]at h
   obtain⟨d,_,h2⟩:=qb h
   cases h2
  ·rw[List.getElem?_replicate]at h
   split at h<;>cases h
 refine SR.mkSh (.refl s) (by simp[L2.start,Yx,hl]) (fun i d h=>?_) noow nood
 unfold Yx at h
 rw[List.getElem?_append]at h
 split at h
 ·rename_i hi
  rw[Qc]at h
  obtain⟨d',h1,h2⟩:=qb h
  cases h2
  obtain⟨v,h3,h4⟩:=r.get h1
  refine⟨v,?_,h4⟩
  unfold L2.start
  rw[List.getElem?_append_left (by rw[qe,hl];simpa using hi),Qc,h3]
  rfl
 ·rw[List.getElem?_replicate]at h
  split at h<;>cases h
section
variable {P:Program} {w:World} {mg:Str->Option Value} {base:Heap}
theorem Yp1{x qual:Str}{st:Stmt}{f:Addr}{fd:FuncData}{N ps:List Str}{k n m:Nat}{fb:Ro->Option Out}(F:Fun K x qual st f fd)(S:FnScope N ps (defScope st))(hn:N.length=n)(hm:ps.length=m)
 (hb:∀(cdv:Value) (A:Around) (outer:List Env) (s:Shared) (H:Hp) (E:XK),Room k (A.deeper (envOfC qual (defScope st) s.heap.objs.size f cdv))->MB (cxOf CX0 P w K mg base N qual (defScope st) f cdv A outer s H E).nox (defBody st) fb) :
 FnOk P w K mg base CX0 (k+1) f fd ps (spOf K m (runB m n fb)):=by
 refine F.ok S (fun vs H Q E h=>by rw[h.1,hm]) fun cdv A outer s H vs Q E hr h=>?_
 obtain⟨hl,ds,d,G,sm,r,e,q⟩:=h
 refine⟨_,hb cdv A outer s H E hr,?_⟩
 unfold runB at e
 split at e
 ·rename_i hds
  obtain⟨o,h1,h2⟩:=qa e
  refine⟨Yx n ds,o,H,G,G,h1,by rw[<-hn];exact SR.start sm r,?_⟩
  cases o with
  | rt d'=>cases h2;exact fun v H' G' g r'=>q v H' G' g r'
  | nx ρ=>cases h2;exact fun σ' H' G' s'=>q .non H' G' s'.gr (by rw[Rp])
  | bk ρ=>cases h2
  | ct ρ=>cases h2
 ·cases e
end
end
end
section
variable {K:W.Frag}
def Okf(P:Program)(w:World)(K:W.Frag)(mg:Str->Option Value)(base:Heap)(k n:Nat)(x:Str)(ps:List Str)(fn:List D->Option D):Prop:=
 ∃a fd,FnOk P w K mg base CX0 k a fd ps (spOf K n fn)/\Binds K fd ps []/\W.keepIn K (.ref a)=true/\mg x=some (.ref a)
theorem Yyh{P:Program}{w:World}{K:W.Frag}{mg:Str->Option Value}{base:Heap}{k n:Nat}{x q:Str}{ps:List Str}{fn:List D->Option D}{st:Stmt}{a:Addr}{fd:FuncData}(F:Fun K x q st a fd)(b:Binds K fd ps [])
 (hm:mg x=some (.ref a)) (h:FnOk P w K mg base CX0 k a fd ps (spOf K n fn)):Okf P w K mg base k n x ps fn:=⟨a,fd,h,b,F.kp,hm⟩
section
variable {X:Cx} {a b e:Expr} {es:List Expr} {fa fb:Ro->Option D} {ga:Ro->Option (List D)} {pos:Pos}
theorem Yr7{j k n:Nat}{x:Str}{p:Pos}{ps:List Str}{fn:List D->Option D}(c:Okf X.prog X.w X.K X.mg X.base j n x ps fn)(hr:Room k X.A)(hg:Gl X x)(ha:MA X (e::es) ga)(hl:∀ρ l,ga ρ=some l->l.length=n)
 (hj:j<=k:=by first | exact qs _ | lia) (hdb:(x==("__debug__":Str))=false:=by decide) (he:starEach (e::es) X.env=(false,eval e X.env)::starEach es X.env:=by rfl) (hpl:(backTo pos (starEach es X.env)).any (·.1)=false:=by rfl) :
 ME X (.Call (.Name x p) (e::es) [] pos) (cC ga fn):=by
 obtain⟨a,fd,F,hb,hk,hm⟩:=c
 exact Yuz F (hr.mono hj) hg hm hk hb ha hdb he hpl hl
theorem Yyi(ha:MC X a fa)(hb:MC X b fb):ME X (.BinOp a .Add b pos) (b2 fa fb addI):=Ykt Yw2 Yup ha hb
def negI:D->Option D
 | .int i=>some (.int (-i))
 | _=>none
theorem Yyj(ha:MC X a fa):ME X (.UnaryOp .USub a pos) (b1 fa negI):=PE.imp (Yzr Yw5 ha) fun σ H Q hx_=>by
 obtain⟨ρ,d,H0,G0,G,e,s,h⟩:=hx_
 obtain⟨x,h1,h2⟩:=Ya8 e
 refine tCof.at h1 s fun v H1 G1 g1 r1 s1=>?_
 cases x<;>simp[negI]at h2
 subst h2
 rw[Ct]at r1
 exact⟨_,r1,h _ H1 G1 g1 (by rw[Rp])⟩
def catD:D->D->Option (List D)
 | .lst a,.lst b=>if a.length+b.length<=cap6 then some (a++b)else none
 | _,_=>none
def y0d:R2:=fun x y H Q=>∃l b xs zs,x=.ref l/\y=.ref b/\Rd H l (.lst xs)/\Rd H b (.lst zs)/\xs.length+zs.length<=sizeLine/\∀p,H p=none->Q (.ref p) (upd H p (.lst (xs++zs)))
theorem Yu6:OpR X (binaryOp .Add) y0d:=by
 intro pins s σ H x y v u Q I rx ry h
 obtain⟨l,b,xs,zs,rfl,rfl,hH,hB,hz,q⟩:=h
 cases rx
 cases ry
 obtain⟨z,its,n,r,e⟩:=hH.ok I.hok
 obtain⟨z2,its2,n2,r2,e2⟩:=hB.ok I.hok
 have hl:=r.length
 have hl2:=r2.length
 refine PySem.P.add_list e e2 ?_ (by rw[qj,qj];lia)
 have ea:its.toArray++its2.toArray=(its++its2).toArray:=by simp
 rw[ea]
 exact⟨.ref _,_,I.lnew (t':=s.toks) (r.append r2) (by rw[qw];lia),rfl,q _ I.fresh⟩
theorem Yyk(ha:MC X a fa)(hb:MC X b fb):MF X (.BinOp a .Add b pos) (b2 fa fb catD):=PE.imp (Yw1 Yu6 ha hb) fun σ H Q hx_=>by
 obtain⟨ρ,l,H0,G0,G,e,s,h⟩:=hx_
 obtain⟨dx,dy,h1,h2,h3⟩:=Yjd e
 refine tCof.at h1 s fun v H1 G1 g1 r1 s1=>tCof.at h2 s1 fun u H2 G2 g2 r2 s2=>?_
 unfold catD at h3
 split at h3
 ·rename_i l1 l2
  split at h3
  ·rename_i hz
   cases h3
   have r1':=r1.grow g2
   rw[Ct]at r1' r2
   obtain⟨p,xs,rfl,gp,rl⟩:=r1'
   obtain⟨q,zs,rfl,gq,rm⟩:=r2
   refine⟨p,q,xs,zs,rfl,rfl,gp,gq,by rw[rl.length,rm.length];exact Yeu hz,fun m hm=>?_⟩
   exact h m _ _ G2 ((g1.trans g2).trans (.hid s2.seen hm _)) (g1.h.free (g2.h.free hm)) (s2.seen.free hm) Yl (rl.append rm)
  ·cases h3
 ·cases h3
def Ygg:D->String
 | .non=>"NoneType"
 | .bl _=>"bool"
 | .int _=>"int"
 | .str _=>"str"
 | .tup _=>"tuple"
 | .lst _=>"list"
 | .scr _=>"list"
 | .dct _ _ _=>"dict"
 | .obj _ _ _=>"dict"
 | .adr _=>"dict"
def Yu7:D->Bool
 | .scr _=>false
 | .dct t _ _=>!t
 | .obj _ _ _=>false
 | .adr _=>false
 | _=>true
def isiD(T:String)(d:D):Option Bool:=if Yu7 d=true then some (Ygg d==T||(T=="int"&&Ygg d=="bool"))else none
theorem Yu8{G H:Hp}{d:D}{v:V}(hn:Yu7 d=true)(r:Ct K G H d v):TyOf K H v (.type (Ygg d)):=by
 cases d<;>rw[Ct]at r
 ·subst r;exact .non
 ·subst r;exact .bl _
 ·subst r;exact .int _
 ·obtain⟨rfl,_⟩:=r;exact .str _
 ·obtain⟨a,xs,rfl,g,_⟩:=r;exact .tup g.1
 ·obtain⟨a,xs,rfl,g,_⟩:=r
  rcases g with g | ⟨o,g⟩
  ·exact .lst g
  ·exact .frz g
 ·cases hn
 ·rename_i t _ _
  cases t with
  | true=>cases hn
  | false=>
    obtain⟨a,_,_,rfl,g,_⟩:=r
    rcases g with⟨_,_,g,_⟩ | ⟨g,_⟩
    ·exact .dK g
    ·cases g
 ·cases hn
 ·cases hn
def Kit(T:String):Prop:=∀(K:W.Frag) (d:D),W.kitOne K (.type (Ygg d)) (.type T)=some (Ygg d==T||(T=="int"&&Ygg d=="bool"))
theorem Yp2:Kit "str":=fun K d=>by cases d<;>rfl
theorem Yr8{T:String}(hk:Kit T):Yco X (.builtin "isinstance") (fun xs H Q=>∃x d G,xs=[x,.ty T]/\Yu7 d=true/\Ct X.K G H d x/\Q (.bl (Ygg d==T||(T=="int"&&Ygg d=="bool"))) H):=by
 intro pins s σ H xs us Q I r h
 obtain⟨x,d,G,rfl,hn,rx,q⟩:=h
 obtain⟨u,w',rfl,r1,r2⟩:=Yo1 r
 cases (show w'=Value.type T from r2)
 exact Yo6 I r1 (Yu8 hn rx) (hk X.K d) fun tk=>⟨.bl _,H,I.tok tk,rfl,q⟩
theorem Yyl{T:String}{tn:Str}{p p2:Pos}(ha:MC X a fa)(hg:Gl X "isinstance")(hg2:Gl X tn)(hm:X.mg "isinstance"=none)(hm2:X.mg tn=none)(hv2:bootBuiltins tn=some (.type T))(hk:Kit T)(hv:bootBuiltins "isinstance"=some (.builtin "isinstance"):=by decide +kernel)
 (hn2:tn≠"__name__":=by decide) (hd2:(tn==("__debug__":Str))=false:=by decide)
 (hs:starEach [a,.Name tn p2] X.env=(false,eval a X.env)::starEach [.Name tn p2] X.env:=by rfl) (hs2:starEach [.Name tn p2] X.env=(false,eval (.Name tn p2) X.env)::starEach [] X.env:=by rfl) (hpl:(backTo pos (starEach [.Name tn p2] X.env)).any (·.1)=false:=by rfl) :
 ME X (.Call (.Name "isinstance" p) [a,.Name tn p2] [] pos) (mB (b1 fa (isiD T))):=
 PE.imp (Ygq (Yr8 hk) hg hm hv (Ya7 ha (Ya7 (Ytz hg2 hm2 hv2 (v:=.ty T) rfl hn2 hd2) Yc4 hs2) hs) (by decide) (by decide) hs hpl) fun σ H Q hx_=>by
  obtain⟨ρ,d,H0,G0,G,e,s,h⟩:=hx_
  obtain⟨k,ek,rfl⟩:=Ylw e
  obtain⟨x,h1,h2⟩:=Ya8 ek
  unfold isiD at h2
  split at h2
  ·cases h2
   exact tCof.at h1 s fun v H1 G1 g1 r1 s1=>⟨v,x,G1,rfl,by assumption,r1,h _ H1 G1 g1 (by rw[Rp])⟩
  ·cases h2
end
end
section
variable {K:W.Frag}
def insI(a:Int):List Int->List Int
 | []=>[a]
 | b::l=>if a<=b then a::b::l else b::insI a l
def Yc6:List Int->List Int
 | []=>[]
 | a::l=>insI a (Yc6 l)
theorem Yg7(a:Int):∀l:List Int,(insI a l).Perm (a::l)
 | []=>.refl _
 | b::l=>by
   rw[insI]
   split
   ·exact .refl _
   ·exact((Yg7 a l).cons b).trans (.swap a b l)
theorem Ya0:∀l:List Int,(Yc6 l).Perm l
 | []=>.refl _
 | a::l=>(Yg7 a _).trans ((Ya0 l).cons a)
theorem Yg8(a:Int):∀l:List Int,l.Pairwise (·<=·)->(insI a l).Pairwise (·<=·)
 | [],_=>by simp[insI]
 | b::l,h=>by
   rw[insI]
   split
   ·rename_i hab
    refine List.pairwise_cons.mpr ⟨fun x hx=>?_,h⟩
    rcases qr hx with rfl | hx
    ·exact hab
    ·exact Int.le_trans hab ((List.pairwise_cons.mp h).1 x hx)
   ·rename_i hab
    refine List.pairwise_cons.mpr ⟨fun x hx=>?_,Yg8 a l (List.pairwise_cons.mp h).2⟩
    rcases qr ((Yg7 a l).mem_iff.mp hx)with rfl | hx
    ·lia
    ·exact(List.pairwise_cons.mp h).1 x hx
theorem Yav:∀l:List Int,(Yc6 l).Pairwise (·<=·)
 | []=>.nil
 | a::l=>Yg8 a _ (Yav l)
section
variable {prog:Program} {w:World} {A:Around} {E:Value->Shared->Prop} {s:Shared}
theorem Yn7{l:Addr}{vs:List Value}{Q:Value->Shared->Prop}(hl:s.heap.IsList l vs.toArray)(h2:vs.length < 2)
 (h:Q (.ref (s.heap.objs.size+1)) { s with heap:=sortedAll s.heap vs vs.toArray }):wpAny (model prog w) A (call (.builtin "sorted") [.ref l]) Q E s:=by
 refine Calls.call_function_entry kind_sorted plain_sorted entry_sorted (args_sorted1 _) ?_
 unfold Builtin.«sorted»
 refine wpAny_bind (m:=checkCount "sorted" 1 1 _) (wpAny_pure ?_)
 refine wpAny_bind (collect_list hl ?_ (by rw[sizeLine_eq];lia))
 refine wpAny_bind (wpAny_newList ?_ (by rw[sizeLine_eq];lia))
 have hsz:((s.heap.push (seqObj "list" #[] 0)).update s.heap.objs.size (Obj.mapSeq (·++vs.toArray))).objs.size=s.heap.objs.size+1:=by
  rw[Heap.size_update,size_push']
 have hoL:(((s.heap.push (seqObj "list" #[] 0)).update s.heap.objs.size (Obj.mapSeq (·++vs.toArray))).push (seqObj "list" vs.toArray 0)).get? (s.heap.objs.size+1)=some (seqObj "list" vs.toArray 0):=by
  rw[<-hsz];exact qo _ rfl
 show wpAny _ _ _ _ _ { s with heap:=((s.heap.push (seqObj "list" #[] 0)).update s.heap.objs.size (Obj.mapSeq (·++vs.toArray))).push (seqObj "list" vs.toArray 0) }
 rw[hsz]
 refine wpAny_bind (wpAny_holding (wpAny_call_entry slot_list_sort ⟨_,hoL,rfl⟩ entry_list_sort ?body (args_list_sort _)))
 case body=>
  rw[list_sort_plain]
  generalize hS:({ s with heap:=((s.heap.push (seqObj "list" #[] 0)).update s.heap.objs.size (Obj.mapSeq (·++vs.toArray))).push (seqObj "list" vs.toArray 0) }:Shared)=S at *
  have hoS:S.heap.get? (s.heap.objs.size+1)=some (seqObj "list" vs.toArray 0):=by rw[<-hS];exact hoL
  have ha:s.heap.objs.size+1 < S.heap.objs.size:=qk hoS
  refine wpAny_bind (listItems_at hoS rfl ?_)
  refine wpAny_bind (listUpdate_at hoS rfl ?_ (by rw[qj,sizeLine_eq];lia) (Nat.zero_le _))
  obtain⟨e1,ho1⟩:∃e1,(S.heap.update (s.heap.objs.size+1) (Obj.mapSeq fun _=>#[])).get? (s.heap.objs.size+1)=some (seqObj "list" #[] e1):=⟨_,get?_update_seq hoS (fun _=>#[])⟩
  refine wpAny_bind (seqEpoch_at ho1 rfl ?_)
  refine wpAny_bind (wpAny_newTuple ?_ (by show vs.length<=_;rw[sizeLine_eq];lia))
  refine wpAny_bind (wpAny_newList ?_ (Nat.zero_le _))
  refine wpAny_holding ?_
  have ho6:(((S.heap.update (s.heap.objs.size+1) (Obj.mapSeq fun _=>#[])).push (seqObj "tuple" vs.toArray 0)).push (seqObj "list" #[] 0)).get? (s.heap.objs.size+1)=some (seqObj "list" #[] e1):=by
   rw[Heap.get?_push_ne _ _ _ (by rw[size_push',Heap.size_update];exact ql (qu ha)),Heap.get?_push_ne _ _ _ (by rw[Heap.size_update];exact ql ha)]
   exact ho1
  show wpAny (model prog w) _ _ _ _ { S with heap:=((S.heap.update (s.heap.objs.size+1) (Obj.mapSeq fun _=>#[])).push (seqObj "tuple" vs.toArray 0)).push (seqObj "list" #[] 0) }
  dsimp only
  have hlt:vs.toArray.size < 2:=by rw[qj];exact h2
  rw[if_pos hlt,if_pos hlt]
  refine wpAny_bind (wpAny_pure ?_)
  rw[StateT.run_pure]
  refine wpAny_bind (wpAny_pure ?_)
  dsimp only
  refine wpAny_bind (seqEpoch_at ho6 rfl ?_)
  refine wpAny_bind (listUpdate_at ho6 rfl ?_ (hsz2:=by rw[Array.size_map];show(pairsOf vs).size<=_;rw[pairsOf_size,sizeLine_eq];lia))
  simp only[bne_self_eq_false,Bool.false_eq_true,if_false]
  have hout:(arrOf (SortSt.mk' general' (vs.toArray.zip vs.toArray) #[] 7 none)).map (·.2)=vs.toArray:=by
   show(vs.toArray.zip vs.toArray).map (·.2)=vs.toArray
   apply Array.toList_inj.mp
   simp[List.map_snd_zip]
  refine wpAny_pure ⟨_,rfl,wpAny_pure ⟨_,rfl,?_⟩⟩
  have hh:=h
  unfold sortedAll sortedHeap at hh
  rw[<-hS,hout]
  exact hh
def plt(j:Int)(q:Bool)(i:Int)(p:Bool):Bool:=if j=i then (!q&&p)else decide (j < i)
theorem Yu9{b c:Addr}{i j:Int}{p q:Bool}{t u:Tok}{R:Bool->Shared->Prop}(hb:IsTup s.heap b #[.int i t,.bool p])(hc:IsTup s.heap c #[.int j u,.bool q])(h:R (plt j q i p) s) :
 wpAny (model prog w) A (keyLt' (tuples' true) (.ref c) (.ref b)) R E s:=by
 obtain⟨ob,h1,_,n1,d1⟩:=hb
 obtain⟨oc,h2,_,n2,d2⟩:=hc
 refine W.kat_lt h2 d2 h1 d1 ?_
 show W.KatLex prog w A true false R [(.int j u,.int i t),(.bool q,.bool p)] 0 s
 unfold plt at h
 refine W.kat_cons (SeqAt.EqAt.int_int j u i t prog w _ _ (W.kat_go (fun e=>W.kat_yes (W.kat_cons (SeqAt.EqAt.bool_bool q p prog w _ _ (W.kat_go (fun e2=>W.kat_yes (W.kat_nil ?_)) fun e2=>W.kat_no (W.kat_one _ _ (lt_bool ?_)))))) fun e=>W.kat_no ?_))
 ·have e':j=i:=by simpa using e
  have e2':q=p:=by simpa using e2
  rw[if_pos e',e2']at h
  cases p<;>exact h
 ·have e':j=i:=by simpa using e
  rw[if_pos e']at h
  show R _ s
  cases p<;>cases q<;>first | exact h | simp at e2
 ·have e':¬j=i:=by simpa using e
  rw[if_neg e']at h
  exact oneLt_int h
theorem Yn8{cmp:Nat->Nat->(Bool->Shared->Prop)->Shared->Prop}{G:Array Nat->Shared->Prop}{S:Shared}(h:cmp 1 0 (fun k s'=>if k=true then G #[1,0] s' else G #[0,1] s') S):(W.kas_sort 2).kasWp cmp G S:=by
 show cmp 1 0 (fun k s'=>W.KasT.kasWp cmp _ G s') S
 have e:∀(k:Bool) (s':Shared),(if k=true then G #[1,0] s' else G #[0,1] s')=W.KasT.kasWp cmp (W.KasT.bind (W.KasT.bind (if k=true then W.KasT.ret 1 else W.kas_asc (List.toArray (List.range 2)) 0 2)
  fun n=>if (n==2)=true then W.KasT.ret (n,List.toArray (List.range 2))else if n > 1 then .ask ((List.toArray (List.range 2)).getD 0 0) ((List.toArray (List.range 2)).getD (n - 1) 0) fun c=>if c=true then .ret (n,List.toArray (List.range 2))else W.kas_descPart n 2 (W.kas_rev (List.toArray (List.range 2)) 0 n)
   else W.kas_descPart n 2 (List.toArray (List.range 2))) fun r=>if r.1 < 2 then W.kas_bin (2 - max r.1 1) r.2 (max r.1 1)else .ret r.2) G s':=fun k s'=>by cases k<;>rfl
 have e2:(fun(k:Bool) (s':Shared)=>if k=true then G #[1,0] s' else G #[0,1] s')=_:=funext fun k=>funext fun s'=>e k s'
 rw[e2]at h
 exact h
theorem Yn9{l b c:Addr}{i j:Int}{p q:Bool}{t u:Tok}{Q:Value->Shared->Prop}(hl:s.heap.IsList l #[.ref b,.ref c])(hb:IsTup s.heap b #[.int i t,.bool p])(hc:IsTup s.heap c #[.int j u,.bool q])
 (h:Q (.ref (s.heap.objs.size+1)) { s with heap:=sortedAll s.heap [.ref b,.ref c] (if plt j q i p=true then #[.ref c,.ref b]else #[.ref b,.ref c]) }):wpAny (model prog w) A (call (.builtin "sorted") [.ref l]) Q E s:=by
 generalize hvs:[Value.ref b,Value.ref c]=vs at *
 have hl':s.heap.IsList l vs.toArray:=hl
 have hlen:vs.length=2:=by rw[<-hvs];rfl
 refine Calls.call_function_entry kind_sorted plain_sorted entry_sorted (args_sorted1 _) ?_
 unfold Builtin.«sorted»
 refine wpAny_bind (m:=checkCount "sorted" 1 1 _) (wpAny_pure ?_)
 refine wpAny_bind (collect_list hl' ?_ (by rw[sizeLine_eq];lia))
 refine wpAny_bind (wpAny_newList ?_ (by rw[sizeLine_eq];lia))
 have hsz:((s.heap.push (seqObj "list" #[] 0)).update s.heap.objs.size (Obj.mapSeq (·++vs.toArray))).objs.size=s.heap.objs.size+1:=by
  rw[Heap.size_update,size_push']
 have hoL:(((s.heap.push (seqObj "list" #[] 0)).update s.heap.objs.size (Obj.mapSeq (·++vs.toArray))).push (seqObj "list" vs.toArray 0)).get? (s.heap.objs.size+1)=some (seqObj "list" vs.toArray 0):=by
  rw[<-hsz];exact qo _ rfl
 have keep0:∀b o,s.heap.get? b=some o->(((s.heap.push (seqObj "list" #[] 0)).update s.heap.objs.size (Obj.mapSeq (·++vs.toArray))).push (seqObj "list" vs.toArray 0)).get? b=some o:=fun b o q=>by
  have hlt:b < s.heap.objs.size:=qk q
  rw[Heap.get?_push_ne _ _ _ (by rw[hsz];exact ql (qu hlt)),Heap.get?_update_ne _ _ _ _ (ql hlt),Heap.get?_push_ne _ _ _ (ql hlt)]
  exact q
 show wpAny _ _ _ _ _ { s with heap:=((s.heap.push (seqObj "list" #[] 0)).update s.heap.objs.size (Obj.mapSeq (·++vs.toArray))).push (seqObj "list" vs.toArray 0) }
 rw[hsz]
 refine wpAny_bind (wpAny_holding (wpAny_call_entry slot_list_sort ⟨_,hoL,rfl⟩ entry_list_sort ?body (args_list_sort _)))
 case body=>
  rw[list_sort_plain]
  generalize hS:({ s with heap:=((s.heap.push (seqObj "list" #[] 0)).update s.heap.objs.size (Obj.mapSeq (·++vs.toArray))).push (seqObj "list" vs.toArray 0) }:Shared)=S at *
  have hoS:S.heap.get? (s.heap.objs.size+1)=some (seqObj "list" vs.toArray 0):=by rw[<-hS];exact hoL
  have keepS:∀b o,s.heap.get? b=some o->S.heap.get? b=some o:=by rw[<-hS];exact keep0
  have ha:s.heap.objs.size+1 < S.heap.objs.size:=qk hoS
  refine wpAny_bind (listItems_at hoS rfl ?_)
  refine wpAny_bind (listUpdate_at hoS rfl ?_ (by rw[qj,sizeLine_eq];lia) (Nat.zero_le _))
  obtain⟨e1,ho1⟩:∃e1,(S.heap.update (s.heap.objs.size+1) (Obj.mapSeq fun _=>#[])).get? (s.heap.objs.size+1)=some (seqObj "list" #[] e1):=⟨_,get?_update_seq hoS (fun _=>#[])⟩
  refine wpAny_bind (seqEpoch_at ho1 rfl ?_)
  refine wpAny_bind (wpAny_newTuple ?_ (by show vs.length<=_;rw[sizeLine_eq];lia))
  refine wpAny_bind (wpAny_newList ?_ (Nat.zero_le _))
  refine wpAny_holding ?_
  have ho6:(((S.heap.update (s.heap.objs.size+1) (Obj.mapSeq fun _=>#[])).push (seqObj "tuple" vs.toArray 0)).push (seqObj "list" #[] 0)).get? (s.heap.objs.size+1)=some (seqObj "list" #[] e1):=by
   rw[Heap.get?_push_ne _ _ _ (by rw[size_push',Heap.size_update];exact ql (qu ha)),Heap.get?_push_ne _ _ _ (by rw[Heap.size_update];exact ql ha)]
   exact ho1
  have keep6:∀b o,s.heap.get? b=some o->(((S.heap.update (s.heap.objs.size+1) (Obj.mapSeq fun _=>#[])).push (seqObj "tuple" vs.toArray 0)).push (seqObj "list" #[] 0)).get? b=some o:=fun b o q=>by
   have hlt:b < s.heap.objs.size:=qk q
   refine qd _ (qd _ ?_)
   rw[Heap.get?_update_ne _ _ _ _ (ql (qu hlt))]
   exact keepS b o q
  generalize hS6:({ S with heap:=((S.heap.update (s.heap.objs.size+1) (Obj.mapSeq fun _=>#[])).push (seqObj "tuple" vs.toArray 0)).push (seqObj "list" #[] 0) }:Shared)=S6
  have ho7:S6.heap.get? (s.heap.objs.size+1)=some (seqObj "list" #[] e1):=by rw[<-hS6];exact ho6
  have tb:IsTup S6.heap b #[.int i t,.bool p]:=by
   obtain⟨o,a1,a2⟩:=hb
   exact⟨o,by rw[<-hS6];exact keep6 b o a1,a2⟩
  have tc:IsTup S6.heap c #[.int j u,.bool q]:=by
   obtain⟨o,a1,a2⟩:=hc
   exact⟨o,by rw[<-hS6];exact keep6 c o a1,a2⟩
  dsimp only
  have hn2:¬vs.toArray.size < 2:=by rw[qj];lia
  rw[if_neg hn2,if_neg hn2]
  have kt:W.KatTups S6.heap vs [.int i t,.int j u]:=by
   obtain⟨ob,b1,b2,n1,b3⟩:=tb
   obtain⟨oc,c1,c2,n2,c3⟩:=tc
   rw[<-hvs]
   exact .cons b1 b2 b3 rfl (.cons c1 c2 c3 rfl .nil)
  refine wpAny_bind (W.kat_kind (T:=.type "int") kt (qu (qx 0)) (fun v hv=>?_) (by decide) ?_)
  ·rcases qr hv with rfl | hv
   ·exact .of_pure rfl
   ·rcases qr hv with rfl | hv
    ·exact .of_pure rfl
    ·cases hv
  have hcmp:wpAny (model prog w) A.in1.in1 (keyLt' (tuples' true) (vs.getD 1 Value.none) (vs.getD 0 Value.none)) (fun k s'=>k=plt j q i p/\s'=S6) (fun _ _=>False) S6:=by
   rw[<-hvs]
   exact Yu9 tb tc ⟨rfl,rfl⟩
  refine wpAny_bind (wpAny_mono (W.kat_run (ks:=vs) (vs:=vs) (κ:=tuples' true) (G:=fun pm s'=>s'=S6/\pm=if plt j q i p=true then #[1,0]else #[0,1])
   (Q:=fun st' s'=>s'=S6/\failedOf st'=none/\(arrOf st').map (·.2)=if plt j q i p=true then #[.ref c,.ref b]else #[.ref b,.ref c]) rfl (by lia) (by lia) (fun pm st' s' a1 a2 a3 a4=>?_) ?_) ?_ fun _ _ e=>e)
  ·obtain⟨rfl,rfl⟩:=a4
   refine⟨rfl,a3,?_⟩
   rw[W.kat_snds rfl a2,<-hvs]
   cases plt j q i p<;>rfl
  ·rw[hlen]
   refine Yn8 ?_
   refine wpAny_mono hcmp (fun k s' hk=>?_) fun _ _ x=>x
   obtain⟨rfl,rfl⟩:=hk
   cases plt j q i p
   ·exact⟨rfl,rfl⟩
   ·exact⟨rfl,rfl⟩
  rintro⟨⟨⟩,st'⟩ s' ⟨rfl,hf,hout⟩
  dsimp only
  refine wpAny_bind (seqEpoch_at ho7 rfl ?_)
  refine wpAny_bind (listUpdate_at ho7 rfl ?_ (Nat.zero_le _) (by rw[hout,sizeLine_eq];cases plt j q i p<;>exact(by decide:2<=16777216+1)))
  rw[hf]
  simp only[bne_self_eq_false,Bool.false_eq_true,if_false]
  refine wpAny_pure ⟨_,rfl,wpAny_pure ⟨_,rfl,?_⟩⟩
  have hh:=h
  unfold sortedAll sortedHeap at hh
  rw[<-hS6,<-hS,hout]
  subst hvs
  exact hh
end
def Yd0:List D->Option (List Int)
 | []=>some []
 | .int i::l=>(Yd0 l).map (i::·)
 | _=>none
def prI:D->Option (Int × Bool)
 | .tup [.int j,.bl q]=>some (j,q)
 | _=>none
def Ytp(e d:D):Option Bool:=(prI e).bind fun x=>(prI d).map fun y=>plt x.1 x.2 y.1 y.2
theorem Yfz{α:Type}{x:α}{P:Prop}(h:none=some x):P:=by cases h
theorem Ym7{d:D}{x:Int × Bool}(h:prI d=some x):d=.tup [.int x.1,.bl x.2]:=by
 cases d with
 | tup l=>cases l with
   | nil=>exact Yfz h
   | cons a l=>cases a with
     | int j=>cases l with
       | nil=>exact Yfz h
       | cons b l=>cases b with
         | bl q=>cases l with
           | nil=>exact Option.some.inj h ▸ rfl
           | cons _ _=>exact Yfz h
         | _=>exact Yfz h
     | _=>exact Yfz h
 | _=>exact Yfz h
def Yr9(l:List D):Option (List D):=match Yd0 l with
 | some ns=>if ns.length < 64 then some ((Yc6 ns).map D.int)else none
 | none=>match l with
   | [d]=>some [d]
   | [d,e]=>(Ytp e d).map fun k=>if k=true then [e,d]else [d,e]
   | _=>none
def Yjf:List D->Option (List D)
 | [.lst l]=>Yr9 l
 | _=>none
theorem Yf0:∀{l:List D} {ns:List Int},Yd0 l=some ns->l=ns.map D.int
 | [],ns,h=>by cases h;rfl
 | .int i::l,ns,h=>by
   rw[Yd0]at h
   obtain⟨m,h1,rfl⟩:=qb h
   rw[Yf0 h1]
   rfl
 | .non::l,ns,h=>by simp[Yd0]at h
 | .bl _::l,ns,h=>by simp[Yd0]at h
 | .str _::l,ns,h=>by simp[Yd0]at h
 | .tup _::l,ns,h=>by simp[Yd0]at h
 | .lst _::l,ns,h=>by simp[Yd0]at h
 | .scr _::l,ns,h=>by simp[Yd0]at h
 | .dct _ _ _::l,ns,h=>by simp[Yd0]at h
 | .obj _ _ _::l,ns,h=>by simp[Yd0]at h
 | .adr _::l,ns,h=>by simp[Yd0]at h
theorem Yjg{G:Hp}:∀{ns:List Int} {xs:List V},RpL K G (ns.map D.int) xs->xs=ns.map V.int
 | [],xs,h=>by rw[List.map_nil,RpL]at h;exact h
 | n::ns,xs,h=>by
   rw[qy,RpL]at h
   obtain⟨x,r,rfl,h1,h2⟩:=h
   rw[Rp]at h1
   rw[h1,Yjg h2]
   rfl
def Yp3(H:Hp)(x:V)(i:Int)(p:Bool):Prop:=∃a,x=.ref a/\H a=some (.tup [.int i,.bl p])
def Yym:List V->Hp->VK->Prop:=fun vs H Q=>∃a xs,vs=[.ref a]/\Rd H a (.lst xs)/\
 ((∃ns:List Int,xs=ns.map V.int/\ns.length < 64/\∀p,H p=none->Q (.ref p) (upd H p (.lst ((Yc6 ns).map V.int))))\/
  (xs.length < 2/\∀p,H p=none->Q (.ref p) (upd H p (.lst xs)))\/
  (∃x y i p j q,xs=[x,y]/\Yp3 H x i p/\Yp3 H y j q/\∀r,H r=none->Q (.ref r) (upd H r (.lst (if plt j q i p=true then [y,x]else [x,y])))))
theorem Yd1{X:Cx}:Yco X (.builtin "sorted") Yym:=by
 intro pins s σ H xs us Q I r h
 obtain⟨a,ys,rfl,hr,h⟩:=h
 obtain⟨u,rfl,ru⟩:=Yft r
 cases ru
 obtain⟨its,rv,pl,hz⟩:=I.list (.inl hr)
 have fin:∀(out:Array Value) (zs:List V),Vals zs out.toList->zs.length<=sizeLine->Q (.ref (s.heap.objs.size+1)) (upd H (s.heap.objs.size+1) (.lst zs))->EP X pins σ Q (.ref (s.heap.objs.size+1)) { s with heap:=sortedAll s.heap its out }:=fun out zs hv hz' hq=>by
  obtain⟨e,he⟩:=sortedAll_at s.heap its out
  exact⟨.ref (s.heap.objs.size+1),_,I.laid (t':=s.toks) (fun b o q=>sortedAll_old q) (Nat.le_succ _) (show ObjOk X.prog X.w _ _ _ (.lst zs) from⟨hz',out.toList,e,hv,by rw[Array.toArray_toList];exact he⟩),rfl,hq⟩
 have fr:H (s.heap.objs.size+1)=none:=I.hok.fresh (Nat.le_succ _)
 have hl:=rv.length
 rcases h with⟨ns,rfl,h64,q⟩ | ⟨h2,q⟩ | ⟨x,y,i,p,j,k,rfl,px,py,q⟩
 ·have hI:=Yfu rv
  refine sorted_ints pl.isList hI (by rw[hI.length];exact h64) fun out ns' h1 h2 h3=>?_
  have e:ns'=Yc6 ns:=W.ksm_same (h2.trans (Ya0 ns).symm) h3 (Yav ns)
  subst e
  have hn:(Yc6 ns).length=ns.length:=(Ya0 ns).length_eq
  exact fin out _ (Ye4 h1) (by rw[qe,hn,sizeLine_eq];lia) (q _ fr)
 ·refine Yn7 pl.isList (by lia) ?_
  exact fin its.toArray ys (by simpa using rv) hz (q _ fr)
 ·obtain⟨b,rfl,hb⟩:=px
  obtain⟨c,rfl,hc⟩:=py
  obtain⟨u1,u2,rfl,r1,r2⟩:=Yo1 rv
  cases r1
  cases r2
  obtain⟨_,ib,vb,tb⟩:=(show ObjOk X.prog X.w H s.heap b (.tup [.int i,.bl p]) from I.hok b _ hb)
  obtain⟨_,ic,vc,tc⟩:=(show ObjOk X.prog X.w H s.heap c (.tup [.int j,.bl k]) from I.hok c _ hc)
  obtain⟨w1,w2,rfl,⟨t,rfl⟩,w2e⟩:=Yo1 vb
  cases w2e
  obtain⟨w3,w4,rfl,⟨t',rfl⟩,w4e⟩:=Yo1 vc
  cases w4e
  refine Yn9 (by simpa using pl.isList) (by simpa using tb) (by simpa using tc) ?_
  refine fin _ (if plt j k i p=true then [.ref c,.ref b]else [.ref b,.ref c]) ?_ (by rw[sizeLine_eq];cases plt j k i p<;>exact(by decide:2<=16777216)) (q _ fr)
  cases plt j k i p
  ·exact .cons rfl (.cons rfl .nil)
  ·exact .cons rfl (.cons rfl .nil)
theorem Yku{G H:Hp}{d:D}{v:V}{i:Int}{p:Bool}(s:Same G H)(e:d=.tup [.int i,.bl p])(r:Rp K G d v):Yp3 H v i p:=by
 subst e
 rw[Rp]at r
 obtain⟨a,xs,rfl,g,rl⟩:=r
 rw[RpL]at rl
 obtain⟨x,r',rfl,h1,h2⟩:=rl
 obtain⟨y,rfl,h3⟩:=Yfx h2
 rw[Rp]at h1
 rw[Rp]at h3
 subst h1;subst h3
 exact⟨a,rfl,s _ _ g⟩
theorem Yl0{e d:D}{k:Bool}(h:Ytp e d=some k):∃j q i p,e=.tup [.int j,.bl q]/\d=.tup [.int i,.bl p]/\k=plt j q i p:=by
 obtain⟨x,h1,h2⟩:=qa h
 obtain⟨y,h3,h4⟩:=qb h2
 exact⟨x.1,x.2,y.1,y.2,Ym7 h1,Ym7 h3,h4.symm⟩
theorem Yex:SemF K Yym Yjf:=by
 intro vs ds l H G Q h s r q
 unfold Yjf at h
 split at h
 ·rename_i m
  obtain⟨v,rfl,rv⟩:=Ycx r
  rw[Ct]at rv
  obtain⟨a,xs,rfl,g,rl⟩:=rv
  refine⟨a,xs,rfl,g,?_⟩
  unfold Yr9 at h
  split at h
  ·rename_i ns hns
   split at h
   ·rename_i h64
    cases h
    cases Yf0 hns
    refine .inl ⟨ns,Yjg rl,h64,fun p hp=>?_⟩
    exact q p _ _ G (.hid s hp _) hp (s.free hp) Yl (.ints _)
   ·cases h
  ·split at h
   ·cases h
    refine .inr (.inl ⟨by rw[rl.length];exact qx 1,fun p hp=>?_⟩)
    exact q p _ _ G (.hid s hp _) hp (s.free hp) Yl rl
   ·rename_i d e
    obtain⟨k,h1,rfl⟩:=qb h
    obtain⟨j,y,i,x,rfl,rfl,rfl⟩:=Yl0 h1
    rw[RpL]at rl
    obtain⟨v1,r1,rfl,p1,rl⟩:=rl
    obtain⟨v2,rfl,p2⟩:=Yfx rl
    refine .inr (.inr ⟨v1,v2,i,x,j,y,rfl,Yku s rfl p1,Yku s rfl p2,fun p hp=>?_⟩)
    refine q p _ _ G (.hid s hp _) hp (s.free hp) Yl ?_
    cases plt j y i x
    ·exact .cons p1 (.one p2)
    ·exact .cons p2 (.one p1)
   ·cases h
 ·cases h
end
section
variable {K:W.Frag}
section
variable {X:Cx} {e:Expr} {f fb:Ro->Option D} {pos pos':Pos}
def blsD:List D->Option (List Bool)
 | []=>some []
 | .bl b::l=>(blsD l).map (b::·)
 | _=>none
theorem Ykv:∀{l:List D} {bs:List Bool},blsD l=some bs->l=bs.map D.bl
 | [],bs,h=>by cases h;rfl
 | .bl i::l,bs,h=>by
   rw[blsD]at h
   obtain⟨m,h1,rfl⟩:=qb h
   rw[Ykv h1]
   rfl
 | .non::l,ns,h=>by simp[blsD]at h
 | .int _::l,ns,h=>by simp[blsD]at h
 | .str _::l,ns,h=>by simp[blsD]at h
 | .tup _::l,ns,h=>by simp[blsD]at h
 | .lst _::l,ns,h=>by simp[blsD]at h
 | .scr _::l,ns,h=>by simp[blsD]at h
 | .dct _ _ _::l,ns,h=>by simp[blsD]at h
 | .obj _ _ _::l,ns,h=>by simp[blsD]at h
 | .adr _::l,ns,h=>by simp[blsD]at h
theorem Yp4{G:Hp}:∀{bs:List Bool} {xs:List V},RpL K G (bs.map D.bl) xs->xs=bs.map V.bl
 | [],xs,h=>by rw[List.map_nil,RpL]at h;exact h
 | n::ns,xs,h=>by
   rw[qy,RpL]at h
   obtain⟨x,r,rfl,h1,h2⟩:=h
   rw[Rp]at h1
   rw[h1,Yp4 h2]
   rfl
theorem Yjh:∀{bs:List Bool} {us:List Value},Vals (bs.map V.bl) us->us=bs.map Value.bool
 | [],us,h=>by cases h;rfl
 | b::bs,us,h=>by
   cases h with
   | cons r t=>
     cases (show _=Value.bool b from r)
     rw[Yjh t]
     rfl
theorem Yp5(bs:List Bool):((List.range bs.length).any fun i=>bs.getD i false)=bs.any id:=by
 induction bs with
 | nil=>rfl
 | cons b bs ih=>
   rw[qq,List.range_succ_eq_map,List.any_cons,List.any_map,List.any_cons]
   have:(List.range bs.length).any ((fun i=>(b::bs).getD i false) ∘ Nat.succ)=(List.range bs.length).any fun i=>bs.getD i false:=by
    congr 1
   rw[this,ih]
   rfl
theorem Yp6(bs:List Bool):((List.range bs.length).all fun i=>bs.getD i false)=bs.all id:=by
 induction bs with
 | nil=>rfl
 | cons b bs ih=>
   rw[qq,List.range_succ_eq_map,List.all_cons,List.all_map,List.all_cons]
   have:(List.range bs.length).all ((fun i=>(b::bs).getD i false) ∘ Nat.succ)=(List.range bs.length).all fun i=>bs.getD i false:=by
    congr 1
   rw[this,ih]
   rfl
def rBls(g:List Bool->V):List V->Hp->VK->Prop:=fun vs H Q=>∃(a:Addr) (bs:List Bool),vs=[.ref a]/\Rd H a (.lst (bs.map V.bl))/\Q (g bs) H
theorem Ykw(A:Around)(prog:Program)(w:World)(bs:List Bool):TruthOf prog w A (fun i v=>((bs.map Value.bool).toArray)[i]?=some v) (fun i=>bs.getD i false):=fun i v s Q E hP hQ=>by
 have hP':(bs.map Value.bool)[i]?=some v:=by simpa using hP
 rw[Qc]at hP'
 obtain⟨b,h1,rfl⟩:=qb hP'
 refine wpAny_truthy_bool ?_
 have:bs.getD i false=b:=by simp[h1]
 rw[<-this]
 exact hQ
theorem Ykx{pins:List (Addr × Obj)}{s:Shared}{σ:L2.St}{H:Hp}{a:Addr}{its:List Value}{A:Around}{E:Value->Shared->Prop}{Q:Value->Shared->Prop}(hh:A.handled=none)(hl:s.heap.IsList a its.toArray)
 (h:∀s₂,s₂={ s with heap:=s.heap.push { cls:=.type "list_iterator",data:=.fields #[.ref a,.int 0 0] } }->Walks X.prog X.w A s.heap.objs.size [s.heap.objs.size,a] [s.heap.objs.size] its.toArray.size (fun i v=>its.toArray[i]?=some v) (fun i h=>h.IsListIter s.heap.objs.size a i/\h.IsList a its.toArray)->
  (s₂.heap.IsListIter s.heap.objs.size a 0/\s₂.heap.IsList a its.toArray)->Q (.ref s.heap.objs.size) s₂):wpAny (model X.prog X.w) A (pyIter (.ref a)) Q E s:=by
 have hne:a≠s.heap.objs.size:=by
  obtain⟨o,ho,_⟩:=hl
  exact ql (qk ho)
 refine wpAny_pyIter_list hl (h _ rfl (Walks.list hh _ a hne _) ⟨⟨_,qo _ rfl,rfl,rfl⟩,?_⟩)
 obtain⟨o,ho,r⟩:=hl
 exact⟨o,qd _ ho,r⟩
theorem Ygh{pins:List (Addr × Obj)}{s:Shared}{σ:L2.St}{H:Hp}{h':Heap}{tk:Nat}{o:Obj}(I:Inv X pins σ H s)(k:∀b u,b∉[s.heap.objs.size]->(s.heap.push o).get? b=some u->h'.get? b=some u):Inv X pins σ H { s with heap:=h',toks:=tk }:=
 I.kept fun b u q=>k b u (by
  intro z
  have e:b=s.heap.objs.size:=by simpa using z
  exact absurd (qk q) (by rw[e];exact Nat.lt_irrefl _)) (qd _ q)
theorem Yg9(hc:X.calm=true):Yco X (.builtin "any") (rBls fun bs=>.bl (bs.any id)):=by
 intro pins s σ H xs us Q I r h
 obtain⟨a,bs,rfl,hr,q⟩:=h
 obtain⟨u,rfl,ru⟩:=Yft r
 cases ru
 obtain⟨its,rv,pl,hz⟩:=I.list (.inl hr)
 cases Yjh rv
 refine call_any_walk (Ykx (X:=X) (pins:=pins) (σ:=σ) (H:=H) (show X.A.in1.handled=none from I.ok.hd hc) pl.isList fun s₂ e W st=>?_)
 subst e
 refine⟨_,_,_,_,_,_,fun i=>bs.getD i false,rfl,W,st,Ykw _ _ _ bs,fun h' tk k=>⟨.bl _,H,(show Inv X pins σ H { s with heap:=h',toks:=tk } from Ygh I k),?_,q⟩⟩
 show Value.bool _=Value.bool _
 rw[qj,qe,Yp5]
theorem Yp7(hc:X.calm=true):Yco X (.builtin "all") (rBls fun bs=>.bl (bs.all id)):=by
 intro pins s σ H xs us Q I r h
 obtain⟨a,bs,rfl,hr,q⟩:=h
 obtain⟨u,rfl,ru⟩:=Yft r
 cases ru
 obtain⟨its,rv,pl,hz⟩:=I.list (.inl hr)
 cases Yjh rv
 refine call_all_walk (Ykx (X:=X) (pins:=pins) (σ:=σ) (H:=H) (show X.A.in1.handled=none from I.ok.hd hc) pl.isList fun s₂ e W st=>?_)
 subst e
 refine⟨_,_,_,_,_,_,fun i=>bs.getD i false,rfl,W,st,Ykw _ _ _ bs,fun h' tk k=>⟨.bl _,H,(show Inv X pins σ H { s with heap:=h',toks:=tk } from Ygh I k),?_,q⟩⟩
 show Value.bool _=Value.bool _
 rw[qj,qe,Yp6]
def anyC:List D->Option D
 | [.lst l]=>(blsD l).map fun bs=>.bl (bs.any id)
 | _=>none
def allC:List D->Option D
 | [.lst l]=>(blsD l).map fun bs=>.bl (bs.all id)
 | _=>none
theorem Yp8{g:List Bool->V}{gd:List Bool->D}{m:List D->Option D}(hm:∀ds d,m ds=some d->∃l bs,ds=[.lst l]/\blsD l=some bs/\d=gd bs)(hg:∀G bs,Rp K G (gd bs) (g bs)):SemC K (rBls g) m:=by
 intro vs ds d H G Q h s r q
 obtain⟨l,bs,rfl,h1,rfl⟩:=hm ds d h
 obtain⟨v,rfl,rv⟩:=Ycx r
 rw[Ct]at rv
 obtain⟨a,xs,rfl,g',rl⟩:=rv
 cases Ykv h1
 cases Yp4 rl
 exact⟨a,bs,rfl,g',q _ H G (.refl s) (hg G bs)⟩
theorem Yl1:SemC K (rBls fun bs=>.bl (bs.any id)) anyC:=Yp8 (gd:=fun bs=>.bl (bs.any id)) (fun ds d h=>by
 unfold anyC at h
 split at h
 ·obtain⟨bs,h1,rfl⟩:=qb h
  exact⟨_,bs,rfl,h1,rfl⟩
 ·cases h) fun G bs=>by rw[Rp]
theorem Yva:SemC K (rBls fun bs=>.bl (bs.all id)) allC:=Yp8 (gd:=fun bs=>.bl (bs.all id)) (fun ds d h=>by
 unfold allC at h
 split at h
 ·obtain⟨bs,h1,rfl⟩:=qb h
  exact⟨_,bs,rfl,h1,rfl⟩
 ·cases h) fun G bs=>by rw[Rp]
def Yp9(i:Nat)(fi f:Ro->Option D)(g:List D->D->D->Option (List D)):Ro->Option Out:=fun ρ=>(f ρ).bind fun d=>(getO i ρ).bind fun l=>(fi ρ).bind fun k=>(g l k d).map fun l'=>.nx (ρ.set i (some (.ow l')))
def setD(l:List D)(k d:D):Option (List D):=(intD k).bind fun i=>(ixN l.length i).map fun j=>l.set j d
theorem Yoa(i:Nat){x:Str}{ie:Expr}{p2 p3:Pos}(hb:MC X ie fb)(he:ME X e f)(hN:X.N[i]?=some x:=by rfl)(hv:Vis X.env.scope x:=by first | exact Or.inl rfl | exact Or.inr (Or.inl rfl) | exact Or.inr (Or.inr rfl))
 (hd:(x==("__debug__":Str))=false:=by decide) (hcd:(x==("__classdict__":Str))=false:=by decide)
 (ha:∀v,assign (.Subscript (.Name x p2) ie p3) X.env v=(do
  let ov <-holding [v] (eval (.Name x p2) X.env)
  let iv <-holding [v,ov] (eval ie X.env)
  standAt p3
  holding [v,ov,iv] (setItem ov iv v)
  release [v,ov,iv] []):=by intro _;rfl)
 (hs:swapsWithSole [.Subscript (.Name x p2) ie p3] e pos.line X.env=pure false:=by rfl) (hw:swappedStores [.Subscript (.Name x p2) ie p3] e X.env=pure none:=by rfl)
 (h1:(assignEach [.Subscript (.Name x p2) ie p3] X.env).map (·.2)=[assign (.Subscript (.Name x p2) ie p3) X.env]:=by rfl):MS X (.Assign [.Subscript (.Name x p2) ie p3] e pos) (Yp9 i fb f setD):=
 PS.imp (Ytd he (Yw0 (Ydx hN hv hd hcd) hb Yrs ha) hs hw h1) fun F σ H hx_=>by
  obtain⟨ρ,out,H0,G0,G,e,s,h⟩:=hx_
  unfold Yp9 at e
  obtain⟨d,h1,e⟩:=qa e
  obtain⟨l,h2,e⟩:=qa e
  obtain⟨k,h3,e⟩:=qa e
  obtain⟨l',h4,rfl⟩:=qb e
  unfold setD at h4
  obtain⟨n,h5,h4⟩:=qa h4
  obtain⟨j,h6,rfl⟩:=qb h4
  refine tOf.at h1 s fun v H1 G1 g1 r1 s1=>?_
  obtain⟨a,xs,ha,hH,hr,hG⟩:=Ypw s1 h2
  refine⟨_,ha,tCof.at h3 s1 fun u H2 G2 g2 r2 s2=>?_⟩
  cases k<;>simp[intD]at h5
  subst h5
  rw[Ct]at r2
  subst r2
  refine⟨a,xs,_,j,rfl,rfl,g2.h _ _ hH,by rw[hr.length];exact h6,?_⟩
  exact h σ _ G2 (s2.mut (Ye8 h2) ha ((hr.mono g2.g).set j (r1.mono g2.g)))
end
end
section
variable {K:W.Frag}
section
variable {prog:Program} {w:World} {A:Around} {E:Value->Shared->Prop} {s:Shared}
theorem Yf1{it t:Addr}{i:Nat}{items:Array Value}{x:Value}{Q:Value->Shared->Prop}(hit:s.heap.IsTupleIter it t i)
 (ht:s.heap.IsTuple t items) (hx:items[i]?=some x)
 (hQ:∀h',h'.IsTupleIter it t (i+1)->Heap.SameBut it s.heap h'->Q x { s with heap:=h' }) :
 wpAny (model prog w) A (Builtin.SmallTypes.nextOf (.ref it)) Q E s:=by
 obtain⟨o,ho,hc,hd⟩:=id hit
 obtain⟨ol,hol,_,nl,hdl⟩:=ht
 unfold Builtin.SmallTypes.nextOf
 refine wpAny_bind (wpAny_callSpecial?_slot (name:=Str.ofString "__next__") hit.typeIs F.slot_tuple_iterator_next
  (wpAny_call_entry F.slot_tuple_iterator_next hit.typeIs F.entry_tuple_iterator_next ?_ (F.args_tuple_iterator_next_1 _)))
 show wpAny _ _ (field (.ref it) 0 >>= _) _ _ s
 refine wpAny_bind (wpAny_field ho hd (x:=.ref t) rfl ?_)
 show wpAny _ _ (if (Value.ref t==Value.none)=true then _ else _) _ _ s
 rw[if_neg (show ¬((Value.ref t==Value.none)=true) from qh)]
 show wpAny _ _ (field (.ref it) 1 >>= _) _ _ s
 refine wpAny_bind (wpAny_field ho hd (x:=.int i 0) rfl ?_)
 show wpAny _ _ (seqItems? (.ref t) >>= _) _ _ s
 refine wpAny_bind (wpAny_seqItems hol hdl ?_)
 simp only[Int.toNat_natCast,hx]
 refine wpAny_bind (wpAny_setField ho hd (by simp) (wpAny_pure ⟨x,rfl,wpAny_pure (hQ _ ?_ (Heap.SameBut.update ..))⟩))
 exact⟨_,Heap.get?_update_self _ ho (Obj.isFreed_of_fields (Obj.data_mapFields hd _)),(Obj.cls_mapFields ..).trans hc,by
  rw[Obj.data_mapFields hd];simp[rawInt]⟩
theorem Ygj{it l:Addr}{i:Nat}{items:Array Value}{Q:Value->Shared->Prop}(hh:A.handled=none)
 (hit:s.heap.IsTupleIter it l i) (hl:s.heap.IsTuple l items) (hx:items[i]?=none)
 (hE:∀h' e,Heap.ExtBut it s.heap h'->(∃o,h'.get? e=some o/\o.cls=.type "StopIteration")->E (.ref e) { s with heap:=h' }) :
 wpAny (model prog w) A (Builtin.SmallTypes.nextOf (.ref it)) Q E s:=by
 obtain⟨o,ho,hc,hd⟩:=id hit
 obtain⟨ol,hol,_,nl,hdl⟩:=hl
 unfold Builtin.SmallTypes.nextOf
 refine wpAny_bind (wpAny_callSpecial?_slot (name:=Str.ofString "__next__") hit.typeIs F.slot_tuple_iterator_next
  (wpAny_call_entry F.slot_tuple_iterator_next hit.typeIs F.entry_tuple_iterator_next ?_ (F.args_tuple_iterator_next_1 _)))
 show wpAny _ _ (field (.ref it) 0 >>= _) _ _ s
 refine wpAny_bind (wpAny_field ho hd (x:=.ref l) rfl ?_)
 show wpAny _ _ (if (Value.ref l==Value.none)=true then _ else _) _ _ s
 rw[if_neg (show ¬((Value.ref l==Value.none)=true) from qh)]
 show wpAny _ _ (field (.ref it) 1 >>= _) _ _ s
 refine wpAny_bind (wpAny_field ho hd (x:=.int i 0) rfl ?_)
 show wpAny _ _ (seqItems? (.ref l) >>= _) _ _ s
 refine wpAny_bind (wpAny_seqItems hol hdl ?_)
 simp only[Int.toNat_natCast,hx]
 refine wpAny_bind (wpAny_rule (wpAny_bind (wpAny_setField ho hd (by simp) ?_)))
 show wpAny _ _ (newExc (.type "StopIteration") [] >>= _) _ _ _
 refine wpAny_bind ?_
 simp only[newExc,newTuple]
 refine wpAny_bind (wpAny_newObj_type ?_ (by size_fits))
 refine wpAny_bind (m:=firstArgMember _ _) (wpAny_of_eq (a:=Value.none) (by first | rfl | (simp only[firstArgMember];rfl)) ?_)
 refine wpAny_newObj_type ?_ (by size_fits)
 simp only[raiseNew]
 refine wpAny_bind (wpAny_handled ?_)
 first | rw[show A.in1.handled=none from hh] | rw[hh]
 refine wpAny_bind (wpAny_pure (wpAny_throw ?_))
 exact hE _ _ (((Heap.SameBut.update ..).extBut.push _).push _) ⟨_,qo _ rfl,rfl⟩
theorem Yha{e it l:Addr}{i:Nat}{items:Array Value}{x old:Value}{Q:Value->Shared->Prop}
 (he:IsEnum s.heap e it i old) (hit:s.heap.IsTupleIter it l i) (hl:s.heap.IsTuple l items) (hx:items[i]?=some x) (hne:e≠it)
 (hQ:∀h',IsEnumOut h' e it ((i:Int)+1) x s.heap.objs.size->h'.IsTupleIter it l (i+1)->
  h'.get? s.heap.objs.size=some { cls:=.type "tuple",data:=.seq #[.int i s.toks,x] }->h'.objs.size=s.heap.objs.size+1->
  (∀b o,b≠e->b≠it->s.heap.get? b=some o->h'.get? b=some o)->Q (.ref s.heap.objs.size) { s with heap:=h',toks:=s.toks+1 }) :
 wpAny (model prog w) A (Builtin.«enumerate.__next__» ⟨[.ref e],[]⟩) (fun fin s'=>∃v,fin=.done (.ret v)/\Q v s') E s:=by
 obtain⟨hp,g,d,tk,os⟩:=s
 show wpAny _ _ (field (.ref e) 2 >>= _) _ _ _
 refine wpAny_bind (wpAny_field he rfl (x:=.ref it) rfl ?_)
 refine wpAny_bind (Yf1 hit hl hx fun h₁ hit₁ hs₁=>?_)
 replace hs₁:Heap.SameBut it hp h₁:=hs₁
 have he₁:IsEnum h₁ e it i old:=(hs₁.2 e hne).trans he
 show wpAny _ _ (field (.ref e) 3 >>= _) _ _ ⟨h₁,g,d,tk,os⟩
 refine wpAny_bind (wpAny_field he₁ rfl (x:=rawInt i) rfl ?_)
 show wpAny _ _ (field (.ref e) 4 >>= _) _ _ ⟨h₁,g,d,tk,os⟩
 refine wpAny_bind (wpAny_field he₁ rfl (x:=.none) rfl ?_)
 show wpAny _ _ (mkInt i >>= _) _ _ ⟨h₁,g,d,tk,os⟩
 refine wpAny_bind (wpAny_mkInt ?_)
 show wpAny _ _ (setField (.ref e) 3 (rawInt ((i:Int)+1)) >>= _) _ _ ⟨h₁,g,d,tk+1,os⟩
 refine wpAny_bind (wpAny_setField_rec he₁ (by simp) fun h₂ he₂ hs₂=>?_)
 replace hs₂:Heap.SameBut e h₁ h₂:=hs₂
 replace he₂:IsEnum h₂ e it ((i:Int)+1) old:=he₂
 show wpAny _ _ (setField (.ref e) 4 .none >>= _) _ _ ⟨h₂,g,d,tk+1,os⟩
 refine wpAny_bind (wpAny_setField_rec he₂ (by simp) fun h₃ he₃ hs₃=>?_)
 replace hs₃:Heap.SameBut e h₂ h₃:=hs₃
 replace he₃:IsEnum h₃ e it ((i:Int)+1) old:=he₃
 show wpAny _ _ (newTuple [.int i tk,x] >>= _) _ _ ⟨h₃,g,d,tk+1,os⟩
 refine wpAny_bind (wpAny_newTuple ?_)
 have he₄:IsEnum (h₃.push { cls:=.type "tuple",data:=.seq #[.int i tk,x] }) e it ((i:Int)+1) old:=qd _ he₃
 generalize hh₄:h₃.push { cls:=.type "tuple",data:=.seq #[.int i tk,x] }=h₄ at he₄
 have hsz:h₃.objs.size=hp.objs.size:=by rw[hs₃.1,hs₂.1,hs₁.1]
 have hel:e < hp.objs.size:=qk he
 have ht₄:h₄.get? hp.objs.size=some { cls:=.type "tuple",data:=.seq #[.int i tk,x] }:=by rw[<-hh₄,<-hsz];exact qo _ rfl
 have hz₄:h₄.objs.size=hp.objs.size+1:=by rw[<-hh₄,Heap.size_push,hsz]
 have hk₄:∀b o,b≠e->b≠it->hp.get? b=some o->h₄.get? b=some o:=fun b o hbe hbi hb=>by
  rw[<-hh₄];exact qd _ (hs₃.extBut b o hbe (hs₂.extBut b o hbe (hs₁.extBut b o hbi hb)))
 have hit₄:h₄.IsTupleIter it l (i+1):=by
  rw[<-hh₄];obtain⟨o,ho,r⟩:=(hit₁.at fun o q=>hs₃.extBut it o (Ne.symm hne) (hs₂.extBut it o (Ne.symm hne) q));exact⟨o,qd _ ho,r⟩
 show wpAny _ _ (Builtin.SmallTypes.ownedTupleIsFree (.ref e) >>= _) _ _ ⟨h₄,g,d,tk+1,os⟩
 rw[hsz]
 clear hh₄ he₃ hs₃ he₂ hs₂ he₁ hs₁ hit₁ hsz h₃ h₂ h₁
 refine wpAny_bind ?_
 ·unfold Builtin.SmallTypes.ownedTupleIsFree
  refine wpAny_bind (wpAny_field he₄ rfl (x:=.none) rfl (wpAny_pure ?_))
  simp only[if_true]
  refine wpAny_bind (wpAny_rule ?_)
  refine wpAny_bind (wpAny_field he₄ rfl (x:=old) rfl ?_)
  refine wpAny_bind (wpAny_setField_rec he₄ (by simp) fun h₅ he₅ hs₅=>?_)
  replace hs₅:Heap.SameBut e h₄ h₅:=hs₅
  replace he₅:IsEnum h₅ e it ((i:Int)+1) x:=he₅
  show wpAny _ _ (Builtin.SmallTypes.ownedTupleHandOut (.ref e) (.ref hp.objs.size) >>= _) _ _ ⟨h₅,g,d,tk+1,os⟩
  refine wpAny_bind ?_
  ·unfold Builtin.SmallTypes.ownedTupleHandOut
   refine wpAny_bind (wpAny_setField_rec he₅ (by simp) fun h₆ he₆ hs₆=>?_)
   replace hs₆:Heap.SameBut e h₅ h₆:=hs₆
   replace he₆:IsEnumOut h₆ e it ((i:Int)+1) x hp.objs.size:=he₆
   refine wpAny_setField_rec he₆ (by simp) fun h₇ he₇ hs₇=>?_
   replace hs₇:Heap.SameBut e h₆ h₇:=hs₇
   replace he₇:IsEnumOut h₇ e it ((i:Int)+1) x hp.objs.size:=he₇
   refine wpAny_bind (wpAny_letGo (wpAny_pure ⟨_,rfl,hQ h₇ he₇ ?_ ?_ ?_ ?_⟩))
   ·exact hit₄.at fun o q=>hs₇.extBut it o (Ne.symm hne) (hs₆.extBut it o (Ne.symm hne) (hs₅.extBut it o (Ne.symm hne) q))
   ·exact hs₇.extBut _ _ (Nat.ne_of_gt hel) (hs₆.extBut _ _ (Nat.ne_of_gt hel) (hs₅.extBut _ _ (Nat.ne_of_gt hel) ht₄))
   ·rw[hs₇.1,hs₆.1,hs₅.1,hz₄]
   ·exact fun b o hbe hbi hb=>hs₇.extBut b o hbe (hs₆.extBut b o hbe (hs₅.extBut b o hbe (hk₄ b o hbe hbi hb)))
theorem Yf2{e it l:Addr}{i:Nat}{items:Array Value}{x old:Value}{Q:Option Value->Shared->Prop}
 (he:IsEnum s.heap e it i old) (hit:s.heap.IsTupleIter it l i) (hl:s.heap.IsTuple l items) (hx:items[i]?=some x) (hne:e≠it)
 (hQ:∀h',IsEnumOut h' e it ((i:Int)+1) x s.heap.objs.size->h'.IsTupleIter it l (i+1)->
  h'.get? s.heap.objs.size=some { cls:=.type "tuple",data:=.seq #[.int i s.toks,x] }->h'.objs.size=s.heap.objs.size+1->
  (∀b o,b≠e->b≠it->s.heap.get? b=some o->h'.get? b=some o)->Q (some (.ref s.heap.objs.size)) { s with heap:=h',toks:=s.toks+1 }) :
 wpAny (model prog w) A (pyNext (.ref e)) Q E s:=by
 have hT:s.TypeIs (.ref e) "enumerate":=⟨_,he,rfl⟩
 unfold pyNext
 exact wpAny_bind (wpAny_attempt (wpAny_callSpecial?_slot (name:=Str.ofString "__next__") hT F.slot_enumerate_next
  (wpAny_call_entry F.slot_enumerate_next hT F.entry_enumerate_next
   (Yha he hit hl hx hne fun h' a b c d k=>wpAny_pure (hQ h' a b c d k)) (F.args_enumerate_next_1 _))))
theorem Ygk{e it l:Addr}{i:Nat}{items:Array Value}{old:Value}{Q:Option Value->Shared->Prop}(hh:A.handled=none)
 (he:IsEnum s.heap e it i old) (hit:s.heap.IsTupleIter it l i) (hl:s.heap.IsTuple l items) (hx:items[i]?=none)
 (hQ:∀h',Heap.ExtBut it s.heap h'->Q none { s with heap:=h' }):wpAny (model prog w) A (pyNext (.ref e)) Q E s:=by
 have hT:s.TypeIs (.ref e) "enumerate":=⟨_,he,rfl⟩
 unfold pyNext
 refine wpAny_bind (wpAny_attempt (wpAny_callSpecial?_slot (name:=Str.ofString "__next__") hT F.slot_enumerate_next
  (wpAny_call_entry F.slot_enumerate_next hT F.entry_enumerate_next ?_ (F.args_enumerate_next_1 _))))
 show wpAny _ _ (field (.ref e) 2 >>= _) _ _ _
 refine wpAny_bind (wpAny_field he rfl (x:=.ref it) rfl ?_)
 refine wpAny_bind (Ygj hh hit hl hx fun h' x he' hx'=>?_)
 obtain⟨o,ho,hc⟩:=hx'
 refine wpAny_bind (wpAny_isInstance (T:="StopIteration") (b:=true) ⟨o,ho,hc⟩ isSubtype_stop ?_)
 exact wpAny_pure (hQ _ he')
theorem Yhb(l:Addr)(items:Array Value)(n:Nat)(dct:Option Addr)(sl:Array (Option Value)) :
 Meets (Builtin.«enumerate.__new__» ⟨[.type "enumerate",.ref l],[]⟩) (fun _ R s=>s.heap.get? l=some { cls:=.type "tuple",dict:=dct,data:=.seq items n,slots:=sl }/\
  R (.ok (.ret (.ref (s.heap.push { cls:=.type "tuple_iterator",data:=.fields #[.ref l,.int 0 0] }).objs.size)))
   { s with heap:=(s.heap.push { cls:=.type "tuple_iterator",data:=.fields #[.ref l,.int 0 0] }).push { cls:=.type "enumerate",data:=.fields #[.none,.bool false,.ref s.heap.objs.size,rawInt 0,.none,.none] } }):=
 .of_wp fun prog w A R s h=>by
  obtain⟨hp,g,d,tk,os⟩:=s;obtain⟨hl,h⟩:=h
  have hsub:=sub_enumerate
  have hL:Heap.IsTuple (Shared.heap ⟨hp,g,d,tk,os⟩) l items:=⟨_,hl,rfl,n,rfl⟩
  wp_walk using PySem.AutoSeq1.wpAny_loadPart' hl
  refine wpAny_stack_any fun st=>wpAny_pure ?_
  split
  ·rename_i c _ _ _ _ _
   cases (c==Value.type "enumerate")
   ·wp_walk using PySem.AutoSeq1.wpAny_loadPart' hl,wpAny_pyIter_tuple hL
    exact⟨_,rfl,h⟩
   ·wp_walk using PySem.AutoSeq1.wpAny_loadPart' hl,wpAny_pyIter_tuple hL
    exact⟨_,rfl,h⟩
  ·wp_walk using PySem.AutoSeq1.wpAny_loadPart' hl,wpAny_pyIter_tuple hL
   exact⟨_,rfl,h⟩
theorem Yei{l:Addr}{items:Array Value}{Q:Value->Shared->Prop}(hL:s.heap.IsTuple l items)
 (h:∀h',IsEnum h' (s.heap.objs.size+1) s.heap.objs.size 0 .none->h'.IsTupleIter s.heap.objs.size l 0->h'.objs.size=s.heap.objs.size+2->
  (∀b o,s.heap.get? b=some o->h'.get? b=some o)->Q (.ref (s.heap.objs.size+1)) { s with heap:=h' }) :
 wpAny (model prog w) A (call (.type "enumerate") [.ref l]) Q E s:=by
 obtain⟨⟨c,dct,dt,sl⟩,hl,hc,n,hd⟩:=hL
 replace hc:c=.type "tuple":=hc
 replace hd:dt=.seq items n:=hd
 subst hc hd
 refine callType_new F.called_enumerate (by decide) (F.typeCall_enumerate_1 _) (F.newCall_enumerate_1 _) (fun obj=>F.args_object_init_2 obj _) F.entry_enumerate_new
  (Yhb l items n dct sl) ⟨hl,?_⟩
 have hz:(s.heap.push { cls:=.type "tuple_iterator",data:=.fields #[.ref l,.int 0 0] }).objs.size=s.heap.objs.size+1:=Heap.size_push ..
 show _/\_
 rw[hz]
 have he:IsEnum ((s.heap.push { cls:=.type "tuple_iterator",data:=.fields #[.ref l,.int 0 0] }).push
  { cls:=.type "enumerate",data:=.fields #[.none,.bool false,.ref s.heap.objs.size,rawInt 0,.none,.none] }) (s.heap.objs.size+1) s.heap.objs.size 0 .none:=by
  have:=qo (s.heap.push { cls:=.type "tuple_iterator",data:=.fields #[.ref l,.int 0 0] })
   (o:={ cls:=.type "enumerate",data:=.fields #[.none,.bool false,.ref s.heap.objs.size,rawInt 0,.none,.none] }) rfl
  rw[hz]at this;exact this
 refine⟨⟨_,he,rfl⟩,h _ he ⟨_,qd _ (qo _ rfl),rfl,rfl⟩ (by rw[Heap.size_push,hz]) fun b o x=>qd _ (qd _ x)⟩
end
theorem Yfb{X:Cx}{pins:List (Addr × Obj)}{σ:L2.St}{H:Hp}{s:Shared}{h':Heap}{t':Nat}{ch:List Addr}{T:Addr}{o:HO}(I:Inv X pins σ H s)(hf:∀b∈ch,FpOk X pins H b)
 (k:∀b u,b∉ch->s.heap.get? b=some u->h'.get? b=some u) (hT:s.heap.objs.size<=T) (new:ObjOk X.prog X.w (upd H T o) h' T o):Inv X pins σ (upd H T o) { s with heap:=h',toks:=t' }:=by
 have fr:H T=none:=I.hok.fresh hT
 have nch:∀b u,H b=some u->b∉ch:=fun b u e z=>by rw[(hf b z).1]at e;cases e
 refine I.step (g':=s.gens) (d':=s.drawn) (ch:=ch) (fun b hb=>?_) (fun b u _ _ hc e _=>k b u hc e) (fun b u _ _ hc e _=>⟨u.slots,k b u hc e⟩) (fun b u _ e n=>?_)
  (fun b u hc e=>⟨u,k b u hc e⟩) (fun b xs e=>?_) (fun b u xs e=>?_) (fun b ps e=>⟨#[],?_⟩) (fun m hm=>?_) (fun b u e=>?_) I.bare
 ·obtain⟨_,f1,_,f3,f4,f5⟩:=hf b hb
  exact⟨f3,f1,f4,f5⟩
 ·rw[Yj (ql (Qb (qk e) hT))];exact n
 ·rw[Yj (Yt e fr)];exact e
 ·rw[Yj (Yt e fr)];exact e
 ·rw[Yj (Yt e fr),e];simp
 ·obtain⟨ob,es,ep,ho,r⟩:=hm
  exact⟨ob,es,ep,k _ ob (fun z=>(hf _ z).2.1 rfl) ho,r⟩
 ·by_cases hb:b=T
  ·subst hb;rw[Yl]at e;cases e;exact new
  ·rw[Yj hb]at e
   refine(I.hok b u e).stay (fun c v hc q=>k c v ?_ q) (fun c q=>by rw[Yj (Yt q fr)];exact q) fun c xs q=>by rw[Yj (Yt q fr)];exact q
   rcases hc with z | z
   ·rw[z];exact nch b u e
   ·exact nch c _ z
def IteL(K:W.Frag)(a:Addr):It:=
 ⟨fun i H=>∃xs x,SqL K H a xs/\xs[i]?=some x,fun i H x H'=>∃y p,(∀xs,SqL K H a xs->xs[i]?=some y)/\H p=none/\x=.ref p/\H'=upd H p (.tup [.int i,y]),fun i H=>∃xs,SqL K H a xs/\xs.length<=i⟩
def IteT(K:W.Frag)(a:Addr):It:=
 ⟨fun i H=>∃xs x,SqT K H a xs/\xs[i]?=some x,fun i H x H'=>∃y p,(∀xs,SqT K H a xs->xs[i]?=some y)/\H p=none/\x=.ref p/\H'=upd H p (.tup [.int i,y]),fun i H=>∃xs,SqT K H a xs/\xs.length<=i⟩
section
variable {elts:List Expr} {x1:Nat} {pt:Pos}
theorem Yob{P:Program}{w:World}(a it e:Addr)(hei:e≠it):Turn P w K (.Tuple elts x1 pt) (IteL K a) [e,it] e (fun i h=>(∃old,IsEnum h e it i old)/\h.IsListIter it a i) where
 mem:=by simp
 obj:=fun i h st b hb=>by
  obtain⟨⟨old,he⟩,hit⟩:=st
  rcases qr hb with rfl | hb
  ·exact⟨_,he,fun v z=>by cases z⟩
  ·have z:b=it:=by simpa using hb
   subst z
   obtain⟨o,q,c,d⟩:=hit
   exact⟨o,q,fun v z=>by rw[d]at z;cases z⟩
 keep:=fun i h h' st k=>by
  obtain⟨⟨old,he⟩,hit⟩:=st
  exact⟨⟨old,k e (by simp) _ he⟩,hit.at fun o q=>k it (by simp) o q⟩
 item:=by
  intro X hP hw hK hc i pins s σ H E I hf st hg
  subst hP hw hK
  obtain⟨xs,x,hq,hx⟩:=hg
  obtain⟨its,rv,p,hz⟩:=I.list hq
  obtain⟨u,hu,ru⟩:=rv.get hx
  obtain⟨⟨old,he⟩,hit⟩:=st
  refine wpAny_pyNext_enum_item he hit p.isList (x:=u) (by simpa using hu) hei fun h' ho hit' hT hsz hk=>?_
  refine⟨_,rfl,wpAny_letOwnedTupleGo_enum ho fun h2 he2 hs2=>?_⟩
  have fr:H s.heap.objs.size=none:=I.fresh
  have hne:∀b∈[e,it],b≠s.heap.objs.size:=fun b hb z=>by
   rcases qr hb with rfl | hb
   ·exact absurd (qk he) (by rw[z];exact Nat.lt_irrefl _)
   ·have z2:b=it:=by simpa using hb
    subst z2
    obtain⟨o,q,_⟩:=hit
    exact absurd (qk q) (by rw[z];exact Nat.lt_irrefl _)
  have kk:∀b o,b∉[e,it]->s.heap.get? b=some o->h2.get? b=some o:=fun b o hb q=>by
   have h1:b≠e:=fun z=>hb (by simp[z])
   have h3:b≠it:=fun z=>hb (by simp[z])
   exact(hs2.2 b h1).trans (hk b o h1 h3 q)
  have tT:h2.get? s.heap.objs.size=some { cls:=.type "tuple",data:=.seq #[.int i s.toks,u] }:=(hs2.2 _ (Ne.symm (hne e (by simp)))).trans hT
  refine⟨.ref s.heap.objs.size,upd H s.heap.objs.size (.tup [.int i,x]),(show Inv X pins σ _ { s with heap:=h2,toks:=s.toks+1 } from Yfb (s:=s) (t':=s.toks+1) I hf kk (qs _) ?_),rfl,⟨x,s.heap.objs.size,fun ys hy=>by rw[I.list_inj hy hq];exact hx,fr,rfl,rfl⟩,⟨⟨_,by simpa using he2⟩,hit'.at fun o q=>(hs2.2 it (Ne.symm hei)).trans q⟩,fun b hb=>?_⟩
  ·exact⟨by rw[sizeLine_eq];show 2<=16777216;decide,[.int i s.toks,u],.cons ⟨_,rfl⟩ (.cons ru .nil),_,tT,rfl,0,rfl⟩
  ·rw[Yj (hne b hb)];exact(hf b hb).1
 done:=by
  intro X hP hw hK hc i pins s σ H E I hf st hg
  subst hP hw hK
  obtain⟨xs,hq,hx⟩:=hg
  obtain⟨its,rv,p,hz⟩:=I.list hq
  obtain⟨⟨old,he⟩,hit⟩:=st
  obtain⟨f0,f1,f2,f3,f4,f5⟩:=hf it (by simp)
  have hl:=rv.length
  exact wpAny_pyNext_enum_end (I.ok.hd hc) he hit p.isList (by simp;lia) fun h' eb=>⟨rfl,I.turned (t':=s.toks) (fun b o hb e=>eb b o hb e) f0 f1 f3 f4 f5⟩
 self:=fun _ _ _ _ _ st h=>let ⟨⟨_,he⟩,_⟩:=st;wpAny_pyIter_enum he h
theorem Yoc{P:Program}{w:World}(a it e:Addr)(hei:e≠it):Turn P w K (.Tuple elts x1 pt) (IteT K a) [e,it] e (fun i h=>(∃old,IsEnum h e it i old)/\h.IsTupleIter it a i) where
 mem:=by simp
 obj:=fun i h st b hb=>by
  obtain⟨⟨old,he⟩,hit⟩:=st
  rcases qr hb with rfl | hb
  ·exact⟨_,he,fun v z=>by cases z⟩
  ·have z:b=it:=by simpa using hb
   subst z
   obtain⟨o,q,c,d⟩:=hit
   exact⟨o,q,fun v z=>by rw[d]at z;cases z⟩
 keep:=fun i h h' st k=>by
  obtain⟨⟨old,he⟩,hit⟩:=st
  exact⟨⟨old,k e (by simp) _ he⟩,hit.at fun o q=>k it (by simp) o q⟩
 item:=by
  intro X hP hw hK hc i pins s σ H E I hf st hg
  subst hP hw hK
  obtain⟨xs,x,hq,hx⟩:=hg
  obtain⟨its,rv,p,hz⟩:=I.tuple hq
  obtain⟨u,hu,ru⟩:=rv.get hx
  obtain⟨⟨old,he⟩,hit⟩:=st
  refine Yf2 he hit (show s.heap.IsTuple a its.toArray from p) (x:=u) (by simpa using hu) hei fun h' ho hit' hT hsz hk=>?_
  refine⟨_,rfl,wpAny_letOwnedTupleGo_enum ho fun h2 he2 hs2=>?_⟩
  have fr:H s.heap.objs.size=none:=I.fresh
  have hne:∀b∈[e,it],b≠s.heap.objs.size:=fun b hb z=>by
   rcases qr hb with rfl | hb
   ·exact absurd (qk he) (by rw[z];exact Nat.lt_irrefl _)
   ·have z2:b=it:=by simpa using hb
    subst z2
    obtain⟨o,q,_⟩:=hit
    exact absurd (qk q) (by rw[z];exact Nat.lt_irrefl _)
  have kk:∀b o,b∉[e,it]->s.heap.get? b=some o->h2.get? b=some o:=fun b o hb q=>by
   have h1:b≠e:=fun z=>hb (by simp[z])
   have h3:b≠it:=fun z=>hb (by simp[z])
   exact(hs2.2 b h1).trans (hk b o h1 h3 q)
  have tT:h2.get? s.heap.objs.size=some { cls:=.type "tuple",data:=.seq #[.int i s.toks,u] }:=(hs2.2 _ (Ne.symm (hne e (by simp)))).trans hT
  refine⟨.ref s.heap.objs.size,upd H s.heap.objs.size (.tup [.int i,x]),(show Inv X pins σ _ { s with heap:=h2,toks:=s.toks+1 } from Yfb (s:=s) (t':=s.toks+1) I hf kk (qs _) ?_),rfl,⟨x,s.heap.objs.size,fun ys hy=>by rw[I.tuple_inj hy hq];exact hx,fr,rfl,rfl⟩,⟨⟨_,by simpa using he2⟩,hit'.at fun o q=>(hs2.2 it (Ne.symm hei)).trans q⟩,fun b hb=>?_⟩
  ·exact⟨by rw[sizeLine_eq];show 2<=16777216;decide,[.int i s.toks,u],.cons ⟨_,rfl⟩ (.cons ru .nil),_,tT,rfl,0,rfl⟩
  ·rw[Yj (hne b hb)];exact(hf b hb).1
 done:=by
  intro X hP hw hK hc i pins s σ H E I hf st hg
  subst hP hw hK
  obtain⟨xs,hq,hx⟩:=hg
  obtain⟨its,rv,p,hz⟩:=I.tuple hq
  obtain⟨⟨old,he⟩,hit⟩:=st
  obtain⟨f0,f1,f2,f3,f4,f5⟩:=hf it (by simp)
  have hl:=rv.length
  exact Ygk (I.ok.hd hc) he hit (show s.heap.IsTuple a its.toArray from p) (by simp;lia) fun h' eb=>⟨rfl,I.turned (t':=s.toks) (fun b o hb e=>eb b o hb e) f0 f1 f3 f4 f5⟩
 self:=fun _ _ _ _ _ st h=>let ⟨⟨_,he⟩,_⟩:=st;wpAny_pyIter_enum he h
variable {X:Cx} {pos:Pos}
def y0e(K:W.Frag)(ta:TA):TI:=fun σ H R=>ta σ H fun vs H1=>∃a xs,vs=[.ref a]/\((SqL K H1 a xs/\(xs.length<=sizeLine->R (IteL K a) H1))\/(SqT K H1 a xs/\(xs.length<=sizeLine->R (IteT K a) H1)))
theorem Yvb{l:Expr}{ta:TA}{p:Pos}(hg:Gl X "enumerate")(hm:X.mg "enumerate"=none)(ha:PA X [l] ta)(hs:starEach [l] X.env=[(false,eval l X.env)]:=by rfl):PI X (.Tuple elts x1 pt) (.Call (.Name "enumerate" p) [l] [] pos) (y0e X.K ta):=by
 intro pins s σ H R I h
 refine Call_ (Ykf I hg hm boot_enumerate (PyProof.Rows.callWith_type1 (thn (ha pos pins s σ H _ I h) fun us s1 hx_=>?_) hs rfl))
 obtain⟨vs,H1,I1,r1,q1⟩:=hx_
 obtain⟨a,xs,rfl,q⟩:=q1
 obtain⟨u,rfl,ru⟩:=Yft r1
 cases ru
 have fin:∀(h':Heap),h'.objs.size=s1.heap.objs.size+2->(∀b o,s1.heap.get? b=some o->h'.get? b=some o)->∀b∈[s1.heap.objs.size+1,s1.heap.objs.size],FpOk X pins H1 b:=fun h' hz hk b hb=>by
  have hb':s1.heap.objs.size<=b:=by
   rcases qr hb with rfl | hb
   ·exact Nat.le_succ _
   ·have:b=s1.heap.objs.size:=by simpa using hb
    lia
  exact I1.fpOk hb' (I1.hok.fresh hb')
 rcases q with⟨hq,q⟩ | ⟨hq,q⟩
 ·obtain⟨its,rv,pl,hz⟩:=I1.list hq
  refine call_enumerate_list pl.isList fun h' he hit hsz hk=>wpAny_pyIter_enum (s:={ s1 with heap:=h' }) he ?_
  exact⟨_,[s1.heap.objs.size+1,s1.heap.objs.size],_,_,H1,rfl,I1.kept (t':=s1.toks) hk,Yob a s1.heap.objs.size _ (Nat.succ_ne_self _),⟨⟨_,he⟩,hit⟩,fin h' hsz hk,q hz⟩
 ·obtain⟨its,rv,pl,hz⟩:=I1.tuple hq
  refine Yei (show s1.heap.IsTuple a its.toArray from pl) fun h' he hit hsz hk=>wpAny_pyIter_enum (s:={ s1 with heap:=h' }) he ?_
  exact⟨_,[s1.heap.objs.size+1,s1.heap.objs.size],_,_,H1,rfl,I1.kept (t':=s1.toks) hk,Yoc a s1.heap.objs.size _ (Nat.succ_ne_self _),⟨⟨_,he⟩,hit⟩,fin h' hsz hk,q hz⟩
def Yji(l:List D):List D:=(List.range l.length).map fun i:Nat=>.tup [.int (i:Int),l.getD i .non]
def Ysa(c:D):Option (List D):=(Yr c).map Yji
theorem Yhc{l:List D}{i:Nat}{d:D}(h:(Yji l)[i]?=some d):∃e,l[i]?=some e/\d=.tup [.int i,e]:=by
 unfold Yji at h
 rw[Qc]at h
 obtain⟨j,h1,rfl⟩:=qb h
 have hj:i < l.length:=by
  have:=(qm h1).1
  simpa using this
 rw[List.getElem?_range hj]at h1
 cases h1
 exact⟨l[i],qp hj,by simp[hj]⟩
theorem Ybb(l:List D):(Yji l).length=l.length:=by simp[Yji]
theorem Gr.newTup{H G:Hp}{d:D}{x:V}(s:Same G H){p:Addr}(hp:H p=none)(i:Nat)(r:Rp K G d x):∃G3,Gr H G (upd H p (.tup [.int i,x])) G3/\Rp K G3 (.tup [.int i,d]) (.ref p):=by
 refine⟨_,Gr.new s hp (.tup [.int i,x]),?_⟩
 rw[Rp]
 exact⟨p,_,rfl,Yl,.cons (by rw[Rp]) (.one (r.mono (Gr.new s hp _).g))⟩
theorem Yky{l:Expr}{f:Ro->Option D}{p:Pos}(hg:Gl X "enumerate")(hm:X.mg "enumerate"=none)(hl:ME X l f)(hs:starEach [l] X.env=[(false,eval l X.env)]:=by rfl) :
 MI X (.Tuple elts x1 pt) (.Call (.Name "enumerate" p) [l] [] pos) (b1 f Ysa):=
 PI.imp (Yvb hg hm (Ypq hl Ytn hs) hs) fun σ H R hx_=>by
  obtain⟨ρ,ds,H0,G0,G,e,s,h⟩:=hx_
  obtain⟨c,h1,h2⟩:=Ya8 e
  obtain⟨l,h3,rfl⟩:=qb h2
  refine tAof.at (show Ye f aNil ρ=some [c] by simp[Ye,aNil,h1]) s fun vs H1 G1 g1 r1 s1=>?_
  obtain⟨v,rfl,rv⟩:=Yfx r1
  rcases Yao h3 with rfl | rfl | ⟨ns,rfl,rfl⟩
  ·rw[Rp]at rv
   obtain⟨p,xs,rfl,g,rl⟩:=rv
   refine⟨p,xs,rfl,.inr ⟨.inl (.inl (s1.seen _ _ g)),fun hz=>h _ H1 G1 g1 ⟨by rw[Ybb,<-rl.length];exact hz,fun i H2 G2 e1 e2=>⟨fun d hd=>?_,fun hi=>⟨xs,.inl (.inl (e2 _ _ (e1 _ _ g))),by rw[rl.length,<-Ybb l];exact hi⟩⟩⟩⟩⟩
   obtain⟨d',hd',rfl⟩:=Yhc hd
   obtain⟨x,hx,rx⟩:=rl.get hd'
   refine⟨⟨xs,x,.inl (.inl (e2 _ _ (e1 _ _ g))),hx⟩,fun y H3 q=>?_⟩
   obtain⟨y',q',a1,a2,rfl,rfl⟩:=q
   have:=a1 xs (.inl (.inl (e2 _ _ (e1 _ _ g))))
   rw[hx]at this
   cases this
   exact Gr.newTup e2 a2 i (rx.mono e1)
  ·rw[Rp]at rv
   obtain⟨p,xs,rfl,g,rl⟩:=rv
   refine⟨p,xs,rfl,.inl ⟨.inl (Yan s1.seen g),fun hz=>h _ H1 G1 g1 ⟨by rw[Ybb,<-rl.length];exact hz,fun i H2 G2 e1 e2=>⟨fun d hd=>?_,fun hi=>⟨xs,.inl (Yan e2 (Yan e1 g)),by rw[rl.length,<-Ybb l];exact hi⟩⟩⟩⟩⟩
   obtain⟨d',hd',rfl⟩:=Yhc hd
   obtain⟨x,hx,rx⟩:=rl.get hd'
   refine⟨⟨xs,x,.inl (Yan e2 (Yan e1 g)),hx⟩,fun y H3 q=>?_⟩
   obtain⟨y',q',a1,a2,rfl,rfl⟩:=q
   have:=a1 xs (.inl (Yan e2 (Yan e1 g)))
   rw[hx]at this
   cases this
   exact Gr.newTup e2 a2 i (rx.mono e1)
  ·rw[Rp]at rv
   obtain⟨p,rfl,g⟩:=rv
   have rl:RpL X.K G1 (ns.map D.int) (ns.map V.int):=.ints ns
   refine⟨p,_,rfl,.inl ⟨s1.seen.seq g,fun hz=>h _ H1 G1 g1 ⟨by rw[Ybb,<-rl.length];exact hz,fun i H2 G2 e1 e2=>⟨fun d hd=>?_,fun hi=>⟨_,e2.seq (e1.seq g),by rw[rl.length,<-Ybb];exact hi⟩⟩⟩⟩⟩
   obtain⟨d',hd',rfl⟩:=Yhc hd
   obtain⟨x,hx,rx⟩:=rl.get hd'
   refine⟨⟨_,x,e2.seq (e1.seq g),hx⟩,fun y H3 q=>?_⟩
   obtain⟨y',q',a1,a2,rfl,rfl⟩:=q
   have:=a1 _ (e2.seq (e1.seq g))
   rw[hx]at this
   cases this
   exact Gr.newTup e2 a2 i (rx.mono e1)
end
end
section
variable {K:W.Frag}
end
section
open Sem (wp)
variable {K:W.Frag}
end
section
variable {K:W.Frag}
section
variable {X:Cx} {e ie:Expr} {f fb:Ro->Option D} {pos:Pos}
def rExt:V->List V->Hp->VK->Prop:=fun x vs H Q=>∃l b xs zs,x=.ref l/\vs=[.ref b]/\H l=some (.lst xs)/\Rd H b (.lst zs)/\xs.length+zs.length<=sizeLine/\Q .non (upd H l (.lst (xs++zs)))
theorem Yyn:MtM X "list.extend" rExt:=by
 intro pins s σ H x vs v us Q I rx rv h
 obtain⟨l,b,xs,zs,rfl,rfl,hH,hB,hz,q⟩:=h
 cases rx
 obtain⟨u,rfl,ru⟩:=rv.one
 cases ru
 obtain⟨z,its,n,r,hl,e⟩:=I.lstM hH
 obtain⟨z2,its2,n2,r2,e2⟩:=hB.ok I.hok
 have hl2:=r2.length
 have hsz:its.toArray.size+its2.toArray.size<=sizeLine:=by rw[qj,qj];lia
 have hlong:¬(!its.toArray.isEmpty&&Builtin.List.listTooLong (its.toArray.size+its2.toArray.size))=true:=by
  rw[Yrt hsz,Bool.and_false]
  exact qh
 refine call_meets F.slot_list_extend ⟨_,e,rfl⟩ F.entry_list_extend (F.args_list_extend_2 _ _)
  (AutoSeq1.list_extend_list_list_0 l its.toArray n b its2.toArray n2 hlong (by rw[qj];lia) (by lia)) ⟨e,e2,?_⟩
 refine⟨.non,_,I.lset (its':=its++its2) hH e (by simp) (r.append r2) ?_,rfl,q⟩
 rw[qw]
 lia
def extD(l:List D)(d:D):Option (List D):=match d with
 | .lst m=>if l.length+m.length<=cap6 then some (l++m)else none
 | _=>none
theorem Yqa(i:Nat){x:Str}{p2 apos cpos:Pos}(he:ME X e f)(hN:X.N[i]?=some x:=by rfl)(hv:Vis X.env.scope x:=by first | exact Or.inl rfl | exact Or.inr (Or.inl rfl) | exact Or.inr (Or.inr rfl))
 (hd:(x==("__debug__":Str))=false:=by decide) (hcd:(x==("__classdict__":Str))=false:=by decide) (hse:swapsWith (.Call (.Attribute (.Name x p2) "extend" apos) [e] [] cpos) none pos.line X.env=pure false:=by rfl)
 (hs:starEach [e] X.env=[(false,eval e X.env)]:=by rfl)
 (hfew:((backTo cpos (starEach [e] X.env)).all (fun x=>!x.1)&&(backToKw cpos (keywordEach [] X.env)).all (fun x=>x.1.isSome)&&decide ([e].length+([]:List Keyword).length+(if ([]:List Keyword).isEmpty then 0 else 1) < 30))=true:=by rfl)
 (hline:(apos.endLine==cpos.line)=true:=by rfl) (hbase:attributeBase (.Name x p2) "extend" X.env (eval (.Name x p2) X.env)=eval (.Name x p2) X.env:=by rfl) :
 MS X (.Expr (.Call (.Attribute (.Name x p2) "extend" apos) [e] [] cpos) pos) (sMut i f extD):=
 PS.imp (Yep (Ypb PySem.F.plainAttrs_list PySem.F.slot_list_extend PySem.F.type_list_extend Yyn (Ydx hN hv hd hcd) (Ya7 he Yc4 hs) hbase hfew hline hs rfl) hse) fun F σ H hx_=>by
  obtain⟨ρ,out,H0,G0,G,e,s,h⟩:=hx_
  unfold sMut at e
  obtain⟨l,h1,e⟩:=qa e
  obtain⟨d,h2,e⟩:=qa e
  obtain⟨l',h3,rfl⟩:=qb e
  unfold extD at h3
  split at h3
  ·rename_i m
   split at h3
   ·rename_i hl
    cases h3
    obtain⟨a,xs,ha,hH,hr,hG⟩:=Ypw s h1
    refine⟨_,ha,.inl ⟨rfl,xs,SqL.of hH⟩,tOf.at h2 s fun v H1 G1 g1 r1 s1=>?_⟩
    rw[Rp]at r1
    obtain⟨b,zs,rfl,gb,rz⟩:=r1
    refine⟨a,b,xs,zs,rfl,rfl,g1.h _ _ hH,Yan s1.seen gb,?_,h σ _ G1 (s1.mut (Ye8 h1) ha ((hr.mono g1.g).append rz))⟩
    rw[hr.length,rz.length]
    exact Yeu hl
   ·cases h3
  ·cases h3
end
end
section
variable {K:W.Frag}
def SE(w:World):List DictEntry->List (Str × Str)->Prop:=Paired fun e p=>e.hash=PyData.keyHash w.params p.1/\(∃t,e.key=.str p.1 t)/\(∃t,e.val=.str p.2 t)/\PyData.strOk p.2=true
def GD(K:W.Frag)(w:World)(mg:Str->Option Value)(x:Str)(kvs:List (Str × Str)):Prop:=∃p o es ep,mg x=some (.ref p)/\K.lookup p=some o/\o.ExactDict/\o.data=.dict es ep/\SE w es.toList kvs
def GI(mg:Str->Option Value)(x:Str)(i:Int):Prop:=∃t,mg x=some (.int i t)
theorem Yqb{P:Program}{w:World}{k v:Str}:∀{l:List DictEntry} {kvs:List (Str × Str)},SE w l kvs->kvs.lookup k=some v->∃e t,l.find? (fun e=>(PySem.strKind P w).is k e.key)=some e/\e.val=.str v t
 | _,_,.nil,h=>by simp at h
 | _,_,.cons (a:=e) (b:=p) r t,h=>by
   obtain⟨_,⟨t1,h1⟩,⟨t2,h2⟩,_⟩:=r
   obtain⟨a,b⟩:=p
   by_cases q:a=k
   ·subst q
    simp at h
    subst h
    exact⟨e,t2,by simp[List.find?_cons,h1,PySem.strKind,Value.isStrOf],h2⟩
   ·have q':¬k=a:=fun z=>q z.symm
    simp[Qd,q']at h
    have hn:(k==a)=false:=by simpa using q'
    obtain⟨e',t',h3,h4⟩:=Yqb (P:=P) t (by simpa [Qd,hn]using h)
    refine⟨e',t',?_,h4⟩
    rw[List.find?_cons]
    have:(PySem.strKind P w).is k e.key=false:=by
     rw[h1]
     show(a==k)=false
     simpa using q
    rw[this]
    exact h3
theorem Yqc{P:Program}{w:World}:∀{l:List DictEntry} {kvs:List (Str × Str)},SE w l kvs->∀e∈l,∃k,(PySem.strKind P w).is k e.key=true/\e.hash=(PySem.strKind P w).hash k
 | _,_,.nil,e,h=>by cases h
 | _,_,.cons (b:=p) r t,e,h=>by
   rcases qr h with rfl | h
   ·obtain⟨h0,⟨t1,h1⟩,_⟩:=r
    exact⟨p.1,by rw[h1];simp[PySem.strKind,Value.isStrOf],h0⟩
   ·exact Yqc t e h
theorem Yyo{w:World}{k v:Str}:∀{l:List DictEntry} {kvs:List (Str × Str)},SE w l kvs->kvs.lookup k=some v->PyData.strOk v=true
 | _,_,.nil,h=>by simp at h
 | _,_,.cons (b:=p) r t,h=>by
   obtain⟨_,_,_,h1⟩:=r
   obtain⟨a,b⟩:=p
   by_cases q:k=a
   ·subst q
    simp at h
    subst h
    exact h1
   ·have hn:(k==a)=false:=by simpa using q
    exact Yyo t (by simpa [Qd,hn]using h)
section
variable {X:Cx} {ke:Expr} {fk:Ro->Option D} {pos px:Pos} {x:Str}
def Yqd(kvs:List (Str × Str)):D->Option D
 | .str k=>(kvs.lookup k).map D.str
 | _=>none
theorem Ysb{kvs:List (Str × Str)}(g:GD X.K X.w X.mg x kvs)(hg:Gl X x)(hk:MC X ke fk)(hs:NoSl ke:=by intro _ _;rfl)(hd:(x==("__debug__":Str))=false:=by decide):ME X (.Subscript (.Name x px) ke pos) (b1 fk (Yqd kvs)):=by
 obtain⟨p,o,es,ep,hm,hl,hx,hdt,hse⟩:=g
 intro pins s σ H Q I ⟨ρ,d,H0,G0,G,e,sr,h⟩
 obtain⟨dk,h1,h2⟩:=Ya8 e
 refine Yub PySem.F.slot_dict_getitem.lookup hs (Yi2 I hg hm ?_ hd)
 refine thn (hk pins s σ H (fun(v':V) (H':Hp)=>∃k r,v'=.str k/\kvs.lookup k=some r/\Q (.str r) H') I (tCof.at h1 sr fun v H1 G1 g1 r1 s1=>?_)) fun iv s2 q0=>?_
 ·unfold Yqd at h2
  split at h2
  ·rename_i k
   obtain⟨r,h3,rfl⟩:=qb h2
   rw[Ct]at r1
   exact⟨k,r,r1.1,h3,h _ H1 G1 g1 (by rw[Rp];exact⟨rfl,Yyo hse h3⟩)⟩
  ·cases h2
 ·obtain⟨y,H2,I2,ry,k,r,rfl,h3,q⟩:=q0
  obtain⟨t,rfl⟩:=ry
  have ho:s2.heap.get? p=some o:=I2.kIn p o hl
  obtain⟨e',t',f1,f2⟩:=Yqb (P:=X.prog) hse h3
  refine⟨⟨o,ho,hx.1⟩,wpAny_getItem_of (knd:=PySem.strKind X.prog X.w) (k:=k) (f:=fun k=>findBy (PySem.strKind X.prog X.w).is es k) (v:=.str r t') (by simp[PySem.strKind,Value.isStrOf]) ⟨o,es,ep,ho,hx,hdt,?_,fun _=>rfl⟩ ?_ ⟨.str r,H2,I2.tok _,⟨t',rfl⟩,q⟩⟩
  ·intro e'' he
   exact Yqc hse e'' (by simpa using he)
  ·show(es.find? fun e=>(PySem.strKind X.prog X.w).is k e.key).map (·.val)=_
   rw[<-Array.find?_toList,f1,Option.map_some,f2]
theorem Yvc{i:Int}(g:GI X.mg x i)(hg:Gl X x)(hd:(x==("__debug__":Str))=false:=by decide):ME X (.Name x px) (kD (.int i)):=by
 obtain⟨t,hm⟩:=g
 exact Ye9 (v:=.int i) (Yot (v:=.int i) hg hm ⟨t,rfl⟩ hd) (fun _ _ _ q=>q) fun _=>by rw[Rp]
end
def tK(x:Str):TE:=fun _ H Q=>Q (.str x) H
structure MP(X:Cx)(pos:Pos)(keys:List (Option Expr))(values:List Expr)(ks:List Str)(fs:List (Ro->Option D)):Prop where
 len:ks.length=fs.length
 pps:PPs X pos keys values ((ks.zip fs).map fun p=>(tK p.1,tOf X.K p.2))
 all:keys.all (·.isSome)=true
 kv:keys.length=values.length
 kk:keys.length=ks.length
end
section
variable {K:W.Frag}
structure DtH(H:Hp)(a:Addr)(nks:List (List Int × Addr))(vxs:List V):Prop where
 at':∃ep,H a=some (dTo a nks vxs ep)
 len:nks.length=vxs.length
 nd:(nks.map (·.1)).Nodup
 keys:∀p∈nks,∃ys,H p.2=some (.tup ys)/\Yun ys=some p.1
end
section
end
section
section
variable {X:Cx} {a b c e:Expr} {fa fb fc:Ro->Option D} {pos:Pos} {st:Stmt}
def nS:Ro->Option Out:=fun _=>none
theorem Ysc:MS X st nS:=fun _ _ _ _ _ _ ⟨_,_,_,_,_,h,_⟩=>nomatch h
end
end
section
section
variable {X:Cx} {e:Expr} {f:Ro->Option D} {fc:Ro->Option Bool} {gl:Ro->Option (List D)} {K:W.Frag}
def Ysd:D->Bool
 | .non | .bl _ | .int _ | .str _=>true
 | _=>false
def scal(d:D):Option D:=if Ysd d=true then some d else none
theorem Rp.scal{G G':Hp}{d:D}{v:V}(h:Ysd d=true)(r:Rp K G d v):Rp K G' d v:=by
 cases d<;>first | (rw[Rp]at r ⊢;exact r) | cases h
theorem Gr.back{H G H' G' G1:Hp}(s:Same G H)(g:Gr H G1 H' G'):Gr H G H' G:=⟨g.h,Same.refl _,s.trans g.h,fun _ h h'=>absurd h h'⟩
mutual
def plB:D->Bool
 | .non=>true
 | .bl _=>true
 | .int _=>true
 | .str _=>true
 | .tup l=>plBL l
 | .lst _=>false
 | .scr _=>false
 | .dct _ _ _=>false
 | .obj _ _ _=>false
 | .adr _=>false
def plBL:List D->Bool
 | []=>true
 | d::l=>plB d&&plBL l
end
mutual
theorem Rp.plain{G G':Hp}(hG:∀b ys,G b=some (HO.tup ys)->G' b=some (HO.tup ys)):∀{d:D} {v:V},plB d=true->Rp K G d v->Rp K G' d v
 | .non,_,_,r=>by rw[Rp]at r ⊢;exact r
 | .bl _,_,_,r=>by rw[Rp]at r ⊢;exact r
 | .int _,_,_,r=>by rw[Rp]at r ⊢;exact r
 | .str _,_,_,r=>by rw[Rp]at r ⊢;exact r
 | .tup l,_,h,r=>by
   rw[Rp]at r ⊢
   rw[plB]at h
   obtain⟨a,xs,e,g,q⟩:=r
   exact⟨a,xs,e,hG _ _ g,RpL.plain hG h q⟩
 | .lst _,_,h,_=>by rw[plB]at h;cases h
 | .scr _,_,h,_=>by rw[plB]at h;cases h
 | .dct _ _ _,_,h,_=>by rw[plB]at h;cases h
 | .obj _ _ _,_,h,_=>by rw[plB]at h;cases h
 | .adr _,_,h,_=>by rw[plB]at h;cases h
theorem RpL.plain{G G':Hp}(hG:∀b ys,G b=some (HO.tup ys)->G' b=some (HO.tup ys)):∀{l:List D} {xs:List V},plBL l=true->RpL K G l xs->RpL K G' l xs
 | [],_,_,r=>by rw[RpL]at r ⊢;exact r
 | d::l,_,h,r=>by
   rw[RpL]at r ⊢
   rw[plBL,Bool.and_eq_true]at h
   obtain⟨x,xs,e,g,q⟩:=r
   exact⟨x,xs,e,Rp.plain hG h.1 g,RpL.plain hG h.2 q⟩
end
end
end
section
variable {K:W.Frag}
set_option maxRecDepth 100000
section
variable {X:Cx} {e:Expr} {f:Ro->Option D} {p pos:Pos}
theorem nr1{α:Sort _}{a b:α}(h:a=b):a=b:=h
end
end
section
section
variable {X:Cx} {a b e:Expr} {fa fb f:Ro->Option D} {pos:Pos} {K:W.Frag}
theorem Yh4{M:Model}{A:Around}{E:Value->Shared->Prop}{s:Shared}{Q:Value->Shared->Prop}{v:Value}{k:Bool}(hb:∀id,v≠.builtin id)(h:Q (.bool (!(v==.bool k))) s):wpAny M A (compareOp .IsNot v (.bool k)) Q E s:=by
 cases v<;>first | exact wpAny_pure h | exact absurd rfl (hb _)
def isBl(k:Bool):D->Bool
 | .bl j=>j==k
 | _=>false
def isB(neg:Bool):D->D->Option Bool
 | d,.bl k=>some (isBl k d != neg)
 | _,_=>none
theorem vbl{x:V}{v:Value}(r:RelV x v)(k:Bool):(v==.bool k)=decide (x=.bl k):=by
 cases x with
 | bl j=>
   cases (show v=Value.bool j from r)
   by_cases h:j=k
   ·subst h;simp
   ·simp[h]
 | non=>cases (show v=Value.none from r);rfl
 | int i=>obtain⟨t,rfl⟩:=r;rfl
 | str i=>obtain⟨t,rfl⟩:=r;rfl
 | ref i=>cases (show v=Value.ref i from r);rfl
 | _=>first | (obtain⟨t,rfl⟩:=r;rfl) | (cases r;rfl)
theorem nobl{x:V}{v:Value}(r:RelV x v):∀id,v≠.builtin id:=fun id z=>by
 subst z
 cases x<;>first | (obtain⟨t,h⟩:=r;cases h;done) | (cases r;done)
theorem Yvd:OpR X (compareOp .IsNot) (fun x y H Q=>∃k,y=.bl k/\Q (.bl (decide (x=.bl k) != true)) H):=by
 intro pins s σ H x y v u Q I rx ry h
 obtain⟨k,rfl,q⟩:=h
 cases ry
 refine Yh4 (nobl rx) ⟨_,H,I,?_,q⟩
 rw[vbl rx]
 simp
 rfl
theorem Yve{G H:Hp}{d:D}{v:V}(r:Ct K G H d v)(k:Bool):decide (v=.bl k)=isBl k d:=by
 cases d with
 | bl j=>
   rw[Ct]at r
   subst r
   by_cases h:j=k
   ·subst h;simp[isBl]
   ·simp[isBl,h]
 | non=>rw[Ct]at r;subst r;simp[isBl]
 | int i=>rw[Ct]at r;subst r;simp[isBl]
 | str i=>rw[Ct]at r;obtain⟨rfl,_⟩:=r;simp[isBl]
 | tup l=>rw[Ct]at r;obtain⟨a,xs,rfl,_⟩:=r;simp[isBl]
 | lst l=>rw[Ct]at r;obtain⟨a,xs,rfl,_⟩:=r;simp[isBl]
 | scr l=>rw[Ct]at r;obtain⟨a,rfl,_⟩:=r;simp[isBl]
 | dct t l m=>rw[Ct]at r;obtain⟨a,xs,ys,rfl,_⟩:=r;simp[isBl]
 | obj t l m=>rw[Ct]at r;obtain⟨a,C,dx,xs,rfl,_⟩:=r;simp[isBl]
 | adr a=>rw[Ct]at r;subst r;simp[isBl]
theorem Yvf{neg:Bool}:Yh3 K (fun x y H Q=>∃k,y=.bl k/\Q (.bl (decide (x=.bl k) != neg)) H) (isB neg):=by
 intro x y dx dy c H G Q h s rx ry q
 unfold isB at h
 split at h
 ·rename_i k
  cases h
  have e:=Yve rx k
  rw[Ct]at ry
  subst ry
  exact⟨k,rfl,by rw[e];exact q⟩
 ·cases h
theorem Yvg(ha:MC X a fa)(hb:MC X b fb):MT X (.Compare a [.IsNot] [b] pos) (b2 fa fb (isB true)):=Ygf Yvd Yvf ha hb (Ydy _)
def maxC:List D->Option D
 | [.int i,.int j]=>some (.int (if j > i then j else i))
 | _=>none
theorem Yqe{G H:Hp}{i j:Int}{vs:List V}(r:CtL K G H [.int i,.int j] vs):vs=[.int i,.int j]:=by
 obtain⟨x,r,rfl,h1,h2⟩:=r
 obtain⟨y,r,rfl,h3,h4⟩:=h2
 cases (show r=[] from h4)
 rw[Ct]at h1
 rw[Ct]at h3
 rw[h1,h3]
theorem Yqf:SemC K (fun xs H Q=>∃i j,xs=[.int i,.int j]/\Q (.int (if j > i then j else i)) H) maxC:=by
 intro vs ds d H G Q h s r q
 unfold maxC at h
 split at h
 ·rename_i i j
  cases h
  exact⟨i,j,Yqe r,q _ H G (.refl s) (by rw[Rp])⟩
 ·cases h
theorem nr2{α:Sort _}{a b:α}(h:a=b):a=b:=h
@[simp] theorem maxC_ints(i j:Int):maxC [.int i,.int j]=some (.int (if j > i then j else i)):=nr2 rfl
end
end
section
set_option maxRecDepth 100000
def Ytq:List D->Option (List (Int × D))
 | []=>some []
 | .tup [.int i,v]::l=>(Ytq l).map ((i,v)::·)
 | _=>none
def pairsOf:D->Option (List (Int × D))
 | .lst l=>Ytq l
 | _=>none
variable {K:W.Frag}
end
section
def Yvh:List Value->List Str->Prop:=Paired fun v k=>(∃t,v=.str k t)/\PyData.strOk k=true
def GT(K:W.Frag)(mg:Str->Option Value)(x:Str)(ks:List Str):Prop:=∃p o its n,mg x=some (.ref p)/\K.lookup p=some o/\o.cls=.type "tuple"/\o.data=.seq its n/\Yvh its.toList ks
theorem Yio{h:Heap}:∀{vs:List Value} {ks:List Str},Yvh vs ks->∃as,ReadsAll h vs (ks.map PyData.str) as/\PyData.canLayAll0 (ks.map PyData.str)=true
 | _,_,.nil=>⟨_,.nil,by simp[PyData.canLayAll0]⟩
 | _,_,.cons r t=>by
   obtain⟨⟨tk,rfl⟩,hk⟩:=r
   obtain⟨as,h1,h2⟩:=Yio (h:=h) t
   exact⟨_,.cons (.str _ tk) h1,by simp[PyData.canLayAll0,PyData.canLay0,h2,hk]⟩
def inG(neg:Bool)(ks:List Str):D->Option Bool
 | .str k=>some (decide (k∈ks) != neg)
 | _=>none
def rInG(p:Addr)(ks:List Str)(neg:Bool):R2:=fun x y H Q=>∃k,x=.str k/\PyData.strOk k=true/\y=.ref p/\Q (.bl (decide (k∈ks) != neg)) H
theorem Yqg(k:Str):∀ks:List Str,((ks.map PyData.str).any fun y=>PyData.eqv y (.str k))=decide (k∈ks)
 | []=>rfl
 | a::ks=>by
   rw[qy,List.any_cons,Yqg k ks]
   have e:PyData.eqv (.str a) (.str k)=decide (k=a):=by
    simp only[PyData.eqv]
    rw[show(a==k)=decide (a=k) from rfl]
    exact decide_eq_decide.mpr ⟨fun h=>h.symm,fun h=>h.symm⟩
   rw[e]
   by_cases h:k=a<;>simp[h]
end
section
end
section
set_option maxRecDepth 100000
section
variable {prog:Program} {w:World} {A:Around} {E:Value->Shared->Prop} {s:Shared}
theorem Yl2:isSubtype (.type "set") (.type "set")=pure true:=by rw[isSubtype_type];kernel_rfl
theorem Yvi{vals:List Int}:∀{acc:List Value},acc.length=vals.length->(∀(j:Nat) v,acc[j]?=some v->PInt vals j v)->IntsAre acc vals:=by
 induction vals with
 | nil=>
   intro acc h _
   rw[List.length_eq_zero_iff.mp h]
   exact .nil
 | cons k r ih=>
   intro acc h hp
   match acc,h with
   | v::acc,h=>
     obtain⟨k',t,e1,e2⟩:=hp 0 v rfl
     simp at e1
     subst e1
     subst e2
     refine .cons _ t (ih (by simpa using h) fun j v hj=>?_)
     obtain⟨k',t,e1,e2⟩:=hp (j+1) v (by simpa using hj)
     exact⟨k',t,by simpa using e1,e2⟩
theorem Yl3{a:Addr}{ns:List Int}(hh:A.handled=none)(hS:SetI prog w s.heap a ns){Q:List Value->Shared->Prop}
 (hQ:∀(h':Heap) (d':Drawn) (tk:Nat) (acc:List Value) (vals:List Int),s.heap.objs.size<=h'.objs.size->(∀b o,s.heap.get? b=some o->h'.get? b=some o)->IntsAre acc vals->vals.Perm ns->Q acc { s with heap:=h',drawn:=d',toks:=tk }) :
 wpAny (model prog w) A (collect (.ref a)) Q E s:=by
 obtain⟨o,es,ep,t,ho,hex,hd,_⟩:=id hS
 have hlt:a < s.heap.objs.size:=qk ho
 have hlen:=hS.len
 unfold collect
 refine wpAny_bind (wpAny_runValue (codeAny_builtin F.entry_proto_collect ?_))
 rw[Around.under_plainId F.plain_proto_collect _]
 show wpAny _ A.in1 (newList [] >>= fun l=>again (.builtin "list.__iadd__" ⟨[l,.ref a],[]⟩)) _ _ s
 refine wpAny_bind (wpAny_newObj_type ?_)
 refine wpAny_pure ⟨plainId_quiet F.plain_list_iadd _,codeAny_builtin F.entry_list_iadd ?_⟩
 rw[Around.under_plainId F.plain_list_iadd _]
 generalize hH:s.heap.push { cls:=.type "list",data:=.seq ([]:List Value).toArray }=H
 have hHs:H.objs.size=s.heap.objs.size+1:=by rw[<-hH,Heap.size_push]
 have keepH:∀b o,s.heap.get? b=some o->H.get? b=some o:=fun b o e=>by rw[<-hH];exact qd _ e
 have hL:H.get? s.heap.objs.size=some { cls:=.type "list",data:=.seq ([]:List Value).toArray }:=by rw[<-hH];exact qo _ rfl
 have hoH:=keepH a o ho
 have hT:Shared.TypeIs { s with heap:=H } (.ref a) "set":=⟨o,hoH,hex.1⟩
 have hSI:s.heap.objs.size≠a:=fun z=>by rw[<-z]at hlt;exact absurd hlt (Nat.lt_irrefl _)
 have h1:Builtin.List.listSameRef (.ref s.heap.objs.size) (.ref a)=false:=by simp[Builtin.List.listSameRef,hSI]
 show wpAny _ A.in1 (Builtin.List.listExtendWith (.ref s.heap.objs.size) (.ref a) (.ref s.heap.objs.size)) _ _ _
 unfold Builtin.List.listExtendWith
 refine wpAny_bind (wpAny_typeOf hT ?_)
 have h2:(Value.type "set"==Value.type "list")=false:=by decide
 have h3:(Value.type "set"==Value.type "tuple")=false:=by decide
 simp only[h1,h2,h3,Bool.or_false,Bool.false_eq_true,if_false]
 refine wpAny_bind (Yry (s:={ s with heap:=H }) (hS.at fun o e=>keepH a o e) fun h' d' I fp vals St keep hI hIf hfp hp hW hst hty=>?_)
 have ho':=keep a o hoH
 have hT':Shared.TypeIs { s with heap:=h',drawn:=d' } (.ref a) "set":=⟨o,ho',hex.1⟩
 refine wpAny_bind (wpAny_holding ?_)
 unfold Builtin.List.listLengthHint
 refine wpAny_bind (wpAny_specialOf hT' F.slot_set_len.lookup ?_)
 (generalize hid:("set.__len__":String)=id0;(fail_if_success (clear hid id0));wp_delta;rw[show splitId id0=some ("set","__len__") from by subst hid;decide +kernel];subst hid)
 refine wpAny_bind (wpAny_isInstance (b:=true) hT' Yl2 ?_)
 show wpAny _ A.in1 (typeOf (Value.ref a) >>= _) _ _ _
 refine wpAny_bind (wpAny_typeOf hT' ?_)
 refine wpAny_pure ?_
 rw[if_pos (by decide)]
 refine wpAny_bind (wpAny_rule ?_)
 have hSf:s.heap.objs.size∉fp:=fun hm=>by
  rcases(hfp _ hm).2 with z | z
  ·exact hSI z
  ·rw[show({ s with heap:=H }:Shared).heap.objs.size=H.objs.size from rfl,hHs]at z
   exact absurd z (Nat.not_le.mpr (qx _))
 have hS₁:h'.get? s.heap.objs.size=some { cls:=.type "list",data:=.seq ([]:List Value).toArray }:=keep _ _ hL
 refine wpAny_bind ?_
 show wpAny _ A.in1 (updateSeq s.heap.objs.size (·.push .none) >>= fun _=>updateSeq s.heap.objs.size (·.pop)) _ _ _
 refine wpAny_bind (wpAny_updateSeq hS₁ rfl ?_)
 have hS₂:=Heap.get?_update_self (Obj.mapSeq (·.push Value.none)) hS₁ rfl
 refine wpAny_updateSeq hS₂ rfl ?_
 have hS₃:=Heap.get?_update_self (Obj.mapSeq (·.pop)) hS₂ rfl
 have oth:∀b o,b≠s.heap.objs.size->h'.get? b=some o->
  ((h'.update s.heap.objs.size (Obj.mapSeq (·.push Value.none))).update s.heap.objs.size (Obj.mapSeq (·.pop))).get? b=some o:=
  fun b o hb e=>(Heap.get?_update_other _ _ (Ne.symm hb)).trans ((Heap.get?_update_other _ _ (Ne.symm hb)).trans e)
 have W:=(hW A.in1 hh).toS
 refine wpAny_pure ⟨plainId_quiet F.plain_extend_loop _,codeAny_extend_loopS W (fits_of_scanBound hlen) _ hSf _ ns.length 0 _ _ _ rfl (Nat.zero_le _)
  (W.frame 0 ({ s with heap:=h',drawn:=d' }:Shared) _ s.toks hst (qs _) fun b hb o e=>oth b o (fun h=>hSf (h ▸ hb)) e) hS₃ (ItemsOf.nil _) fun s' acc' c' hm hS' hacc=>?_⟩
 show wpAny _ A (load s.heap.objs.size >>= _) _ _ s'
 refine wpAny_bind (wpAny_load hS' ?_)
 have eg:s'.gens=s.gens:=hm.gens
 have ed:s'.drawn=d':=hm.drawn
 have eo:s'.os=s.os:=hm.os
 have es':s'={ s with heap:=s'.heap,drawn:=d',toks:=s'.toks }:=by
  obtain⟨a1,a2,a3,a4,a5⟩:=s'
  simp only at eg ed eo
  subst eg;subst ed;subst eo
  rfl
 rw[es']
 refine wpAny_pure (hQ s'.heap d' s'.toks acc'.toList vals (Nat.le_of_lt (qk hS')) (fun b ob e=>?_) (Yvi (by rw[qi,hacc.1,hp.length_eq]) fun j v hj=>hacc.2 j v (by rw[<-Array.getElem?_toList];exact hj)) hp)
 have hb:b < s.heap.objs.size:=qk e
 refine hm.heap b ob (fun hm'=>?_) (oth b ob (ql hb) (keep b ob (keepH b ob e)))
 rcases qr hm' with z | z
 ·rw[z]at hb;exact absurd hb (Nat.lt_irrefl _)
 ·rw[List.mem_singleton.mp z]at hb
  have:H.objs.size<=I:=hI
  rw[hHs]at this
  exact absurd (Qb hb (qz (Nat.le_succ _) this)) (Nat.lt_irrefl _)
theorem Yod{a:Addr}{ns:List Int}(hh:A.handled=none)(hS:SetI prog w s.heap a ns)(h64:ns.length < 64){Q:Value->Shared->Prop}
 (hQ:∀(h':Heap) (d':Drawn) (tk e:Nat) (p:Addr) (out:Array Value) (ns':List Int),(∀b o,s.heap.get? b=some o->h'.get? b=some o)->s.heap.objs.size<=p->h'.get? p=some (seqObj "list" out e)->IntsAre out.toList ns'->ns'.Perm ns->ns'.Pairwise (·<=·)->
  Q (.ref p) { s with heap:=h',drawn:=d',toks:=tk }):wpAny (model prog w) A (call (.builtin "sorted") [.ref a]) Q E s:=by
 refine Calls.call_function_entry kind_sorted plain_sorted entry_sorted (args_sorted1 _) ?_
 unfold Builtin.«sorted»
 refine wpAny_bind (m:=checkCount "sorted" 1 1 _) (wpAny_pure ?_)
 refine wpAny_bind (Yl3 (A:=A.in1) hh hS fun h' d' tk acc vals hle keep hI hp=>?_)
 have hl:acc.length=vals.length:=IntsAre.length hI
 have h64':acc.length < 64:=by rw[hl,hp.length_eq];exact h64
 refine wpAny_bind (wpAny_newList ?_ (by rw[sizeLine_eq];lia))
 have hoL:(h'.push (seqObj "list" acc.toArray 0)).get? h'.objs.size=some (seqObj "list" acc.toArray 0):=qo _ rfl
 show wpAny _ _ _ _ _ { s with heap:=h'.push (seqObj "list" acc.toArray 0),drawn:=d',toks:=tk }
 refine wpAny_bind (wpAny_holding (wpAny_call_entry slot_list_sort ⟨_,hoL,rfl⟩ entry_list_sort (list_sort_tree (s:={ s with heap:=h'.push (seqObj "list" acc.toArray 0),drawn:=d',toks:=tk }) hoL hI h64' fun out ns' a1 a2 a3=>⟨_,rfl,?_⟩) (args_list_sort _)))
 obtain⟨e,he⟩:=sortedHeap_at (n:=0) (out:=out) hoL
 refine wpAny_pure ⟨_,rfl,hQ _ d' tk e h'.objs.size out ns' (fun b o eb=>?_) hle he a1 (a2.trans hp) a3⟩
 have hb:=qk (keep b o eb)
 rw[sortedHeap_old (ql hb) (by rw[size_push'];exact qu hb)]
 exact qd _ (keep b o eb)
end
def setO(P:Program)(w:World)(p:Addr)(ms:List Int):HO:=.ext fun h=>SetI P w h p ms
theorem Yqh{P:Program}{w:World}{H:Hp}{h:Heap}{p:Addr}{ms:List Int}(x:SetI P w h p ms):ObjOk P w H h p (setO P w p ms):=by
 refine⟨x,?_,fun h1 h2 e k=>e.at k⟩
 obtain⟨o,_,_,_,ho,_⟩:=x
 exact⟨o,ho⟩
section
variable {X:Cx} {pins:List (Addr × Obj)} {σ:L2.St} {H:Hp} {s:Shared} {e:Expr} {f:Ro->Option D} {p p2 pos pos2:Pos}
theorem _root_.L2.Inv.dr(I:Inv X pins σ H s)(d':Drawn):Inv X pins σ H { s with drawn:=d' }:=⟨I.ok,I.os,I.bare,I.base,I.loc,I.cell,I.free,I.freeC,I.pin,I.hok,I.len⟩
theorem Ykz{ns:List Int}{us:List Value}(r:Vals (ns.map V.int) us):IntsAre us ns:=Yfu r
def y0f(K:W.Frag)(P:Program)(w:World):List V->Hp->VK->Prop:=fun xs H Q=>∃a ns,xs=[.ref a]/\(SqL K H a (ns.map V.int)\/SqT K H a (ns.map V.int))/\ns.length < 4000/\∀p ms,H p=none->ms.Perm (ddup [] ns)->Q (.ref p) (upd H p (setO P w p ms))
theorem Yqi(hc:X.calm=true):Yco X (.type "set") (y0f X.K X.prog X.w):=by
 intro pins s σ H xs us Q I r h
 obtain⟨a,ns,rfl,hq,hl,q⟩:=h
 obtain⟨u,rfl,rx⟩:=Yft r
 cases rx
 have hh:X.A.handled=none:=I.ok.hd hc
 have hsb:scanBound=4096:=rfl
 rcases hq with hq | hq
 ·obtain⟨its,rv,pl,hz⟩:=I.list hq
  have hlen:=rv.length
  rw[qe]at hlen
  refine Yjb hh pl.isList (by simpa using Ykz rv) (by rw[qj,hsb];lia) fun h' tk ms hS hp hk=>?_
  exact⟨.ref s.heap.objs.size,_,I.laid (t':=tk) (fun b o e=>hk b o (qk e) e) (qs _) (Yqh hS),rfl,q _ ms (I.hok.fresh (qs _)) hp⟩
 ·obtain⟨its,rv,pl,hz⟩:=I.tuple hq
  have hlen:=rv.length
  rw[qe]at hlen
  refine Yh1 hh pl (by simpa using Ykz rv) (by rw[qj,hsb];lia) fun h' tk ms hS hp hk=>?_
  exact⟨.ref s.heap.objs.size,_,I.laid (t':=tk) (fun b o e=>hk b o (qk e) e) (qs _) (Yqh hS),rfl,q _ ms (I.hok.fresh (qs _)) hp⟩
def Yyp(P:Program)(w:World):List V->Hp->VK->Prop:=fun xs H Q=>∃a ms,xs=[.ref a]/\H a=some (setO P w a ms)/\ms.length < 64/\∀p,H p=none->Q (.ref p) (upd H p (.lst ((Yc6 ms).map V.int)))
theorem Yoe(hc:X.calm=true):Yco X (.builtin "sorted") (Yyp X.prog X.w):=by
 intro pins s σ H xs us Q I r h
 obtain⟨a,ms,rfl,hq,hl,q⟩:=h
 obtain⟨u,rfl,rx⟩:=Yft r
 cases rx
 have hh:X.A.handled=none:=I.ok.hd hc
 have hS:SetI X.prog X.w s.heap a ms:=(show ObjOk X.prog X.w H s.heap a (setO X.prog X.w a ms) from I.hok a _ hq).1
 refine Yod hh hS hl fun h' d' tk e p out ns' keep hp he hI hpm hs=>?_
 have en:ns'=Yc6 ms:=W.ksm_same (hpm.trans (Ya0 ms).symm) hs (Yav ms)
 subst en
 have hn:(Yc6 ms).length=ms.length:=(Ya0 ms).length_eq
 refine⟨.ref p,_,Inv.laid (t':=tk) (I.dr d') keep hp (show ObjOk X.prog X.w _ _ _ (.lst ((Yc6 ms).map V.int)) from⟨by rw[qe,hn,sizeLine_eq];lia,out.toList,e,Ye4 hI,by rw[Array.toArray_toList];exact he⟩),rfl,q _ (I.hok.fresh hp)⟩
def Yqj(l:List D):Option (List D):=match Yd0 l with
 | some ns=>if ns.length < 4000/\(ddup [] ns).length < 64 then some ((Yc6 (ddup [] ns)).map D.int)else none
 | none=>none
theorem Yjj{a b:List Int}(h:a.Perm b):Yc6 a=Yc6 b:=W.ksm_same (((Ya0 a).trans h).trans (Ya0 b).symm) (Yav a) (Yav b)
def Yfc(f:Ro->Option D):Ro->Option (List D):=fun ρ=>(b1 f Yr ρ).bind Yqj
theorem nr0{α:Sort _}{a b:α}(h:a=b):a=b:=h
@[simp] theorem ap_sortsetF{ρ:Ro}:Yfc f ρ=((f ρ).bind Yr).bind Yqj:=nr0 rfl
theorem Yof(hc:X.calm=true)(hg:Gl X "sorted")(hm:X.mg "sorted"=none)(hg2:Gl X "set")(hm2:X.mg "set"=none)(ha:MC X e f)(hs:starEach [e] X.env=[(false,eval e X.env)]:=by rfl)
 (he:starEach [.Call (.Name "set" p2) [e] [] pos2] X.env=[(false,eval (.Call (.Name "set" p2) [e] [] pos2) X.env)]:=by rfl)
 (hpl:(backTo pos2 (starEach [] X.env)).any (·.1)=false:=by rfl) (hpl2:(backTo pos (starEach [] X.env)).any (·.1)=false:=by rfl) :
 MF X (.Call (.Name "sorted" p) [.Call (.Name "set" p2) [e] [] pos2] [] pos) (Yfc f):=
 PE.imp (Ygq (Yoe hc) hg hm boot_sorted (Ya7 (Yg0 (Yqi hc) hg2 hm2 boot_set (Ym5 ha Ypr hs) (by decide) (by decide) hs hpl) Yc4 he) (by decide) (by decide) he hpl2) fun σ H Q hx_=>by
  obtain⟨ρ,l,H0,G0,G,e,s,h⟩:=hx_
  unfold Yfc at e
  obtain⟨l0,h1,e⟩:=qa e
  obtain⟨d,h2,h3⟩:=Ya8 h1
  refine tCAof.at (show Ye f aNil ρ=some [d] by simp[Ye,aNil,h2]) s fun vs H1 G1 g1 r1 s1=>?_
  obtain⟨v,rfl,rv⟩:=Ycx r1
  obtain⟨q,xs,rfl,hq,rl⟩:=Ypv (K:=X.K) h3 rv
  unfold Yqj at e
  split at e
  ·rename_i ns hns
   split at e
   ·rename_i hl
    cases e
    cases Yf0 hns
    cases Yjg rl
    refine⟨q,ns,rfl,hq,hl.1,fun m ms hm' hp=>?_⟩
    have g2:=Gr.hid s1.seen hm' (setO X.prog X.w m ms)
    have s2:=s1.grow g2
    refine⟨m,ms,rfl,Yl,by rw[hp.length_eq];exact hl.2,fun r hr=>?_⟩
    rw[Yjj hp]
    refine h r _ _ G1 ((g1.trans g2).trans (.hid s2.seen hr _)) ((g1.trans g2).h.free hr) (s2.seen.free hr) Yl (.ints _)
   ·cases e
  ·cases e
end
end
section
def y0g:List Nat:=[8,16,32,64,128]
end
section
end
section
set_option maxRecDepth 100000
end
section
set_option maxRecDepth 100000
section
variable {prog:Program} {w:World} {A:Around} {E:Value->Shared->Prop} {s:Shared}
structure SetQ(w:World)(h:Heap)(a:Addr)(us:List (Int × Addr)):Prop where
 ex:∃o es ep t,h.get? a=some o/\o.ExactSet/\o.data=.set es ep t/\es.toList=us.map (fun u=>(u.1,Value.ref u.2))/\t.fits es.size=true/\t.mask=7/\t.dummies=#[]/\t.place.toList=us.map (fun u=>SetTable.bits u.1 % 8)/\Tab (byT w) t
end
end
section
set_option maxRecDepth 100000
end
section
end
section
set_option maxRecDepth 100000
def advM(mask:Nat)(p:SetTable.Probe):SetTable.Probe:=SetTable.advance { mask:=mask,place:=#[],dummies:=#[],finger:=0,led:=false,moves:=0,plain:=false } p
def itP(mask:Nat):Nat->SetTable.Probe->SetTable.Probe
 | 0,p=>p
 | k+1,p=>itP mask k (advM mask p)
def stP(mask i perturb:Nat):SetTable.Probe:={ j:=i,more:=SetTable.runEnd mask i - i,i,perturb,dummy:=none }
def Way(mask:Nat)(occ:Nat->Prop)(p:SetTable.Probe)(j:Nat):Prop:=∃k,(itP mask k p).j=j/\∀m,m < k->occ (itP mask m p).j
abbrev hSt(mask:Nat)(h:Int):SetTable.Probe:=stP mask (SetTable.bits h % (mask+1)) (SetTable.bits h)
section
variable {t:SetTable} {hA:Nat->Int} {h:Int}
structure Clean(t:SetTable)(n:Nat):Prop where
 hs:t.mask+1∈y0g
 dm:t.dummies=#[]
 rise:Rise t.place
 le:∀j∈t.place.toList,j<=t.mask
 sz:t.place.size=n
 room:n<=t.mask
end
end
section
set_option maxRecDepth 100000
def bI(b:Bool):Int:=if b then 1 else 0
def bH(bs:List Bool):Int:=Yxh (bs.map bI)
def TupB(h:Heap)(u:Addr)(bs:List Bool):Prop:=bs.length<=4/\∃o n,h.get? u=some o/\o.cls=.type "tuple"/\o.data=.seq (bs.map Value.bool).toArray n
structure SetB(w:World)(h:Heap)(S:Addr)(us:List (Addr × List Bool)):Prop where
 ex:∃o es ep t,h.get? S=some o/\o.ExactSet/\o.data=.set es ep t/\es.toList.Perm (us.map fun u=>(bH u.2,Value.ref u.1))/\t.fits es.size=true/\Clean t es.size/\Tab (byT w) t/\es.size * 5 < t.mask * 3/\∀q∈es.toList.zip t.place.toList,Way t.mask (·∈t.place.toList) (hSt t.mask q.1.1) q.2
 keys:(us.map (·.2)).Nodup
 tups:∀u∈us,TupB h u.1 u.2
 few:us.length<=24
end
section
set_option maxRecDepth 100000
section
variable {n:Nat} {key:Nat->Nat} {cmp:Nat->Nat->(Bool->Shared->Prop)->Shared->Prop} {s:Shared}
variable (hinj:∀i j,i < n->j < n->key i=key j->i=j) (hc:∀i j (C:Bool->Shared->Prop),i < n->j < n->C (decide (key i < key j)) s->cmp i j C s)
include hinj hc
omit hinj hc in
omit hinj hc in
omit hinj hc in
end
end
section
section
variable {X:Cx} {e:Expr} {f:Ro->Option D} {p p2 pos pos2:Pos}
def sExp(f:Ro->Option D):Ro->Option Out:=fun ρ=>(f ρ).map fun _=>.nx ρ
theorem Yvj(he:ME X e f)(hse:swapsWith e none pos.line X.env=pure false:=by rfl):MS X (.Expr e pos) (sExp f):=PS.imp (Yep he hse) fun F σ H hx_=>by
 obtain⟨ρ,out,H0,G0,G,e,s,h⟩:=hx_
 obtain⟨d,h1,rfl⟩:=qb e
 exact tOf.at h1 s fun v H1 G1 g1 r1 s1=>h σ H1 G1 s1
end
end
section
set_option maxRecDepth 100000
end
section
structure ZE(X:Cx)(e:Expr)(f:Ro->Option D):Prop where
 un:ME X e f
structure ZC(X:Cx)(e:Expr)(f:Ro->Option D):Prop where
 un:MC X e f
structure ZCA(X:Cx)(es:List Expr)(f:Ro->Option (List D)):Prop where
 un:MCA X es f
structure ZF(X:Cx)(e:Expr)(f:Ro->Option (List D)):Prop where
 un:MF X e f
structure ZT(X:Cx)(e:Expr)(f:Ro->Option Bool):Prop where
 un:MT X e f
structure ZW(X:Cx)(e:Expr)(f:Ro->Option Bool):Prop where
 un:MW X e f
structure ZA(X:Cx)(es:List Expr)(f:Ro->Option (List D)):Prop where
 un:MA X es f
structure ZI(X:Cx)(tg iter:Expr)(f:Ro->Option (List D)):Prop where
 un:MI X tg iter f
structure ZS(X:Cx)(st:Stmt)(f:Ro->Option Out):Prop where
 un:MS X st f
structure ZB(X:Cx)(sts:List Stmt)(f:Ro->Option Out):Prop where
 un:MB X sts f
structure ZG(X:Cx)(tg:Expr)(gt:D->Ro->Option Ro):Prop where
 un:MG X tg gt
structure ZIfs(X:Cx)(K:W.Frag)(ifs:List Expr)(f:Ro->Option Bool):Prop where
 un:PIfs X ifs (tTof K f)
structure ZO(X:Cx)(e:Option Expr)(f:Option (Ro->Option D)):Prop where
 un:PO X e (tO X.K f)
structure ZP(X:Cx)(pos:Pos)(keys:List (Option Expr))(values:List Expr)(ks:List Str)(fs:List (Ro->Option D)):Prop where
 un:MP X pos keys values ks fs
section
variable {K:W.Frag} {X:Cx} {H0 G0 H G:Hp} {σ:L2.St} {ρ:Ro} {a b c e:Expr} {es:List Expr} {fa fb fc f:Ro->Option D} {ga:Ro->Option (List D)} {pos:Pos}
theorem Yb{e:Expr}{f:Ro->Option D}(h:ZE X e f):ZC X e f:=⟨ME.mc h.un⟩
theorem Yg(i:Nat){x:Str}(hN:X.N[i]?=some x:=by rfl)(hv:Vis X.env.scope x:=by first | exact Or.inl rfl | exact Or.inr (Or.inl rfl) | exact Or.inr (Or.inr rfl))(hd:(x==("__debug__":Str))=false:=by decide)(hcd:(x==("__classdict__":Str))=false:=by decide):ZE X (.Name x pos) (getV i):=⟨Yxi i hN hv hd hcd⟩
theorem Yd(i:Nat){x:Str}(hN:X.N[i]?=some x:=by rfl)(hv:Vis X.env.scope x:=by first | exact Or.inl rfl | exact Or.inr (Or.inl rfl) | exact Or.inr (Or.inr rfl))(hd:(x==("__debug__":Str))=false:=by decide)(hcd:(x==("__classdict__":Str))=false:=by decide):ZC X (.Name x pos) (getC i):=⟨Yxj i hN hv hd hcd⟩
theorem Yh{i:Int}{j}:ZE X (.Constant (.int i) j pos) (kD (.int i)):=⟨Yxk ⟩
theorem Yip{k:Bool}{j}:ZE X (.Constant (.bool k) j pos) (kD (.bl k)):=⟨Yz0 ⟩
theorem Ydd{j}:ZE X (.Constant .none j pos) (kD .non):=⟨Yxl ⟩
theorem Yv{x:Str}{j}(hx:PyData.strOk x=true:=by decide +kernel):ZE X (.Constant (.str x) j pos) (kD (.str x)):=⟨Yxm hx⟩
theorem Yvk(ha:ZC X a fa)(hb:ZC X b fb):ZE X (.BinOp a .Mult b pos) (b2 fa fb mulI):=⟨Yxo ha.un hb.un⟩
theorem Yde(ha:ZC X a fa)(hb:ZC X b fb):ZE X (.BinOp a .FloorDiv b pos) (b2 fa fb divI):=⟨Yxp ha.un hb.un⟩
theorem Yap(ha:ZC X a fa)(hb:ZC X b fb):ZE X (.BinOp a .Mod b pos) (b2 fa fb modI):=⟨Yxq ha.un hb.un⟩
theorem Yyq(ha:ZC X a fa)(hb:ZC X b fb):ZE X (.Compare a [.GtE] [b] pos) (mB (b2 fa fb geI)):=⟨Yz1 ha.un hb.un⟩
theorem Yyr(ha:ZC X a fa)(hb:ZC X b fb):ZT X (.Compare a [.Lt] [b] pos) (b2 fa fb ltI):=⟨Yz2 ha.un hb.un⟩
theorem Ym8(ha:ZC X a fa)(hb:ZC X b fb):ZT X (.Compare a [.Gt] [b] pos) (b2 fa fb gtI):=⟨Yz3 ha.un hb.un⟩
theorem Yek(hu:X.A.units+64 < cLine)(ha:ZC X a fa)(hb:ZC X b fb):ZE X (.Compare a [.Eq] [b] pos) (mB (b2 fa fb (eqM false))):=⟨Yz4 hu ha.un hb.un⟩
theorem Yys(hu:X.A.units+64 < cLine)(ha:ZC X a fa)(hb:ZC X b fb):ZE X (.Compare a [.NotEq] [b] pos) (mB (b2 fa fb (eqM true))):=⟨Yz5 hu ha.un hb.un⟩
theorem Yca(hu:X.A.units+64 < cLine)(ha:ZC X a fa)(hb:ZC X b fb):ZT X (.Compare a [.Eq] [b] pos) (b2 fa fb (eqM false)):=⟨Yz6 hu ha.un hb.un⟩
theorem Ytr(hu:X.A.units+64 < cLine)(ha:ZC X a fa)(hb:ZC X b fb):ZT X (.Compare a [.NotEq] [b] pos) (b2 fa fb (eqM true)):=⟨Yz7 hu ha.un hb.un⟩
theorem Yvl(hu:X.A.units+64 < cLine)(ha:ZC X a fa)(hb:ZC X b fb)(hm:behindInMarks .NotIn b=false:=by with_unfolding_all rfl):ZT X (.Compare a [.NotIn] [b] pos) (b2 fa fb (inM true)):=⟨Yxr hu ha.un hb.un hm⟩
end
section
variable {K:W.Frag} {X:Cx} {a b c e tg elt iter ie ke:Expr} {es rest ifs elts:List Expr} {fa fb f fe fk:Ro->Option D} {fc fd:Ro->Option Bool} {ga gl:Ro->Option (List D)} {pos p pos' pt px:Pos} {x:Str} {id T:String} {r:List V->Hp->VK->Prop} {g:List D->Option D} {gf:List D->Option (List D)} {st:Stmt} {sts:List Stmt} {fs gs:Ro->Option Out} {scope:Scope} {N:List Str} {src:List (Option Nat)} {gt:D->Ro->Option Ro} {P:Program} {w:World} {mg:Str->Option Value} {base:Heap} {x1:Nat}
theorem Ybo(ha:ZC X a fa)(he:∀whole,isTrue a X.env whole=(do let v <-whole;standAt a.pos;holding [v] (truthy v)):=by intro _;rfl):ZT X a (b1 fa truD):=⟨Yxs ha.un he⟩
theorem Ygs(ha:ZT X a fc):ZW X (.BoolOp .And [a] pos) fc:=⟨Yus ha.un⟩
theorem Yvm(ha:ZT X a fc):ZW X (.BoolOp .Or [a] pos) fc:=⟨Yxt ha.un⟩
theorem Yjk(ha:ZT X a fc)(hb:ZW X (.BoolOp .And (b::rest) pos) fd):ZW X (.BoolOp .And (a::b::rest) pos) (andT fc fd):=⟨Yxv ha.un hb.un⟩
theorem Yyt(ha:ZT X a fc)(hb:ZW X (.BoolOp .Or (b::rest) pos) fd):ZW X (.BoolOp .Or (a::b::rest) pos) (orT fc fd):=⟨Yz8 ha.un hb.un⟩
theorem Yjl(ha:ZT X a fc):ZT X (.UnaryOp .Not a pos) (notT fc):=⟨Yxw ha.un⟩
theorem Yjm(ha:ZE X a fa):ZE X (.BoolOp .And [a] pos) fa:=⟨Yuu ha.un⟩
theorem Yl4(ha:ZE X a fa)(hb:ZE X (.BoolOp .And (b::rest) pos) fb):ZE X (.BoolOp .And (a::b::rest) pos) (andV fa fb):=⟨Yxx ha.un hb.un⟩
theorem Yvn(ha:ZE X a fa):ZE X (.UnaryOp .Not a pos) (notV fa):=⟨Yxy ha.un⟩
theorem Yiq(hc:ZT X c fc)(ha:ZE X a fa)(hb:ZE X b fb):ZE X (.IfExp c a b pos) (ifV fc fa fb):=⟨Yz9 hc.un ha.un hb.un⟩
theorem Yse(ha:ZC X a fa)(hb:ZC X b fb):ZE X (.Compare a [.IsNot] [b] pos) (mB (b2 fa fb (isN true))):=⟨Yuw ha.un hb.un⟩
theorem Yl5(ha:ZC X a fa)(hb:ZC X b fb):ZT X (.Compare a [.Is] [b] pos) (b2 fa fb (isN false)):=⟨Yxz ha.un hb.un⟩
theorem Ym9(ha:ZC X a fa)(hb:ZC X b fb):ZT X (.Compare a [.IsNot] [b] pos) (b2 fa fb (isN true)):=⟨Yux ha.un hb.un⟩
theorem Yq(ha:ZC X a fa)(hb:ZC X b fb)(hs:Yer b:=by intro _ _;rfl):ZE X (.Subscript a b pos) (b2 fa fb ixD):=⟨Yuy ha.un hb.un hs⟩
theorem Yfd{lo hi:Option Expr}{fl fh:Option (Ro->Option D)}{p2:Pos}(ha:ZC X a fa)(hl:ZO X lo fl)(hh:ZO X hi fh):ZF X (.Subscript a (.Slice lo hi none p2) pos) (slF fa fl fh):=⟨Yr0 ha.un hl.un hh.un⟩
theorem Yqk :ZO X none none:=⟨y0a ⟩
theorem Yk0(h:ZC X e f):ZO X (some e) (some f):=⟨y0b h.un⟩
theorem Yu{g:Ro->Option (List D)}(h:ZF X e g):ZE X e (lF g):=⟨MF.me h.un⟩
theorem Yk :ZA X [] aNil:=⟨Ytn ⟩
theorem Yc(ha:ZE X e f)(hr:ZA X es ga)(hs:starEach (e::es) X.env=(false,eval e X.env)::starEach es X.env:=by rfl):ZA X (e::es) (Ye f ga):=⟨Ypq ha.un hr.un hs⟩
theorem Ys :ZCA X [] aNil:=⟨Ypr ⟩
theorem Ym(ha:ZC X e f)(hr:ZCA X es ga)(hs:starEach (e::es) X.env=(false,eval e X.env)::starEach es X.env:=by rfl):ZCA X (e::es) (Ye f ga):=⟨Ym5 ha.un hr.un hs⟩
theorem Yhd{x1}(h:ZA X es ga):ZE X (.Tuple es x1 pos) (dTup ga):=⟨Yx2 h.un⟩
theorem Yy(h:ZA X es ga):ZF X (.List es pos) (dLst ga):=⟨Yx3 h.un⟩
theorem y8(hc:Yco X (.builtin id) r)(hr:SemC X.K r g)(hg:Gl X x)(hm:X.mg x=none)(hv:bootBuiltins x=some (.builtin id))(ha:ZCA X (e::es) ga)(hn:x≠"__name__":=by decide)(hdb:(x==("__debug__":Str))=false:=by decide)(he:starEach (e::es) X.env=(false,eval e X.env)::starEach es X.env:=by rfl)(hpl:(backTo pos (starEach es X.env)).any (·.1)=false:=by rfl):ZE X (.Call (.Name x p) (e::es) [] pos) (cC ga g):=⟨Yr1 hc hr hg hm hv ha.un hn hdb he hpl⟩
theorem Yhe(hc:Yco X (.builtin id) r)(hr:SemF X.K r gf)(hg:Gl X x)(hm:X.mg x=none)(hv:bootBuiltins x=some (.builtin id))(ha:ZCA X (e::es) ga)(hn:x≠"__name__":=by decide)(hdb:(x==("__debug__":Str))=false:=by decide)(he:starEach (e::es) X.env=(false,eval e X.env)::starEach es X.env:=by rfl)(hpl:(backTo pos (starEach es X.env)).any (·.1)=false:=by rfl):ZF X (.Call (.Name x p) (e::es) [] pos) (cF ga gf):=⟨Yr2 hc hr hg hm hv ha.un hn hdb he hpl⟩
theorem y7(hc:Yco X (.type T) r)(hr:SemC X.K r g)(hg:Gl X x)(hm:X.mg x=none)(hv:bootBuiltins x=some (.type T))(ha:ZCA X (e::es) ga)(hn:x≠"__name__":=by decide)(hdb:(x==("__debug__":Str))=false:=by decide)(he:starEach (e::es) X.env=(false,eval e X.env)::starEach es X.env:=by rfl)(hpl:(backTo pos (starEach es X.env)).any (·.1)=false:=by rfl):ZE X (.Call (.Name x p) (e::es) [] pos) (cC ga g):=⟨Ypt hc hr hg hm hv ha.un hn hdb he hpl⟩
theorem Yir(hc:Yco X (.type T) r)(hr:SemF X.K r gf)(hg:Gl X x)(hm:X.mg x=none)(hv:bootBuiltins x=some (.type T))(ha:ZCA X (e::es) ga)(hn:x≠"__name__":=by decide)(hdb:(x==("__debug__":Str))=false:=by decide)(he:starEach (e::es) X.env=(false,eval e X.env)::starEach es X.env:=by rfl)(hpl:(backTo pos (starEach es X.env)).any (·.1)=false:=by rfl):ZF X (.Call (.Name x p) (e::es) [] pos) (cF ga gf):=⟨Ypu hc hr hg hm hv ha.un hn hdb he hpl⟩
theorem y4 :ZB X [] sNil:=⟨Yx4 ⟩
theorem Yn(h1:ZS X st fs)(h2:ZB X sts gs):ZB X (st::sts) (sSeq fs gs):=⟨Yu0 h1.un h2.un⟩
theorem Yp(h1:ZS X st fs):ZB X [st] fs:=⟨Yx5 h1.un⟩
theorem Yjn(is:List Nat)(h:ZS X st fs):ZS X st (wF is fs):=⟨Yx6 is h.un⟩
theorem Ybk(i:Nat){x:Str}(hN:X.N.Nodup)(he:ZE X e f)(hi:X.N[i]?=some x:=by rfl)(hx:Loc X.env.scope x:=by first | exact Or.inl rfl | exact Or.inr rfl)(hs:swapsWith e (some (.Name x pos')) pos.line X.env=pure false:=by rfl)(hf:X.fn x=true\/X.env.scope.names.lookup x=some .local:=by first | exact .inl rfl | exact .inr rfl):ZS X (.Assign [.Name x pos'] e pos) (sSet i f):=⟨Yx9 i hN he.un hi hx hs hf⟩
theorem Yey(i:Nat){x:Str}(hN:X.N.Nodup)(he:ZF X e gl)(hi:X.N[i]?=some x:=by rfl)(hx:Loc X.env.scope x:=by first | exact Or.inl rfl | exact Or.inr rfl)(hs:swapsWith e (some (.Name x pos')) pos.line X.env=pure false:=by rfl)(hf:X.fn x=true\/X.env.scope.names.lookup x=some .local:=by first | exact .inl rfl | exact .inr rfl):ZS X (.Assign [.Name x pos'] e pos) (sOwn i gl):=⟨Yya i hN he.un hi hx hs hf⟩
theorem Yw(he:ZE X e f):ZS X (.Return (some e) pos) (sRet f):=⟨Yyb he.un⟩
theorem Yaj{c:Expr}{a b:List Stmt}{fc:Ro->Option Bool}(hc:ZT X c fc)(ha:ZB X a fs)(hb:ZB X b gs):ZS X (.If c a b pos) (sIf fc fs gs):=⟨y0c hc.un ha.un hb.un⟩
theorem Ybc(i:Nat){x:Str}{p2 apos cpos:Pos}(he:ZE X e f)(hN:X.N[i]?=some x:=by rfl)(hv:Vis X.env.scope x:=by first | exact Or.inl rfl | exact Or.inr (Or.inl rfl) | exact Or.inr (Or.inr rfl))(hd:(x==("__debug__":Str))=false:=by decide)(hcd:(x==("__classdict__":Str))=false:=by decide)(hse:swapsWith (.Call (.Attribute (.Name x p2) "append" apos) [e] [] cpos) none pos.line X.env=pure false:=by rfl)(hs:starEach [e] X.env=[(false,eval e X.env)]:=by rfl)(hfew:((backTo cpos (starEach [e] X.env)).all (fun x=>!x.1)&&(backToKw cpos (keywordEach [] X.env)).all (fun x=>x.1.isSome)&&decide ([e].length+([]:List Keyword).length+(if ([]:List Keyword).isEmpty then 0 else 1) < 30))=true:=by rfl)(hline:(apos.endLine==cpos.line)=true:=by rfl)(hbase:attributeBase (.Name x p2) "append" X.env (eval (.Name x p2) X.env)=eval (.Name x p2) X.env:=by rfl):ZS X (.Expr (.Call (.Attribute (.Name x p2) "append" apos) [e] [] cpos) pos) (sMut i f appD):=⟨Ypx i he.un hN hv hd hcd hse hs hfew hline hbase⟩
theorem Yae{l:Expr}(hl:ZE X l f):ZI X tg l (b1 f Yr):=⟨Yyd hl.un⟩
theorem Yis{a:Expr}{ga:Ro->Option (List D)}{p:Pos}(hg:Gl X "range")(hm:X.mg "range"=none)(ha:ZA X [a] ga)(hs:starEach [a] X.env=[(false,eval a X.env)]:=by rfl):ZI X tg (.Call (.Name "range" p) [a] [] pos) (cF ga rng1):=⟨Ypz hg hm ha.un hs⟩
theorem Yz(i:Nat){x:Str}(hN:X.N.Nodup)(hi:X.N[i]?=some x:=by rfl)(hx:Loc X.env.scope x:=by first | exact Or.inl rfl | exact Or.inr rfl)(hf:X.fn x=true\/X.env.scope.names.lookup x=some .local:=by first | exact .inl rfl | exact .inr rfl):ZG X (.Name x pos) (gSet i):=⟨Yu1 i hN hi hx hf⟩
theorem Ysf(i j:Nat){x y:Str}{px py:Pos}{k:Nat}(hc:X.calm=true)(hN:X.N.Nodup)(hi:X.N[i]?=some x:=by rfl)(hj:X.N[j]?=some y:=by rfl)(hx:Loc X.env.scope x:=by first | exact Or.inl rfl | exact Or.inr rfl)(hy:Loc X.env.scope y:=by first | exact Or.inl rfl | exact Or.inr rfl)(hf:X.fn x=true\/X.env.scope.names.lookup x=some .local:=by first | exact .inl rfl | exact .inr rfl)(hf2:X.fn y=true\/X.env.scope.names.lookup y=some .local:=by first | exact .inl rfl | exact .inr rfl):ZG X (.Tuple [.Name x px,.Name y py] k pos) (Ylz i j):=⟨Yu2 i j hc hN hi hj hx hy hf hf2⟩
theorem Yhf{iter:Expr}{body:List Stmt}{gt:D->Ro->Option Ro}(hp:PassesOwn (model X.prog X.w) X.A X.env X.xe)(hc:X.calm=true)(hi:ZI X tg iter gl)(hg:ZG X tg gt)(hb:ZB X body fs)(hs:∀x,foldedSetIterable iter X.env x=pure x:=by intro _;rfl):ZS X (.For tg iter body [] pos) (sFor gl gt fs):=⟨Yyf hp hc hi.un hg.un hb.un hs⟩
theorem Yaw :ZIfs X X.K [] tY:=⟨Yyg ⟩
theorem Yaq(S:CompSc X.N X.env.scope N src scope)(hc:X.calm=true)(hit:ZI X tg iter gl)(hg:∀cl C fp s H,ZG (Yad X scope N cl C fp s H) tg gt)(hi:∀cl C fp s H,ZIfs (Yad X scope N cl C fp s H) X.K ifs fc)(he:∀cl C fp s H,ZE (Yad X scope N cl C fp s H) elt fe)(hle:∀ρ d ρ1,gt d (capR src ρ)=some ρ1->Le (capR src ρ) ρ1)(hs:∀x,foldedSetIterable iter X.env x=pure x:=by intro _;rfl):ZF X (.ListComp elt [⟨tg,iter,ifs,0⟩] scope pos) (Yb3 gl src gt fc fe):=⟨Yu4 S hc hit.un (fun cl C fp s H=>(hg cl C fp s H).un) (fun cl C fp s H=>(hi cl C fp s H).un) (fun cl C fp s H=>(he cl C fp s H).un) hle hs⟩
theorem Ygt(i:Nat){y:Str}{py spos:Pos}(hN:X.N.Nodup)(S:CompSc X.N X.env.scope N src scope)(hc:X.calm=true)(hit:ZI X tg iter gl)(hg:∀cl C fp s H,ZG (Yad X scope N cl C fp s H) tg gt)(hi:∀cl C fp s H,ZIfs (Yad X scope N cl C fp s H) X.K ifs fc)(he:∀cl C fp s H,ZE (Yad X scope N cl C fp s H) elt fe)(hle:∀ρ d ρ1,gt d (capR src ρ)=some ρ1->Le (capR src ρ) ρ1)(hsw:swapsWith (.ListComp elt [⟨tg,iter,ifs,0⟩] scope pos) (some (.Name y py)) spos.line X.env=pure true:=by rfl)(hy:X.N[i]?=some y:=by rfl)(hx:Loc X.env.scope y:=by first | exact Or.inl rfl | exact Or.inr rfl)(hf:X.fn y=true\/X.env.scope.names.lookup y=some .local:=by first | exact .inl rfl | exact .inr rfl)(hs:∀x,foldedSetIterable iter X.env x=pure x:=by intro _;rfl):ZS X (.Assign [.Name y py] (.ListComp elt [⟨tg,iter,ifs,0⟩] scope pos) spos) (sOwn i (Yb3 gl src gt fc fe)):=⟨Yu5 i hN S hc hit.un (fun cl C fp s H=>(hg cl C fp s H).un) (fun cl C fp s H=>(hi cl C fp s H).un) (fun cl C fp s H=>(he cl C fp s H).un) hle hsw hy hx hf hs⟩
theorem Yf3{x qual:Str}{st:Stmt}{f:Addr}{fd:FuncData}{N ps:List Str}{k n m:Nat}{fb:Ro->Option Out}(F:Fun K x qual st f fd)(S:FnScope N ps (defScope st))(hn:N.length=n)(hm:ps.length=m)(hb:∀(cdv:Value) (A:Around) (outer:List Env) (s:Shared) (H:Hp) (E:XK),Room k (A.deeper (envOfC qual (defScope st) s.heap.objs.size f cdv))->ZB (cxOf CX0 P w K mg base N qual (defScope st) f cdv A outer s H E).nox (defBody st) fb):FnOk P w K mg base CX0 (k+1) f fd ps (spOf K m (runB m n fb)):=Yp1 F S hn hm (fun cdv A outer s H E hr=>(hb cdv A outer s H E hr).un)
theorem Yo{j k n:Nat}{x:Str}{p:Pos}{ps:List Str}{fn:List D->Option D}(c:Okf X.prog X.w X.K X.mg X.base j n x ps fn)(hr:Room k X.A)(hg:Gl X x)(ha:ZA X (e::es) ga)(hl:∀ρ l,ga ρ=some l->l.length=n)(hj:j<=k:=by first | exact qs _ | lia)(hdb:(x==("__debug__":Str))=false:=by decide)(he:starEach (e::es) X.env=(false,eval e X.env)::starEach es X.env:=by rfl)(hpl:(backTo pos (starEach es X.env)).any (·.1)=false:=by rfl):ZE X (.Call (.Name x p) (e::es) [] pos) (cC ga fn):=⟨Yr7 c hr hg ha.un hl hj hdb he hpl⟩
theorem Yjo(ha:ZC X a fa)(hb:ZC X b fb):ZE X (.BinOp a .Add b pos) (b2 fa fb addI):=⟨Yyi ha.un hb.un⟩
theorem Yvo(ha:ZC X a fa):ZE X (.UnaryOp .USub a pos) (b1 fa negI):=⟨Yyj ha.un⟩
theorem Ycz(ha:ZC X a fa)(hb:ZC X b fb):ZF X (.BinOp a .Add b pos) (b2 fa fb catD):=⟨Yyk ha.un hb.un⟩
theorem Yql{T:String}{tn:Str}{p p2:Pos}(ha:ZC X a fa)(hg:Gl X "isinstance")(hg2:Gl X tn)(hm:X.mg "isinstance"=none)(hm2:X.mg tn=none)(hv2:bootBuiltins tn=some (.type T))(hk:Kit T)(hv:bootBuiltins "isinstance"=some (.builtin "isinstance"):=by decide +kernel)(hn2:tn≠"__name__":=by decide)(hd2:(tn==("__debug__":Str))=false:=by decide)(hs:starEach [a,.Name tn p2] X.env=(false,eval a X.env)::starEach [.Name tn p2] X.env:=by rfl)(hs2:starEach [.Name tn p2] X.env=(false,eval (.Name tn p2) X.env)::starEach [] X.env:=by rfl)(hpl:(backTo pos (starEach [.Name tn p2] X.env)).any (·.1)=false:=by rfl):ZE X (.Call (.Name "isinstance" p) [a,.Name tn p2] [] pos) (mB (b1 fa (isiD T))):=⟨Yyl ha.un hg hg2 hm hm2 hv2 hk hv hn2 hd2 hs hs2 hpl⟩
theorem Yl6(i:Nat){x:Str}{ie:Expr}{p2 p3:Pos}(hb:ZC X ie fb)(he:ZE X e f)(hN:X.N[i]?=some x:=by rfl)(hv:Vis X.env.scope x:=by first | exact Or.inl rfl | exact Or.inr (Or.inl rfl) | exact Or.inr (Or.inr rfl))(hd:(x==("__debug__":Str))=false:=by decide)(hcd:(x==("__classdict__":Str))=false:=by decide)(ha:∀v,assign (.Subscript (.Name x p2) ie p3) X.env v=(do
 let ov <-holding [v] (eval (.Name x p2) X.env)
 let iv <-holding [v,ov] (eval ie X.env)
 standAt p3
 holding [v,ov,iv] (setItem ov iv v)
 release [v,ov,iv] []):=by intro _;rfl) (hs:swapsWithSole [.Subscript (.Name x p2) ie p3] e pos.line X.env=pure false:=by rfl) (hw:swappedStores [.Subscript (.Name x p2) ie p3] e X.env=pure none:=by rfl) (h1:(assignEach [.Subscript (.Name x p2) ie p3] X.env).map (·.2)=[assign (.Subscript (.Name x p2) ie p3) X.env]:=by rfl):ZS X (.Assign [.Subscript (.Name x p2) ie p3] e pos) (Yp9 i fb f setD):=⟨Yoa i hb.un he.un hN hv hd hcd ha hs hw h1⟩
theorem Yjp{l:Expr}{f:Ro->Option D}{p:Pos}(hg:Gl X "enumerate")(hm:X.mg "enumerate"=none)(hl:ZE X l f)(hs:starEach [l] X.env=[(false,eval l X.env)]:=by rfl):ZI X (.Tuple elts x1 pt) (.Call (.Name "enumerate" p) [l] [] pos) (b1 f Ysa):=⟨Yky hg hm hl.un hs⟩
theorem Yit(i:Nat){x:Str}{p2 apos cpos:Pos}(he:ZE X e f)(hN:X.N[i]?=some x:=by rfl)(hv:Vis X.env.scope x:=by first | exact Or.inl rfl | exact Or.inr (Or.inl rfl) | exact Or.inr (Or.inr rfl))(hd:(x==("__debug__":Str))=false:=by decide)(hcd:(x==("__classdict__":Str))=false:=by decide)(hse:swapsWith (.Call (.Attribute (.Name x p2) "extend" apos) [e] [] cpos) none pos.line X.env=pure false:=by rfl)(hs:starEach [e] X.env=[(false,eval e X.env)]:=by rfl)(hfew:((backTo cpos (starEach [e] X.env)).all (fun x=>!x.1)&&(backToKw cpos (keywordEach [] X.env)).all (fun x=>x.1.isSome)&&decide ([e].length+([]:List Keyword).length+(if ([]:List Keyword).isEmpty then 0 else 1) < 30))=true:=by rfl)(hline:(apos.endLine==cpos.line)=true:=by rfl)(hbase:attributeBase (.Name x p2) "extend" X.env (eval (.Name x p2) X.env)=eval (.Name x p2) X.env:=by rfl):ZS X (.Expr (.Call (.Attribute (.Name x p2) "extend" apos) [e] [] cpos) pos) (sMut i f extD):=⟨Yqa i he.un hN hv hd hcd hse hs hfew hline hbase⟩
theorem Yqm{kvs:List (Str × Str)}(g:GD X.K X.w X.mg x kvs)(hg:Gl X x)(hk:ZC X ke fk)(hs:NoSl ke:=by intro _ _;rfl)(hd:(x==("__debug__":Str))=false:=by decide):ZE X (.Subscript (.Name x px) ke pos) (b1 fk (Yqd kvs)):=⟨Ysb g hg hk.un hs hd⟩
theorem Ysg{i:Int}(g:GI X.mg x i)(hg:Gl X x)(hd:(x==("__debug__":Str))=false:=by decide):ZE X (.Name x px) (kD (.int i)):=⟨Yvc g hg hd⟩
end
section
variable {X:Cx} {a b c e:Expr} {fa fb fc f:Ro->Option D} {pos:Pos} {st:Stmt} {K:W.Frag}
theorem Yc7 :ZS X st nS:=⟨Ysc ⟩
theorem Yna(ha:ZC X a fa)(hb:ZC X b fb):ZT X (.Compare a [.IsNot] [b] pos) (b2 fa fb (isB true)):=⟨Yvg ha.un hb.un⟩
end
theorem Ynb{X:Cx}{c:Expr}{f:Ro->Option Bool}(h:ZT X c f):ZIfs X X.K [c] f:=⟨Yuh h.un⟩
theorem Yk1{X:Cx}{e:Expr}{f:Ro->Option Bool}(h:ZW X e f):ZT X e f:=⟨PW.pt h.un⟩
end
section
section
variable {X:Cx} {e:Expr} {f:Ro->Option D} {p p2 pos pos2:Pos}
theorem Yl7(hc:X.calm=true)(hg:Gl X "sorted")(hm:X.mg "sorted"=none)(hg2:Gl X "set")(hm2:X.mg "set"=none)(ha:ZC X e f)(hs:starEach [e] X.env=[(false,eval e X.env)]:=by rfl)(he:starEach [.Call (.Name "set" p2) [e] [] pos2] X.env=[(false,eval (.Call (.Name "set" p2) [e] [] pos2) X.env)]:=by rfl)(hpl:(backTo pos2 (starEach [] X.env)).any (·.1)=false:=by rfl)(hpl2:(backTo pos (starEach [] X.env)).any (·.1)=false:=by rfl):ZF X (.Call (.Name "sorted" p) [.Call (.Name "set" p2) [e] [] pos2] [] pos) (Yfc f):=⟨Yof hc hg hm hg2 hm2 ha.un hs he hpl hpl2⟩
theorem Ysh(he:ZE X e f)(hse:swapsWith e none pos.line X.env=pure false:=by rfl):ZS X (.Expr e pos) (sExp f):=⟨Yvj he.un hse⟩
end
end
section
variable {K:W.Frag}
def y0h(K:W.Frag)(j:Nat)(x:Option (Option V))(H0 G0:Hp)(F:Ends):Out->Prop
 | .nx ρ'=>∀σ' H' G',SR K H0 G0 σ' H' G' ρ'->σ'[j]?=x->F.nx σ' H'
 | .rt _=>False
 | .bk ρ'=>∀σ' H' G',SR K H0 G0 σ' H' G' ρ'->σ'[j]?=x->F.bk σ' H'
 | .ct ρ'=>∀σ' H' G',SR K H0 G0 σ' H' G' ρ'->σ'[j]?=x->F.ct σ' H'
def sOfK(K:W.Frag)(j:Nat)(f:Ro->Option Out):TS:=fun F σ H=>∃ρ out H0 G0 G,f ρ=some out/\SR K H0 G0 σ H G ρ/\y0h K j σ[j]? H0 G0 F out
structure KS(j:Nat)(X:Cx)(st:Stmt)(f:Ro->Option Out):Prop where
 un:PS X st (sOfK X.K j f)
structure KB(j:Nat)(X:Cx)(sts:List Stmt)(f:Ro->Option Out):Prop where
 un:PSs X sts (sOfK X.K j f)
def sOfR(K:W.Frag)(j r:Nat)(fb:Ro->Option Out):TS:=fun F σ H=>∃ρ ρ' l d H0 G0 G,fb ρ=some (.nx ρ')/\getO j ρ'=some l/\getV r (frz [r] ρ')=some d/\SR K H0 G0 σ H G ρ/\
 ∀v σ' H' G',SR K H0 G0 σ' H' G' (frz [r] ρ')->σ'[j]?=σ[j]?->Rp K G' d v->F.rt v H'
structure KR(j r:Nat)(X:Cx)(sts:List Stmt)(f:Ro->Option Out):Prop where
 un:PSs X sts (sOfR X.K j r f)
def sOfL(K:W.Frag)(gl:Ro->Option (List D))(fb:Ro->Option Out):TS:=fun F σ H=>∃ρ ρ' l H0 G0 G,fb ρ=some (.nx ρ')/\gl ρ'=some l/\SR K H0 G0 σ H G ρ/\
 ∀p xs H' G',Gr H0 G0 H' G'->H0 p=none->G' p=none->H' p=some (.lst xs)->RpL K G' l xs->F.rt (.ref p) H'
structure KL(gl:Ro->Option (List D))(X:Cx)(sts:List Stmt)(f:Ro->Option Out):Prop where
 un:PSs X sts (sOfL X.K gl f)
theorem len1{us:List Value}(h:us.length=1):∃a0,us=[a0]:=List.length_eq_one_iff.mp h
theorem len2{us:List Value}(h:us.length=2):∃a0 a1,us=[a0,a1]:=by
 cases us with
 | nil=>cases h
 | cons a us=>
   obtain⟨b0,rfl⟩:=len1 (Nat.succ.inj h)
   exact⟨a,b0,rfl⟩
theorem len3{us:List Value}(h:us.length=3):∃a0 a1 a2,us=[a0,a1,a2]:=by
 cases us with
 | nil=>cases h
 | cons a us=>
   obtain⟨b0,b1,rfl⟩:=len2 (Nat.succ.inj h)
   exact⟨a,b0,b1,rfl⟩
theorem len4{us:List Value}(h:us.length=4):∃a0 a1 a2 a3,us=[a0,a1,a2,a3]:=by
 cases us with
 | nil=>cases h
 | cons a us=>
   obtain⟨b0,b1,b2,rfl⟩:=len3 (Nat.succ.inj h)
   exact⟨a,b0,b1,b2,rfl⟩
theorem len5{us:List Value}(h:us.length=5):∃a0 a1 a2 a3 a4,us=[a0,a1,a2,a3,a4]:=by
 cases us with
 | nil=>cases h
 | cons a us=>
   obtain⟨b0,b1,b2,b3,rfl⟩:=len4 (Nat.succ.inj h)
   exact⟨a,b0,b1,b2,b3,rfl⟩
theorem len6{us:List Value}(h:us.length=6):∃a0 a1 a2 a3 a4 a5,us=[a0,a1,a2,a3,a4,a5]:=by
 cases us with
 | nil=>cases h
 | cons a us=>
   obtain⟨b0,b1,b2,b3,b4,rfl⟩:=len5 (Nat.succ.inj h)
   exact⟨a,b0,b1,b2,b3,b4,rfl⟩
theorem len7{us:List Value}(h:us.length=7):∃a0 a1 a2 a3 a4 a5 a6,us=[a0,a1,a2,a3,a4,a5,a6]:=by
 cases us with
 | nil=>cases h
 | cons a us=>
   obtain⟨b0,b1,b2,b3,b4,b5,rfl⟩:=len6 (Nat.succ.inj h)
   exact⟨a,b0,b1,b2,b3,b4,b5,rfl⟩
end
end M
namespace M
open PySem L2
theorem nr{α:Sort _}{a b:α}(h:a=b):a=b:=h
section
variable {ρ:Ro}
@[simp] theorem ap_b2{α:Type}(fa fb:Ro->Option D)(g:D->D->Option α):b2 fa fb g ρ=(fa ρ).bind fun x=>(fb ρ).bind fun y=>g x y:=nr rfl
@[simp] theorem Yyu{α:Type}(fa:Ro->Option D)(g:D->Option α):b1 fa g ρ=(fa ρ).bind g:=nr rfl
@[simp] theorem ap_kD(d:D):kD d ρ=some d:=nr rfl
@[simp] theorem ap_mB(f:Ro->Option Bool):mB f ρ=(f ρ).map D.bl:=nr rfl
@[simp] theorem ap_andT(f g:Ro->Option Bool):andT f g ρ=(f ρ).bind fun k=>if k=true then g ρ else some false:=nr rfl
@[simp] theorem ap_orT(f g:Ro->Option Bool):orT f g ρ=(f ρ).bind fun k=>if k=true then some true else g ρ:=nr rfl
@[simp] theorem ap_notT(f:Ro->Option Bool):notT f ρ=(f ρ).map (!·):=nr rfl
@[simp] theorem ap_andV(f g:Ro->Option D):andV f g ρ=((f ρ).bind blD).bind fun k=>if k=true then g ρ else some (.bl false):=nr rfl
@[simp] theorem ap_notV(f:Ro->Option D):notV f ρ=((f ρ).bind blD).map fun k=>.bl (!k):=nr rfl
@[simp] theorem ap_ifV(c:Ro->Option Bool)(f g:Ro->Option D):ifV c f g ρ=(c ρ).bind fun k=>if k=true then f ρ else g ρ:=nr rfl
@[simp] theorem ap_lF(f:Ro->Option (List D)):lF f ρ=(f ρ).map D.lst:=nr rfl
@[simp] theorem ap_aNil:aNil ρ=some []:=nr rfl
@[simp] theorem ap_aCons(f:Ro->Option D)(g:Ro->Option (List D)):Ye f g ρ=(f ρ).bind fun d=>(g ρ).map (d::·):=nr rfl
@[simp] theorem ap_dTup(f:Ro->Option (List D)):dTup f ρ=(f ρ).bind fun l=>if l.length<=cap6 then some (.tup l)else none:=nr rfl
@[simp] theorem ap_dLst(f:Ro->Option (List D)):dLst f ρ=(f ρ).bind fun l=>if l.length<=cap6 then some l else none:=nr rfl
@[simp] theorem ap_cC(f:Ro->Option (List D))(g:List D->Option D):cC f g ρ=(f ρ).bind g:=nr rfl
@[simp] theorem ap_cF(f:Ro->Option (List D))(g:List D->Option (List D)):cF f g ρ=(f ρ).bind g:=nr rfl
@[simp] theorem ap_slF(f:Ro->Option D)(lo hi:Option (Ro->Option D)):slF f lo hi ρ=((f ρ).bind lstD).bind fun l=>(optI lo ρ).bind fun i=>(optI hi ρ).bind fun j=>some (cutD l i j):=nr rfl
@[simp] theorem ap_optN:optI none ρ=some none:=nr rfl
@[simp] theorem ap_optS(f:Ro->Option D):optI (some f) ρ=((f ρ).bind intD).map some:=nr rfl
@[simp] theorem ap_sNil:sNil ρ=some (.nx ρ):=nr rfl
@[simp] theorem ap_sSet(i:Nat)(f:Ro->Option D):sSet i f ρ=(f ρ).map fun d=>.nx (ρ.set i (some (.sh d))):=nr rfl
@[simp] theorem ap_sOwn(i:Nat)(f:Ro->Option (List D)):sOwn i f ρ=(f ρ).map fun l=>.nx (ρ.set i (some (.ow l))):=nr rfl
@[simp] theorem ap_sRet(f:Ro->Option D):sRet f ρ=(f ρ).map .rt:=nr rfl
@[simp] theorem ap_sIf(c:Ro->Option Bool)(f g:Ro->Option Out):sIf c f g ρ=(c ρ).bind fun k=>if k=true then f ρ else g ρ:=nr rfl
@[simp] theorem ap_sMut(i:Nat)(f:Ro->Option D)(g:List D->D->Option (List D)):sMut i f g ρ=(getO i ρ).bind fun l=>(f ρ).bind fun d=>(g l d).map fun l'=>.nx (ρ.set i (some (.ow l'))):=nr rfl
@[simp] theorem ap_sFor(gl:Ro->Option (List D))(gt:D->Ro->Option Ro)(fb:Ro->Option Out):sFor gl gt fb ρ=(gl ρ).bind fun ds=>forM gt fb ds ρ:=nr rfl
@[simp] theorem ap_fComp(gl:Ro->Option (List D))(src:List (Option Nat))(gt:D->Ro->Option Ro)(fc:Ro->Option Bool)(fe:Ro->Option D):Yb3 gl src gt fc fe ρ=(gl ρ).bind fun ds=>Yew gt fc fe (capR src ρ) ds:=nr rfl
@[simp] theorem ap_wF(is:List Nat)(f:Ro->Option Out):wF is f ρ=f (frz is ρ):=nr rfl
@[simp] theorem ap_tY:tY ρ=some true:=nr rfl
@[simp] theorem ap_gSet(i:Nat)(d:D):gSet i d ρ=some (ρ.set i (some (.sh d))):=nr rfl
def Yvp(g:Ro->Option Out):Out->Option Out
 | .nx ρ'=>g ρ'
 | o=>some o
@[simp] theorem thenS_nx(g:Ro->Option Out)(ρ':Ro):Yvp g (.nx ρ')=g ρ':=nr rfl
@[simp] theorem thenS_rt(g:Ro->Option Out)(d:D):Yvp g (.rt d)=some (.rt d):=nr rfl
@[simp] theorem Yb7(f g:Ro->Option Out):sSeq f g ρ=(f ρ).bind (Yvp g):=nr rfl
def endB:Out->Option D
 | .rt d=>some d
 | .nx _=>some .non
 | _=>none
@[simp] theorem endB_rt(d:D):endB (.rt d)=some d:=nr rfl
@[simp] theorem endB_nx(ρ:Ro):endB (.nx ρ)=some .non:=nr rfl
theorem Yak{k n:Nat}{fb:Ro->Option Out}{ds:List D}(h:ds.length=k):runB k n fb ds=(fb (Yx n ds)).bind endB:=by
 unfold runB
 rw[if_pos h]
 rfl
end
@[simp] theorem add_int'(i j:Int):addI (.int i) (.int j)=some (.int (i+j)):=nr rfl
theorem Ysi{i j:Int}(h:-(2 ^ 64) < i/\i < 2 ^ 64):mulI (.int i) (.int j)=some (.int (i * j)):=by
 simp only[mulI,i2]
 rw[if_pos]
 simp only[Bool.or_eq_true,Bool.and_eq_true,decide_eq_true_eq]
 exact .inl h
@[simp] theorem Ysj{i j:Int}(h:0 < j)(h':j < 1073741824):divI (.int i) (.int j)=some (.int (i / j)):=by
 simp only[divI,i2]
 rw[if_pos]
 simp only[Bool.and_eq_true,decide_eq_true_eq]
 exact⟨h,h'⟩
@[simp] theorem Yhg{i j:Int}(h:0 < j):modI (.int i) (.int j)=some (.int (i % j)):=by
 simp only[modI,i2]
 rw[if_pos]
 simp only[decide_eq_true_eq]
 exact h
@[simp] theorem lt_int'(i j:Int):ltI (.int i) (.int j)=some (decide (i < j)):=nr rfl
@[simp] theorem gt_int'(i j:Int):gtI (.int i) (.int j)=some (decide (j < i)):=nr rfl
@[simp] theorem ge_int'(i j:Int):geI (.int i) (.int j)=some (decide (j<=i)):=nr rfl
@[simp] theorem blD_bl(b:Bool):blD (.bl b)=some b:=nr rfl
@[simp] theorem truD_bl(b:Bool):truD (.bl b)=some b:=nr rfl
@[simp] theorem truD_lst(l:List D):truD (.lst l)=some (!l.isEmpty):=nr rfl
@[simp] theorem truD_tup(l:List D):truD (.tup l)=some (!l.isEmpty):=nr rfl
@[simp] theorem itemsOf_tup(l:List D):Yr (.tup l)=some l:=nr rfl
@[simp] theorem itemsOf_lst(l:List D):Yr (.lst l)=some l:=nr rfl
@[simp] theorem itemsOf_scr(ns:List Int):Yr (.scr ns)=some (ns.map D.int):=nr rfl
@[simp] theorem lenC_one(c:D):lenC [c]=(Yr c).map fun l=>.int l.length:=nr rfl
@[simp] theorem tupC_one(c:D):tupC [c]=(Yr c).map D.tup:=nr rfl
@[simp] theorem listF_one(c:D):Yr4 [c]=Yr c:=nr rfl
@[simp] theorem intC_int(i:Int):intC [.int i]=some (.int i):=nr rfl
@[simp] theorem intC_bl(b:Bool):intC [.bl b]=some (.int (if b then 1 else 0)):=nr rfl
@[simp] theorem ixD_int(c:D)(i:Int):ixD c (.int i)=(Yr c).bind fun l=>atI l i:=nr rfl
@[simp] theorem lstD_lst(l:List D):lstD (.lst l)=some l:=nr rfl
@[simp] theorem lstD_scr(ns:List Int):lstD (.scr ns)=some (ns.map D.int):=nr rfl
@[simp] theorem intD_int(i:Int):intD (.int i)=some i:=nr rfl
@[simp] theorem negI_int(i:Int):negI (.int i)=some (.int (-i)):=nr rfl
@[simp] theorem Yqn(i j:Int):eqD (.int i) (.int j)=(i==j):=by simp[eqD,toPy,PyData.eqv]
@[simp] theorem Yyv(i j:Bool):eqD (.bl i) (.bl j)=(i==j):=by simp[eqD,toPy,PyData.eqv]
@[simp] theorem Yvq(i j:Str):eqD (.str i) (.str j)=(i==j):=by simp[eqD,toPy,PyData.eqv]
@[simp] theorem eqD_lst(l m:List D):eqD (.lst l) (.lst m)=eqL l m:=by simp[eqD,eqL,toPy,PyData.eqv]
@[simp] theorem eqL_nil:eqL [] []=true:=by simp[eqL,Ycp,PyData.eqvAll]
@[simp] theorem eqL_cn(b:D)(m:List D):eqL (b::m) []=false:=by simp[eqL,Ycp,PyData.eqvAll]
@[simp] theorem dep_int(i:Int):dep (.int i)=0:=by simp[dep]
@[simp] theorem dep_bl(i:Bool):dep (.bl i)=0:=by simp[dep]
@[simp] theorem dep_str(i:Str):dep (.str i)=0:=by simp[dep]
@[simp] theorem depL_nil:depL []=0:=by simp[depL]
@[simp] theorem Yqo(d:D)(l:List D):depL (d::l)=max (dep d) (depL l):=by simp[depL]
theorem Yk2{neg:Bool}{d e:D}(h:dep d<=60)(h':dep e<=60):eqM neg d e=some (if neg then !eqD d e else eqD d e):=by
 unfold eqM
 rw[if_pos ⟨h,h'⟩]
theorem Yyw{neg:Bool}{d c:D}{l:List D}(hc:Yr c=some l)(h:dep d<=60)(h':depL l<=60):inM neg d c=some (if neg then !inD d l else inD d l):=by
 unfold inM
 rw[hc,qc,if_pos ⟨h',h⟩]
@[simp] theorem compM_nil(gt:D->Ro->Option Ro)(fc:Ro->Option Bool)(fe:Ro->Option D)(ρ:Ro):Yew gt fc fe ρ []=some []:=nr rfl
theorem Yfe{gt:D->Ro->Option Ro}{fc:Ro->Option Bool}{fe:Ro->Option D}{ρ:Ro}{α:Type}(enc:α->D)(p:α->Bool)(f:α->D):∀(l:List α),(∀a∈l,∃ρ1,gt (enc a) ρ=some ρ1/\fc ρ1=some (p a)/\(p a=true->fe ρ1=some (f a)))->
 Yew gt fc fe ρ (l.map enc)=some ((l.filter p).map f)
 | [],_=>rfl
 | a::l,h=>by
   obtain⟨ρ1,h1,h2,h3⟩:=h a qg
   have ih:=Yfe enc p f l fun b hb=>h b (qf _ hb)
   rw[qy,Yew,h1,qc,h2,qc]
   cases hp:p a with
   | true=>
     rw[if_pos rfl,h3 hp,qc,ih,List.filter_cons_of_pos hp]
     rfl
   | false=>rw[if_neg qh,ih,List.filter_cons_of_neg (by rw[hp];exact qh)]
@[simp] theorem atI_zero{α:Type}(a:α)(l:List α):atI (a::l) 0=some a:=by
 have:=Ylt (xs:=a::l) (j:=0) (v:=a) rfl
 simpa using this
@[simp] theorem atI_one{α:Type}(a b:α)(l:List α):atI (a::b::l) 1=some b:=by
 have:=Ylt (xs:=a::b::l) (j:=1) (v:=b) rfl
 simpa using this
theorem Yff{gt:D->Ro->Option Ro}{fb:Ro->Option Out}{α:Type}(enc:α->D)(I:List α->Ro->Prop):∀(l pre:List α) (ρ:Ro),I pre ρ->
 (∀q a r ρ,pre++l=q++a::r->I q ρ->∃ρ1 ρ2,gt (enc a) ρ=some ρ1/\fb ρ1=some (.nx ρ2)/\I (q++[a]) ρ2)->∃ρ',M.forM gt fb (l.map enc) ρ=some (.nx ρ')/\I (pre++l) ρ'
 | [],pre,ρ,h0,_=>⟨ρ,rfl,by rw[List.append_nil];exact h0⟩
 | a::l,pre,ρ,h0,hs=>by
   obtain⟨ρ1,ρ2,e1,e2,h2⟩:=hs pre a l ρ rfl h0
   obtain⟨ρ',e3,h3⟩:=Yff enc I l (pre++[a]) ρ2 h2 fun q b r ρ e hI=>hs q b r ρ (by rw[<-e,List.append_assoc];rfl) hI
   refine⟨ρ',?_,by rw[List.append_assoc]at h3;exact h3⟩
   rw[qy,M.forM,e1,qc,e2,qc]
   exact e3
theorem Yqp(a n:Int):rngD a n=(List.range (n - a).toNat).map fun i=>D.int (a+(i:Nat)):=rfl
theorem Yqq{n:Int}(h:-1000000<=n)(h':n<=1000000):rng1 [.int n]=some (rngD 0 n):=by
 have hcap:(cap6:Int)=1000000:=by decide
 simp only[rng1]
 rw[if_pos]
 simp only[Bool.and_eq_true,decide_eq_true_eq]
 lia
theorem Yjq{α:Type}{l:List α}{i:Nat}(h:i < l.length):atI l (i:Int)=some l[i]:=Ylt (qp h)
theorem Yl8{α β:Type}(f:α->β)(l:List α)(i:Int):atI (l.map f) i=(atI l i).map f:=by
 unfold atI
 rw[qe]
 cases ixN l.length i with
 | none=>rfl
 | some j=>
   show(l.map f)[j]?=(l[j]?).map f
   rw[Qc]
end M
namespace M
open PySem L2
@[simp] theorem nat_eq_iff(x b:Nat):((x:Int)=(b:Int))↔x=b:=by lia
@[simp] theorem eqM_int(neg:Bool)(i j:Int):eqM neg (.int i) (.int j)=some (if neg then !decide (i=j)else decide (i=j)):=by
 rw[Yk2 (by simp) (by simp),Yqn];rfl
@[simp] theorem eqM_bl(neg:Bool)(i j:Bool):eqM neg (.bl i) (.bl j)=some (if neg then !(i==j)else i==j):=by
 rw[Yk2 (by simp) (by simp),Yyv]
@[simp] theorem isN_non(neg:Bool):isN neg .non .non=some (if neg then false else true):=by cases neg<;>rfl
@[simp] theorem isN_int(neg:Bool)(i:Int):isN neg (.int i) .non=some (if neg then true else false):=by cases neg<;>rfl
@[simp] theorem isN_bl(neg:Bool)(l:Bool):isN neg (.bl l) .non=some (if neg then true else false):=by cases neg<;>rfl
@[simp] theorem Yjr{α:Type}(f:α->Bool):∀l:List α,blsD (l.map fun a=>.bl (f a))=some (l.map f)
 | []=>rfl
 | a::l=>by rw[qy,blsD,Yjr f l];rfl
@[simp] theorem Yk3{α:Type}(f:α->Int):∀l:List α,Yd0 (l.map fun a=>.int (f a))=some (l.map f)
 | []=>rfl
 | a::l=>by rw[qy,Yd0,Yk3 f l];rfl
@[simp] theorem Yk4(l:List Int):Yd0 (l.map D.int)=some l:=by simpa using Yk3 id l
@[simp] theorem anyC_lst(l:List D):anyC [.lst l]=(blsD l).map fun bs=>.bl (bs.any id):=nr rfl
@[simp] theorem allC_lst(l:List D):allC [.lst l]=(blsD l).map fun bs=>.bl (bs.all id):=nr rfl
@[simp] theorem ap_sMut2{ρ:Ro}(i:Nat)(fi f:Ro->Option D)(g:List D->D->D->Option (List D)):Yp9 i fi f g ρ=(f ρ).bind fun d=>(getO i ρ).bind fun l=>(fi ρ).bind fun k=>(g l k d).map fun l'=>.nx (ρ.set i (some (.ow l'))):=nr rfl
@[simp] theorem enumD_of(c:D):Ysa c=(Yr c).map Yji:=nr rfl
@[simp] theorem cap6_eq:cap6=1000000:=nr rfl
@[simp] theorem gV0(d:D)(r:Ro):getV 0 (some (.sh d)::r)=some d:=nr rfl
@[simp] theorem gC0(d:D)(r:Ro):getC 0 (some (.sh d)::r)=some d:=nr rfl
@[simp] theorem gC0o(l:List D)(r:Ro):getC 0 (some (.ow l)::r)=some (.lst l):=nr rfl
@[simp] theorem gO0(l:List D)(r:Ro):getO 0 (some (.ow l)::r)=some l:=nr rfl
@[simp] theorem gVs(n:Nat)(b:Option B)(r:Ro):getV (n+1) (b::r)=getV n r:=by simp[getV]
@[simp] theorem gCs(n:Nat)(b:Option B)(r:Ro):getC (n+1) (b::r)=getC n r:=by simp[getC]
@[simp] theorem gOs(n:Nat)(b:Option B)(r:Ro):getO (n+1) (b::r)=getO n r:=by simp[getO]
theorem Ydu{fe:Ro->Option D}{r:Ro}{α:Type}{enc:α->D}(f:α->D){l:List α}(h:∀a∈l,fe (some (.sh (enc a))::r)=some (f a)):Yew (gSet 0) tY fe (none::r) (l.map enc)=some (l.map f):=by
 have:=Yfe (gt:=gSet 0) (fc:=tY) (fe:=fe) (ρ:=none::r) enc (fun _=>true) f l fun a ha=>⟨_,rfl,rfl,fun _=>h a ha⟩
 rw[List.filter_eq_self.mpr (fun _ _=>rfl)]at this
 exact this
theorem Yyx{fc:Ro->Option Bool}{fe:Ro->Option D}{r:Ro}{α:Type}{enc:α->D}(p:α->Bool)(f:α->D){l:List α}(h1:∀a∈l,fc (some (.sh (enc a))::r)=some (p a))(h2:∀a∈l,p a=true->fe (some (.sh (enc a))::r)=some (f a)) :
 Yew (gSet 0) fc fe (none::r) (l.map enc)=some ((l.filter p).map f):=
 Yfe (gt:=gSet 0) enc p f l fun a ha=>⟨_,rfl,h1 a ha,h2 a ha⟩
theorem Yyy{fc:Ro->Option Bool}{fe:Ro->Option D}{r:Ro}{α:Type}{e1 e2:α->D}(p:α->Bool)(f:α->D){l:List α}(h1:∀a∈l,fc (some (.sh (e1 a))::some (.sh (e2 a))::r)=some (p a))(h2:∀a∈l,p a=true->fe (some (.sh (e1 a))::some (.sh (e2 a))::r)=some (f a)) :
 Yew (Ylz 0 1) fc fe (none::none::r) (l.map fun a=>.tup [e1 a,e2 a])=some ((l.filter p).map f):=
 Yfe (gt:=Ylz 0 1) (fun a=>.tup [e1 a,e2 a]) p f l fun a ha=>⟨_,rfl,h1 a ha,h2 a ha⟩
theorem Yqr{α:Type}(enc:α->D)(d:α)(l:List α):Yji (l.map enc)=(List.range l.length).map fun i=>.tup [.int i,enc (l.getD i d)]:=by
 unfold Yji
 rw[qe]
 refine List.map_congr_left fun i hi=>?_
 have h:=List.mem_range.mp hi
 simp[h]
end M
namespace Bk
open PySem L2 M
abbrev Say:=Nat × Bool
inductive Kd where
 | e | s | i | n
 deriving DecidableEq
inductive Rl where
 | ei (l:List Say)
 | su (b:List Nat) (o:Bool)
 | im (b:List Nat) (h:Option Nat)
 deriving DecidableEq
def kS:Kd->Str
 | .e=>Str.ofString "eithers"
 | .s=>Str.ofString "sums"
 | .i=>Str.ofString "ifs"
 | .n=>Str.ofString "nots"
def kdD(k:Kd):D:=.str (kS k)
abbrev nD(n:Nat):D:=.int n
def sayD(s:Say):D:=.tup [.int s.1,.bl s.2]
def optD:Option Nat->D
 | none=>.non
 | some n=>.int n
def rlD:Rl->D
 | .ei l=>.tup (l.map sayD)
 | .su b o=>.tup [.tup (b.map nD),.bl o]
 | .im b h=>.tup [.tup (b.map nD),optD h]
def Yac(k:Kd)(R:List Rl):D:=.tup [kdD k,.tup (R.map rlD)]
@[simp] theorem dep_kd(k:Kd):dep (kdD k)=0:=by simp[kdD]
theorem Yyz:∀{k j:Kd},kS k=kS j->k=j:=by
 intro k j
 cases k<;>cases j<;>first | (intro _;rfl) | (intro h;exact absurd h (by decide +kernel))
@[simp] theorem Yy0(k j:Kd):eqD (kdD k) (kdD j)=decide (k=j):=by
 rw[kdD,kdD,Yvq]
 by_cases h:k=j
 ·simp[h]
 ·have h':¬kS k=kS j:=fun e=>h (Yyz e)
  simp[h,h']
theorem Yqs(neg:Bool)(k j:Kd):eqM neg (kdD k) (kdD j)=some (if neg then !decide (k=j)else decide (k=j)):=by
 rw[Yk2 (by simp) (by simp),Yy0]
@[simp] theorem eqM_e(neg:Bool)(k:Kd):eqM neg (kdD k) (.str (Str.ofString "eithers"))=some (if neg then !decide (k=.e)else decide (k=.e)):=Yqs neg k .e
@[simp] theorem eqM_s(neg:Bool)(k:Kd):eqM neg (kdD k) (.str (Str.ofString "sums"))=some (if neg then !decide (k=.s)else decide (k=.s)):=Yqs neg k .s
@[simp] theorem eqM_i(neg:Bool)(k:Kd):eqM neg (kdD k) (.str (Str.ofString "ifs"))=some (if neg then !decide (k=.i)else decide (k=.i)):=Yqs neg k .i
@[simp] theorem y0i(a b:Nat):eqD (nD a) (nD b)=decide (a=b):=by
 rw[nD,nD,Yqn]
 by_cases h:a=b
 ·simp[h]
 ·have:¬(a:Int)=b:=by lia
  simp[h,this]
theorem Yqt{α:Type} [DecidableEq α] {enc:α->D} (he:∀a b,eqD (enc a) (enc b)=decide (a=b)) (s:α):∀l:List α,inD (enc s) (l.map enc)=decide (s∈l)
 | []=>by simp[inD]
 | t::l=>by
   have ih:=Yqt he s l
   unfold inD at ih ⊢
   rw[qy,List.any_cons,ih,he]
   by_cases h1:t=s
   ·simp[h1]
   ·have h1':¬s=t:=fun e=>h1 e.symm
    simp[h1,h1']
theorem Yjs{n:Nat}:∀{l:List D},(∀d∈l,dep d<=n)->depL l<=n
 | [],_=>by simp
 | d::l,h=>by
   rw[Yqo]
   exact Nat.max_le.mpr ⟨h d qg,Yjs fun e he=>h e (qf _ he)⟩
theorem in_n{c:D}(s:Nat)(l:List Nat)(neg:Bool)(hc:Yr c=some (l.map nD)):inM neg (nD s) c=some (if neg then !decide (s∈l)else decide (s∈l)):=by
 rw[Yyw hc (by simp) (Yjs fun d hd=>by obtain⟨x,_,rfl⟩:=qv hd;simp),Yqt y0i]
@[simp] theorem ix_say0(s:Say):(Yr (sayD s)).bind (fun l=>atI l 0)=some (.int s.1):=by simp[sayD]
@[simp] theorem ix_say1(s:Say):(Yr (sayD s)).bind (fun l=>atI l 1)=some (.bl s.2):=by simp[sayD]
@[simp] theorem items_ei(l:List Say):Yr (rlD (.ei l))=some (l.map sayD):=nr rfl
@[simp] theorem items_su(b:List Nat)(o:Bool):Yr (rlD (.su b o))=some [.tup (b.map nD),.bl o]:=nr rfl
@[simp] theorem items_im(b:List Nat)(h:Option Nat):Yr (rlD (.im b h))=some [.tup (b.map nD),optD h]:=nr rfl
@[simp] theorem items_book(k:Kd)(R:List Rl):Yr (Yac k R)=some [kdD k,.tup (R.map rlD)]:=nr rfl
def at'(ev:List Bool)(n:Nat):Bool:=ev.getD n false
theorem Ysk{ev:List Bool}{n:Nat}(h:n < ev.length):atI (ev.map D.bl) (n:Int)=some (.bl (at' ev n)):=by
 rw[Yl8,Yjq h]
 simp[at',h]
def In(k:Kd)(n:Nat):Rl->Prop
 | .ei l=>k=.e/\∀s∈l,s.1 < n
 | .su b _=>k=.s/\∀x∈b,x < n
 | .im b h=>(k=.i\/k=.n)/\(∀x∈b,x < n)/\∀x,h=some x->x < n
def slt(s t:Say):Prop:=s.1 < t.1\/(s.1=t.1/\s.2=false/\t.2=true)
def Srt:Rl->Prop
 | .ei l=>l.length<=2/\l.Pairwise slt
 | .su b _=>b.Pairwise (· < ·)
 | .im b _=>b.Pairwise (· < ·)
def hd(ev:List Bool)(w:Bool):Option Nat->Bool
 | none=>false
 | some x=>at' ev x==w
def nth(R:List Rl)(i:Nat):Rl:=R.getD i (.ei [])
theorem Yvr{R:List Rl}{i:Nat}(h:i < R.length):nth R i∈R:=by simp[nth,h]
theorem Yvs(R:List Rl):Yji (R.map rlD)=(List.range R.length).map fun i:Nat=>.tup [.int (i:Int),rlD (nth R i)]:=Yqr rlD (.ei []) R
def so(k:Kd)(ev:List Bool):Rl->Bool
 | .ei l=>l.any fun s=>at' ev s.1==s.2
 | .su b o=>decide ((b.filter (at' ev)).length % 2=1)==o
 | .im b h=>(b.any fun x=>at' ev x != decide (k=.i))||hd ev (decide (k=.i)) h
end Bk
namespace Bk
def brk(k:Kd)(ev:List Bool)(R:List Rl):List Nat:=(List.range R.length).filter fun i=>!so k ev (nth R i)
end Bk
namespace Bk
open PySem L2 M
def sz:Rl->Nat
 | .ei l=>l.length
 | .su b _=>b.length
 | .im b _=>b.length
theorem Yqu{n:Nat}:∀{l:List Nat} {a:Nat},l.Pairwise (· < ·)->(∀x∈l,a<=x/\x < n)->l.length<=n - a
 | [],_,_,_=>Nat.zero_le _
 | x::l,a,h,hl=>by
   have hx:=hl x qg
   have hp:=List.pairwise_cons.mp h
   have ih:=Yqu (n:=n) (l:=l) (a:=x+1) hp.2 fun y hy=>⟨hp.1 y hy,(hl y (qf _ hy)).2⟩
   rw[qq]
   lia
theorem Yqv{n:Nat}{l:List Nat}(h:l.Pairwise (· < ·))(hl:∀x∈l,x < n):l.length<=n:=Yqu (a:=0) h fun x hx=>⟨Nat.zero_le _,hl x hx⟩
theorem y0j{k:Kd}{n:Nat}{r:Rl}(hi:In k n r)(hs:Srt r):sz r<=n+2:=by
 cases r with
 | ei l=>exact qz hs.1 (by lia)
 | su b o=>exact qz (Yqv hs hi.2) (by lia)
 | im b o=>exact qz (Yqv hs hi.2.1) (by lia)
end Bk
namespace Bk
def bcs:Rl->List Nat
 | .ei l=>l.map (·.1)
 | .su b _=>b
 | .im b none=>b
 | .im b (some x)=>b++[x]
end Bk
namespace Bk
open PySem L2 M
theorem Yts{k:Kd}{n:Nat}{r:Rl}(h:In k n r):∀x∈bcs r,x < n:=by
 cases r with
 | ei l=>
   intro x hx
   obtain⟨s,hs,rfl⟩:=qv hx
   exact h.2 s hs
 | su b o=>exact h.2
 | im b o=>
   intro x hx
   cases o with
   | none=>exact h.2.1 x hx
   | some y=>
     rcases qt hx with hx | hx
     ·exact h.2.1 x hx
     ·rw[List.mem_singleton.mp hx];exact h.2.2 y rfl
end Bk
namespace M
open PySem PySem.Spec PyProof.Rows L2
section
variable {K:W.Frag}
section
variable {X:Cx} {pos:Pos}
def sAsg(f:Ro->Option D)(gt:D->Ro->Option Ro):Ro->Option Out:=fun ρ=>(f ρ).bind fun d=>(gt d ρ).map Out.nx
theorem Yy1{tg e:Expr}{f:Ro->Option D}{gt:D->Ro->Option Ro}(hg:MG X tg gt)(he:ME X e f)(hs:swapsWithSole [tg] e pos.line X.env=pure false:=by rfl)(hw:swappedStores [tg] e X.env=pure none:=by rfl)
 (h1:(assignEach [tg] X.env).map (·.2)=[assign tg X.env]:=by rfl):MS X (.Assign [tg] e pos) (sAsg f gt):=PS.imp (Ytd he hg hs hw h1) fun F σ H hx_=>by
 obtain⟨ρ,out,H0,G0,G,e,s,h⟩:=hx_
 obtain⟨d,h1,e⟩:=qa e
 obtain⟨ρ',h2,rfl⟩:=qb e
 exact tOf.at h1 s fun v H1 G1 g1 r1 s1=>⟨d,ρ,ρ',_,_,G1,h2,s1,r1,fun σ' s'=>h _ H1 G1 s'⟩
@[simp] theorem ap_sAsg{ρ:Ro}(f:Ro->Option D)(gt:D->Ro->Option Ro):sAsg f gt ρ=(f ρ).bind fun d=>(gt d ρ).map Out.nx:=nr1 rfl
theorem Yvt{tg e:Expr}{f:Ro->Option D}{gt:D->Ro->Option Ro}(hg:ZG X tg gt)(he:ZE X e f)(hs:swapsWithSole [tg] e pos.line X.env=pure false:=by rfl)(hw:swappedStores [tg] e X.env=pure none:=by rfl)
 (h1:(assignEach [tg] X.env).map (·.2)=[assign tg X.env]:=by rfl):ZS X (.Assign [tg] e pos) (sAsg f gt):=⟨Yy1 hg.un he.un hs hw h1⟩
end
end
section
section
variable {prog:Program} {w:World} {A:Around} {E:Value->Shared->Prop} {X:Cx} {pos:Pos}
theorem Yiu{it t:Addr}{items:Array Value}(hne:t≠it):∀(n i:Nat) (s:Shared) (Q:List Value->Shared->Prop),s.heap.IsListIter it t i->s.heap.IsList t items->i+n<=items.size->
 (∀h':Heap,h'.IsListIter it t (i+n)->Heap.SameBut it s.heap h'->Q ((items.toList.drop i).take n) { s with heap:=h' })->wpAny (model prog w) A (draw (.ref it) n) Q E s
 | 0,i,s,Q,hit,_,_,hQ=>by
   show wpAny _ _ (pure []) Q E s
   exact wpAny_pure (by simpa using hQ s.heap hit (Heap.SameBut.refl ..))
 | n+1,i,s,Q,hit,ht,hle,hQ=>by
   have hlt:i < items.size:=by lia
   show wpAny _ _ (pyNext (.ref it) >>= _) Q E s
   refine wpAny_bind (wpAny_pyNext_list_item hit ht (x:=items[i]) (by simp[hlt]) fun h₁ hit₁ hs₁=>?_)
   refine wpAny_bind (wpAny_holding (Yiu hne n (i+1) _ _ hit₁ (ht.extBut hs₁.extBut hne) (by lia) fun h₂ hit₂ hs₂=>wpAny_pure ?_))
   have hd:items.toList.drop i=items[i]::items.toList.drop (i+1):=by simp[List.drop_eq_getElem_cons,hlt]
   have:=hQ h₂ (by rw[show i+(n+1)=i+1+n by lia];exact hit₂) (hs₁.trans hs₂)
   rw[hd,List.take_succ_cons]at this
   exact this
theorem Yf4{s:Shared}{t:Addr}{items:Array Value}{Q:List Value->Shared->Prop}(hh:A.handled=none)(ht:s.heap.IsList t items)
 (hQ:∀h',Heap.ExtBut s.heap.objs.size s.heap h'->Q items.toList { s with heap:=h' }):wpAny (model prog w) A (unpackItems (.ref t) items.size none) Q E s:=by
 have hlt:t≠s.heap.objs.size:=by obtain⟨o,ho,_⟩:=ht;exact ql (qk ho)
 unfold unpackItems
 refine wpAny_bind ?_
 ·unfold notIterableAtAll
  refine wpAny_bind (wpAny_specialOf ht.typeIs slot_list_iter.lookup ?_)
  refine wpAny_pure ?_
  simp only[Bool.false_eq_true,if_false]
  refine wpAny_bind (wpAny_holding (wpAny_pyIter_list ht ?_))
  refine wpAny_bind (wpAny_holding (Yiu hlt items.size 0 _ _ ⟨_,qo _ rfl,rfl,rfl⟩ (ht.push _) (by lia) fun h₁ hit₁ hs₁=>?_))
  have hall:List.take items.size (List.drop 0 items.toList)=items.toList:=by
   rw[List.drop_zero];exact List.take_of_length_le (by simp)
  rw[hall]
  rw[if_neg (by simp)]
  have ht₁:h₁.IsList t items:=(ht.push _).extBut hs₁.extBut hlt
  refine wpAny_bind (wpAny_holding (wpAny_pyNext_list_end hh hit₁ ht₁ (by simp) fun h₂ he₂=>?_))
  simp only[Option.isSome_none,Bool.false_eq_true,if_false]
  refine wpAny_pure (hQ h₂ fun b o hb e=>he₂ b o hb (hs₁.extBut b o hb (qd _ e)))
theorem Yfg{s:Shared}{env:Env}{elts:List Expr}{x1}{pos:Pos}{t:Addr}{items:Array Value}{Q:Unit->Shared->Prop}(hh:A.handled=none)(ht:s.heap.IsList t items)
 (hn:(assignEach elts env).length=items.size) (hstar:(assignEach elts env).findIdx? (·.1)=none)
 (h:∀h',Heap.ExtBut s.heap.objs.size s.heap h'->wpAny (model prog w) A (assignInOrder ((assignEach elts env).map (·.2)) items.toList) Q E { s with heap:=h' }) :
 wpAny (model prog w) A (assign (.Tuple elts x1 pos) env (.ref t)) Q E s:=by
 rw[assign_Tuple]
 refine wpAny_bind (wpAny_standAt ?_)
 unfold unpack
 rw[hn,hstar]
 exact wpAny_bind (wpAny_holding (Yf4 hh ht h))
def y0k(K:W.Frag)(n:Nat)(t:TGs):TG:=fun v σ H Q=>∃a xs,v=.ref a/\SqL K H a xs/\xs.length=n/\t xs σ H Q
theorem Yvu{es:List Expr}{k:Nat}{t:TGs}{n:Nat}(hc:X.calm=true)(h:PGs X es t)
 (hn:(assignEach es X.env).length=n:=by rfl) (hst:(assignEach es X.env).findIdx? (·.1)=none:=by rfl):PG X (.Tuple es k pos) (y0k X.K n t):=by
 intro pins s σ H v u Q I r hw
 obtain⟨a,xs,e1,hq,hl,hw⟩:=hw
 subst e1
 cases r
 obtain⟨its,rv,⟨o,nn,ho,hcl,_,hd⟩,hz⟩:=I.list hq
 refine Yfg (I.ok.hd hc) ⟨o,ho,hcl,nn,hd⟩ (by simp[hn,<-hl,rv.length]) hst fun h' hx=>?_
 have I1:Inv X pins σ H { s with heap:=h' }:=I.kept (t':=s.toks) fun b o e=>hx b o (ql (qk e)) e
 exact h pins _ σ H xs _ Q I1 (by simpa using rv) hw
end
end
section
variable {K:W.Frag}
def fldD(c f:Str):D->Option D
 | .obj c' ks vs=>if c'=c then (ks.zip vs).lookup f else none
 | _=>none
def CF(K:W.Frag)(c f:Str):Prop:=∀C,W.nsIn K mainGlobals c=some (some (.ref C))->Cls K C/\NoAttr K C f
theorem RpL.look{G:Hp}{f:Str}:∀{ks:List Str} {vs:List D} {xs:List V} {d:D},RpL K G vs xs->(ks.zip vs).lookup f=some d->∃v,(ks.zip xs).lookup f=some v/\Rp K G d v
 | [],_,_,_,_,e=>by simp at e
 | _::_,[],_,_,_,e=>by simp at e
 | k::ks,d'::vs,xs,d,r,e=>by
   rw[RpL]at r
   obtain⟨x,xs',rfl,g,q⟩:=r
   rw[List.zip_cons_cons,Qd]at e ⊢
   cases h:(f==k)with
   | true=>
     rw[h]at e
     cases e
     exact⟨x,rfl,g⟩
   | false=>
     rw[h]at e
     exact RpL.look q e
section
variable {X:Cx} {e o:Expr} {fa fo:Ro->Option D} {pos apos:Pos} {c f:Str}
theorem Yy2(k:CF X.K c f)(he:ME X e fa)(hb:attributeBase e f X.env (eval e X.env)=eval e X.env:=by rfl):ME X (.Attribute e f pos) (b1 fa (fldD c f)):=
 PE.imp (Yo4 he hb) fun σ H Q hx_=>by
  obtain⟨ρ,d,H0,G0,G,e,s,h⟩:=hx_
  obtain⟨x,h1,h2⟩:=Ya8 e
  refine tOf.at h1 s fun v H1 G1 g1 r1 s1=>?_
  cases x with
  | obj c' ks vs=>
    change (if c'=c then (ks.zip vs).lookup f else none)=some d at h2
    by_cases hc:c'=c
    ·rw[if_pos hc]at h2
     subst hc
     rw[Rp]at r1
     obtain⟨a,C,dx,xs,rfl,n,g,l,q⟩:=r1
     obtain⟨v,hv,rv⟩:=q.look h2
     exact⟨a,C,dx,_,v,rfl,s1.seen _ _ g,(k C n).1,(k C n).2,hv,h v H1 G1 g1 rv⟩
    ·rw[if_neg hc]at h2
     cases h2
  | _=>cases h2
def Okm(P:Program)(w:World)(K:W.Frag)(mg:Str->Option Value)(base:Heap)(k:Nat)(c m:Str)(ps:List Str)(sp:Sp):Prop:=
 ∃C f fd,FnOk P w K mg base CX0 k f fd ps sp/\Binds K fd ps []/\W.nsIn K mainGlobals c=some (some (.ref C))/\Cls K C/\Meth K C m f
def mthD(c m:Str)(fn:List D->Option D):D->Option D
 | .obj c' ks vs=>if c'=c/\m∉ks then fn [.obj c' ks vs]else none
 | _=>none
theorem Yqw{f:Str}:∀{ks:List Str} {xs:List V},f∉ks->(ks.zip xs).lookup f=none
 | [],_,_=>by simp
 | _::_,[],_=>by simp
 | k::ks,x::xs,h=>by
   rw[List.zip_cons_cons,Qd]
   have h1:(f==k)=false:=by
    rw[beq_eq_false_iff_ne]
    exact fun z=>h (by rw[z];exact qg)
   rw[h1]
   exact Yqw fun z=>h (qf _ z)
theorem Ysl{j k:Nat}{m:Str}{ps:List Str}{fn:List D->Option D}{pl:Sem Bool}(O:Okm X.prog X.w X.K X.mg X.base j c m ps (spOf X.K 1 fn))(hr:Room k X.A)(ho:ME X o fo)(hj:j<=k:=by first | exact qs _ | lia)
 (ht:eval (.Call (.Attribute o m apos) [] [] pos) X.env=(do
  let ov <-eval o X.env
  standAt apos.atName
  let (f,first) <-holding [ov] (getMethod ov m pl)
  callWith pos f first (backTo pos (starEach [] X.env)) (backToKw pos (keywordEach [] X.env))):=by rfl):ME X (.Call (.Attribute o m apos) [] [] pos) (b1 fo (mthD c m fn)):=by
 intro pins s σ H Q I hx_
 obtain⟨ρ,d,H0,G0,G,e,sr,h⟩:=hx_
 obtain⟨x,h1,h2⟩:=Ya8 e
 cases x with
 | obj c' ks vs=>
   change (if c'=c/\m∉ks then fn [.obj c' ks vs]else none)=some d at h2
   by_cases hc:c'=c/\m∉ks
   ·rw[if_pos hc]at h2
    obtain⟨rfl,hm⟩:=hc
    obtain⟨C,f,fd,F,hb,hn,cl,me⟩:=O
    refine Ymt (E:=E0) ho cl me F (hr.mono hj) hb .nil Ype ht pins s σ H Q I ?_
    refine tOf.at h1 sr fun v H1 G1 g1 r1 s1=>?_
    rw[Rp]at r1
    obtain⟨a,C',dx,xs,rfl,n,g,l,q⟩:=r1
    rw[hn]at n
    cases n
    refine⟨a,dx,_,rfl,s1.seen _ _ g,Yqw hm,?_⟩
    refine⟨rfl,[_],d,G1,s1.seen,.one ?_,h2,fun v H' G' g2 r2=>h v H' G' (g1.trans g2) r2⟩
    rw[Rp]
    exact⟨a,C,dx,xs,rfl,hn,g,l,q⟩
   ·rw[if_neg hc]at h2
    cases h2
 | _=>cases h2
end
end
section
variable {K:W.Frag}
inductive OutW (τ:Type) where
 | nx (ρ:Ro) (t:τ) | rt (d:D) (t:τ) | bk (ρ:Ro) (t:τ) | ct (ρ:Ro) (t:τ)
def Off(l:Addr)(H H':Hp):Prop:=∀a,a≠l->H' a=H a
theorem Off.trans{l:Addr}{H H' H'':Hp}(a:Off l H H')(b:Off l H' H''):Off l H H'':=fun x hx=>(b x hx).trans (a x hx)
structure WR(K:W.Frag)(l:Addr)(o:HO)(H0 G0:Hp)(σ:L2.St)(H G:Hp)(ρ:Ro):Prop where
 sr:SR K H0 G0 σ H G ρ
 g0:G0 l=none
 h0:H0 l=some o
def ContW{τ:Type}(rep:τ->HO)(K:W.Frag)(l:Addr)(H0 G0:Hp)(F:Ends):OutW τ->Prop
 | .nx ρ' t=>∀σ' H' G' H1,Off l H0 H1->WR K l (rep t) H1 G0 σ' H' G' ρ'->F.nx σ' H'
 | .rt d t=>∀v H' G' H1,Off l H0 H1->H1 l=some (rep t)->Gr H1 G0 H' G'->Rp K G' d v->F.rt v H'
 | .bk ρ' t=>∀σ' H' G' H1,Off l H0 H1->WR K l (rep t) H1 G0 σ' H' G' ρ'->F.bk σ' H'
 | .ct ρ' t=>∀σ' H' G' H1,Off l H0 H1->WR K l (rep t) H1 G0 σ' H' G' ρ'->F.ct σ' H'
section
variable {τ:Type} {rep:τ->HO} {l:Addr} {H0 G0 H G H1:Hp} {σ:L2.St} {ρ:Ro} {o:HO} {F:Ends}
theorem ContW.off{out:OutW τ}(f:Off l H0 H1)(c:ContW rep K l H0 G0 F out):ContW rep K l H1 G0 F out:=by
 cases out with
 | nx ρ t=>exact fun σ' H' G' H2 g w=>c σ' H' G' H2 (f.trans g) w
 | rt d t=>exact fun v H' G' H2 g w=>c v H' G' H2 (f.trans g) w
 | bk ρ t=>exact fun σ' H' G' H2 g w=>c σ' H' G' H2 (f.trans g) w
 | ct ρ t=>exact fun σ' H' G' H2 g w=>c σ' H' G' H2 (f.trans g) w
theorem WR.no(w:WR K l o H0 G0 σ H G ρ):G l=none:=by
 cases h:G l with
 | none=>rfl
 | some u=>
   have:=w.sr.gr.n l w.g0 (by rw[h];exact fun z=>nomatch z)
   rw[w.h0]at this
   cases this
theorem WR.at(w:WR K l o H0 G0 σ H G ρ):H l=some o:=w.sr.gr.h _ _ w.h0
theorem WR.put(w:WR K l o H0 G0 σ H G ρ)(o':HO):WR K l o' (upd H0 l o') G0 σ (upd H l o') G ρ:=by
 have gl:=w.no
 have ne:∀{a:Addr},H0 a=none->a≠l:=fun h z=>by rw[z,w.h0]at h;cases h
 have s:=w.sr
 refine⟨⟨⟨fun b u e=>?_,s.gr.g,fun b u e=>?_,fun a h h'=>?_⟩,s.len,s.sh,fun i m e=>?_,s.ap,fun i t ks vs e=>?_,s.apd⟩,w.g0,Yl⟩
 ·by_cases z:b=l
  ·subst z;rw[Yl]at e ⊢;exact e
  ·rw[Yj z]at e ⊢;exact s.gr.h b u e
 ·rw[Yj (Yt e gl)];exact s.gr.s b u e
 ·have q:=s.gr.n a h h'
  rw[Yj (ne q)];exact q
 ·obtain⟨a,xs,q1,q2,q3,q4,q5⟩:=s.ow i m e
  exact⟨a,xs,q1,q2,by rw[Yj (ne q3)];exact q3,by rw[Yj (ne q3)];exact q4,q5⟩
 ·obtain⟨a,kxs,vxs,q1,q2,q3,q4,q5⟩:=s.od i t ks vs e
  exact⟨a,kxs,vxs,q1,q2,by rw[Yj (ne q3)];exact q3,q4.mono (Same.refl _) fun o z=>by rw[Yj (ne q3)];exact z,q5⟩
theorem Off.put(l:Addr)(H:Hp)(o:HO):Off l H (upd H l o):=fun _ h=>Yj h
theorem SR.rebaseW(s:SR K H0 G0 σ H G ρ)(hg:G l=none){o:HO}(h0:H0 l=some o):∃H1,SR K H1 G σ H G ρ/\H1 l=some o/\∀H2 σ' H' G' ρ',Off l H1 H2->SR K H2 G σ' H' G' ρ'->SR K (fun a=>if a=l then H2 l else H0 a) G0 σ' H' G' ρ':=by
 classical
 let own:Addr->Prop:=fun a=>∃(i:Nat),((∃l:List D,ρ[i]?=some (some (B.ow l)))\/(∃t ks vs,ρ[i]?=some (some (B.od t ks vs))))/\σ[i]?=some (some (V.ref a))
 have hh:∀a,own a->H0 a=none:=fun a ha=>by
  obtain⟨i,e1,e2⟩:=ha
  rcases e1 with⟨l,e1⟩ | ⟨t,ks,vs,e1⟩
  ·obtain⟨b,xs,q1,_,q3,_⟩:=s.ow i l e1
   rw[e2]at q1;cases q1;exact q3
  ·obtain⟨b,kxs,vxs,q1,_,q3,_⟩:=s.od i t ks vs e1
   rw[e2]at q1;cases q1;exact q3
 have hl:¬own l:=fun z=>by
  have:=hh l z
  rw[h0]at this;cases this
 have back:∀a,(if own a then (none:Option HO)else H a)=none->H0 a=none:=fun a h=>by
  by_cases o:own a
  ·exact hh a o
  ·rw[if_neg o]at h;exact s.gr.h.free h
 refine⟨fun a=>if own a then none else H a,⟨⟨fun b o e=>?_,Same.refl _,s.gr.s,fun _ h h'=>absurd h h'⟩,s.len,s.sh,fun i l e=>?_,s.ap,fun i t ks vs e=>?_,s.apd⟩,?_,fun H2 σ' H' G' ρ' f t=>?_⟩
 ·by_cases z:own b
  ·simp only[if_pos z]at e;cases e
  ·simp only[if_neg z]at e;exact e
 ·obtain⟨a,xs,q1,q2,q3,q4,q5⟩:=s.ow i l e
  exact⟨a,xs,q1,q2,if_pos ⟨i,.inl ⟨l,e⟩,q1⟩,q4,q5⟩
 ·obtain⟨a,kxs,vxs,q1,q2,q3,q4⟩:=s.od i t ks vs e
  exact⟨a,kxs,vxs,q1,q2,if_pos ⟨i,.inr ⟨t,ks,vs,e⟩,q1⟩,q4⟩
 ·show(if own l then none else H l)=some o
  rw[if_neg hl];exact s.gr.h _ _ h0
 ·have bk2:∀a,H2 a=none->(if a=l then H2 l else H0 a)=none:=fun a h=>by
   by_cases z:a=l
   ·rw[if_pos z];rw[z]at h;exact h
   ·rw[if_neg z]
    rw[f a z]at h
    exact back a h
  refine⟨⟨fun b u e=>?_,s.gr.g.trans t.gr.g,t.gr.s,fun b h h'=>?_⟩,t.len,t.sh,fun i l e=>?_,t.ap,fun i t1 ks vs e=>?_,t.apd⟩
  ·refine t.gr.h b u ?_
   by_cases z:b=l
   ·simp only[if_pos z]at e;rw[z];exact e
   ·simp only[if_neg z]at e
    rw[f b z]
    have z2:¬own b:=fun q=>by rw[hh b q]at e;cases e
    show(if own b then none else H b)=some u
    rw[if_neg z2];exact s.gr.h b u e
  ·by_cases z:G b=none
   ·exact bk2 b (t.gr.n b z h')
   ·have q:=s.gr.n b h z
    have nl:b≠l:=fun y=>z (by rw[y];exact hg)
    show(if b=l then H2 l else H0 b)=none
    rw[if_neg nl];exact q
  ·obtain⟨a,xs,q1,q2,q3,q4,q5⟩:=t.ow i l e
   exact⟨a,xs,q1,q2,bk2 a q3,q4,q5⟩
  ·obtain⟨a,kxs,vxs,q1,q2,q3,q4⟩:=t.od i t1 ks vs e
   exact⟨a,kxs,vxs,q1,q2,bk2 a q3,q4⟩
end
def sOfW{τ:Type}(rep:τ->HO)(K:W.Frag)(l:Addr)(f:Ro->τ->Option (OutW τ)):TS:=fun F σ H=>∃ρ t out H0 G0 G,f ρ t=some out/\WR K l (rep t) H0 G0 σ H G ρ/\ContW rep K l H0 G0 F out
abbrev WS{τ:Type}(rep:τ->HO)(X:Cx)(l:Addr)(st:Stmt)(f:Ro->τ->Option (OutW τ)):Prop:=PS X st (sOfW rep X.K l f)
abbrev WB{τ:Type}(rep:τ->HO)(X:Cx)(l:Addr)(sts:List Stmt)(f:Ro->τ->Option (OutW τ)):Prop:=PSs X sts (sOfW rep X.K l f)
def Yf5{τ:Type}(f:Ro->Option Out):Ro->τ->Option (OutW τ):=fun ρ t=>(f ρ).map fun
 | .nx ρ'=>.nx ρ' t
 | .rt d=>.rt d t
 | .bk ρ'=>.bk ρ' t
 | .ct ρ'=>.ct ρ' t
def nilW{τ:Type}:Ro->τ->Option (OutW τ):=fun ρ t=>some (.nx ρ t)
def seqW{τ:Type}(f g:Ro->τ->Option (OutW τ)):Ro->τ->Option (OutW τ):=fun ρ t=>(f ρ t).bind fun
 | .nx ρ' t'=>g ρ' t'
 | o=>some o
def ifW{τ:Type}(c:Ro->τ->Option Bool)(f g:Ro->τ->Option (OutW τ)):Ro->τ->Option (OutW τ):=fun ρ t=>(c ρ t).bind fun k=>if k=true then f ρ t else g ρ t
def forW{τ:Type}(gt:D->Ro->Option Ro)(fb:Ro->τ->Option (OutW τ)):List D->Ro->τ->Option (OutW τ)
 | [],ρ,t=>some (.nx ρ t)
 | d::ds,ρ,t=>(gt d ρ).bind fun ρ1=>(fb ρ1 t).bind fun
   | .nx ρ2 t2=>forW gt fb ds ρ2 t2
   | .ct ρ2 t2=>forW gt fb ds ρ2 t2
   | .bk ρ2 t2=>some (.nx ρ2 t2)
   | .rt d t2=>some (.rt d t2)
def Yog{τ:Type}(gl:Ro->Option (List D))(gt:D->Ro->Option Ro)(fb:Ro->τ->Option (OutW τ)):Ro->τ->Option (OutW τ):=fun ρ t=>(gl ρ).bind fun ds=>forW gt fb ds ρ t
section
variable {τ:Type} {rep:τ->HO} {X:Cx} {l:Addr} {st:Stmt} {sts:List Stmt} {fs gs:Ro->τ->Option (OutW τ)} {pos:Pos} {tg:Expr} {gl:Ro->Option (List D)}
theorem Yvv{f:Ro->Option Out}(h:MS X st f):WS rep X l st (Yf5 f):=PS.imp h fun F σ H hx_=>by
 obtain⟨ρ,t,out,H0,G0,G,e,w,c⟩:=hx_
 obtain⟨o,h1,rfl⟩:=qb e
 refine⟨ρ,o,H0,G0,G,h1,w.sr,?_⟩
 cases o with
 | nx ρ'=>exact fun σ' H' G' s'=>c σ' H' G' H0 (fun _ _=>rfl) ⟨s',w.g0,w.h0⟩
 | rt d=>exact fun v H' G' g r=>c v H' G' H0 (fun _ _=>rfl) w.h0 g r
 | bk ρ'=>exact fun σ' H' G' s'=>c σ' H' G' H0 (fun _ _=>rfl) ⟨s',w.g0,w.h0⟩
 | ct ρ'=>exact fun σ' H' G' s'=>c σ' H' G' H0 (fun _ _=>rfl) ⟨s',w.g0,w.h0⟩
theorem Yy3:WB rep X l [] (nilW (τ:=τ)):=PSs.imp Ylq fun F σ H hx_=>by
 obtain⟨ρ,t,out,H0,G0,G,e,w,c⟩:=hx_
 cases e
 exact c σ H G H0 (fun _ _=>rfl) w
theorem Yy4(h:WS rep X l st fs):WB rep X l [st] fs:=Yi3 h
theorem Yvw(h1:WS rep X l st fs)(h2:WB rep X l sts gs):WB rep X l (st::sts) (seqW fs gs):=PSs.imp (Ycq h1 h2) fun F σ H hx_=>by
 obtain⟨ρ,t,out,H0,G0,G,e,w,c⟩:=hx_
 unfold seqW at e
 obtain⟨o,h3,e⟩:=qa e
 cases o with
 | nx ρ' t'=>exact⟨ρ,t,.nx ρ' t',H0,G0,G,h3,w,fun σ' H' G' H1 f w'=>⟨ρ',t',out,H1,G0,G',e,w',c.off f⟩⟩
 | rt d t'=>cases e;exact⟨ρ,t,.rt d t',H0,G0,G,h3,w,c⟩
 | bk ρ' t'=>cases e;exact⟨ρ,t,.bk ρ' t',H0,G0,G,h3,w,c⟩
 | ct ρ' t'=>cases e;exact⟨ρ,t,.ct ρ' t',H0,G0,G,h3,w,c⟩
def WT(rep:τ->HO)(X:Cx)(l:Addr)(c:Expr)(f:Ro->τ->Option Bool):Prop:=PT X c fun σ H Q=>∃ρ t k H0 G0 G,f ρ t=some k/\WR X.K l (rep t) H0 G0 σ H G ρ/\∀H' G',Gr H G H' G'->Q k H'
theorem y0l{c:Expr}{a b:List Stmt}{fc:Ro->τ->Option Bool}(hc:WT rep X l c fc)(ha:WB rep X l a fs)(hb:WB rep X l b gs):WS rep X l (.If c a b pos) (ifW fc fs gs):=PS.imp (Yt1 hc ha hb) fun F σ H hx_=>by
 obtain⟨ρ,t,out,H0,G0,G,e,w,c⟩:=hx_
 unfold ifW at e
 obtain⟨k,h1,e⟩:=qa e
 refine⟨ρ,t,k,H0,G0,G,h1,w,fun H1 G1 g1=>?_⟩
 have w1:WR X.K l (rep t) H0 G0 σ H1 G1 ρ:=⟨w.sr.grow g1,w.g0,w.h0⟩
 cases k with
 | true=>
   rw[if_pos rfl]at e
   exact iteT ⟨ρ,t,out,H0,G0,G1,e,w1,c⟩
 | false=>
   rw[if_neg qh]at e
   exact iteF ⟨ρ,t,out,H0,G0,G1,e,w1,c⟩
theorem Yez{gt:D->Ro->Option Ro}{fb:Ro->τ->Option (OutW τ)}:∀(ds:List D) (ρ:Ro) (t:τ) (out:OutW τ),forW gt fb ds ρ t=some out->(∃ρ' t',out=.nx ρ' t')\/∃d t',out=.rt d t'
 | [],ρ,t,out,h=>by cases h;exact .inl ⟨_,_,rfl⟩
 | d::ds,ρ,t,out,h=>by
   rw[forW]at h
   obtain⟨ρ1,h1,h⟩:=qa h
   obtain⟨o,h2,h⟩:=qa h
   cases o with
   | nx ρ2 t2=>exact Yez ds ρ2 t2 out h
   | ct ρ2 t2=>exact Yez ds ρ2 t2 out h
   | bk ρ2 t2=>cases h;exact .inl ⟨_,_,rfl⟩
   | rt d t2=>cases h;exact .inr ⟨_,_,rfl⟩
theorem Yy5{iter:Expr}{body:List Stmt}{gt:D->Ro->Option Ro}(hp:PassesOwn (model X.prog X.w) X.A X.env X.xe)(hc:X.calm=true)(hi:MI X tg iter gl)(hg:MG X tg gt)(hb:WB rep X l body fs)
 (hs:∀x,foldedSetIterable iter X.env x=pure x:=by intro _;rfl):WS rep X l (.For tg iter body [] pos) (Yog gl gt fs):=
 PS.imp (Yte hp hc hi hg hb hs) fun F σ H hx_=>by
  obtain⟨ρ,t,out,H0,G0,G,e,w,h⟩:=hx_
  unfold Yog at e
  obtain⟨ds,h1,h2⟩:=qa e
  refine⟨ρ,ds,H0,G0,G,h1,w.sr,fun J H1 G1 g1 wk=>?_⟩
  have w1:WR X.K l (rep t) H0 G0 σ H1 G1 ρ:=⟨w.sr.grow g1,w.g0,w.h0⟩
  have hg1:=w1.no
  obtain⟨Hb,sb,hbl,back⟩:=w1.sr.rebaseW hg1 w.h0
  have hout:=Yez ds ρ t out h2
  have bk:∀{Hc:Hp} {σ':L2.St} {H' G':Hp} {ρ':Ro} {t':τ},Off l Hb Hc->WR X.K l (rep t') Hc G1 σ' H' G' ρ'->∃Hd,Off l H0 Hd/\WR X.K l (rep t') Hd G0 σ' H' G' ρ':=fun {Hc σ' H' G' ρ' t'} f w'=>
   ⟨_,fun a ha=>if_neg ha,back Hc σ' H' G' ρ' f w'.sr,w.g0,by show(if l=l then Hc l else H0 l)=_;rw[if_pos rfl];exact w'.h0⟩
  refine⟨fun i m σ' H'=>m=ds.length - i/\i<=ds.length/\∃ρ' t' G' Hc,Off l Hb Hc/\WR X.K l (rep t') Hc G1 σ' H' G' ρ'/\forW gt fs (ds.drop i) ρ' t'=some out,⟨_,rfl,Nat.zero_le _,ρ,t,G1,Hb,fun _ _=>rfl,⟨sb,hg1,hbl⟩,h2⟩,?_⟩
  rintro i m σ' H' ⟨rfl,hi,ρ',t',G',Hc,fc,w',e'⟩
  have W:=wk.2 i H' G' w'.sr.gr.g w'.sr.seen
  by_cases hlt:i < ds.length
  ·have hd:ds[i]?=some ds[i]:=qp hlt
   obtain⟨go,yl⟩:=W.1 _ hd
   rw[List.drop_eq_getElem_cons hlt,forW]at e'
   obtain⟨ρ1,e1,e'⟩:=qa e'
   obtain⟨o,e2,e'⟩:=qa e'
   refine .inr ⟨go,fun σ' H'=>i+1<=ds.length/\∃ρ' t' G' Hc,Off l Hb Hc/\WR X.K l (rep t') Hc G1 σ' H' G' ρ'/\forW gt fs (ds.drop (i+1)) ρ' t'=some out,fun σ2 H2 q=>⟨ds.length - (i+1),by lia,rfl,q.1,q.2⟩,fun x H2 y=>?_⟩
   obtain⟨G2,g2,r2⟩:=yl x H2 y
   refine⟨_,ρ',ρ1,Hc,G1,G2,e1,w'.sr.grow g2,r2,fun σ3 s3=>?_⟩
   refine⟨ρ1,t',o,Hc,G1,G2,e2,⟨s3,hg1,w'.h0⟩,?_⟩
   cases o with
   | nx ρ2 t2=>exact fun σ4 H4 G4 Hd f4 w4=>⟨hlt,ρ2,t2,G4,Hd,fc.trans f4,w4,e'⟩
   | ct ρ2 t2=>exact fun σ4 H4 G4 Hd f4 w4=>⟨hlt,ρ2,t2,G4,Hd,fc.trans f4,w4,e'⟩
   | bk ρ2 t2=>
     cases e'
     exact fun σ4 H4 G4 Hd f4 w4=>by
      obtain⟨He,f5,w5⟩:=bk (fc.trans f4) w4
      exact h σ4 H4 G4 He f5 w5
   | rt d t2=>
     cases e'
     refine fun v H4 G4 Hd f4 h4 g4 r4=>?_
     obtain⟨He,f5,w5⟩:=bk (fc.trans f4) (σ':=[]) (ρ':=[]) (t':=t2) ⟨SR.mkSh g4 rfl (fun i d e=>(by simp at e)) (fun i l e=>(by simp at e)) (fun i t ks vs e=>(by simp at e)),hg1,h4⟩
     exact h v H4 G4 He f5 w5.h0 w5.sr.gr r4
  ·have ei:i=ds.length:=by lia
   subst ei
   rw[List.drop_length,forW]at e'
   cases e'
   obtain⟨He,f5,w5⟩:=bk fc w'
   exact .inl ⟨W.2 (qs _),h σ' H' G' He f5 w5⟩
end
end
section
variable {K:W.Frag}
abbrev wl(t:List Bool):HO:=.lst (t.map V.bl)
abbrev wks:List Str:=["book","hands","truths"]
abbrev watD(b h x:D):D:=.obj "Watch" wks [b,h,x]
def thw(l i:Nat)(ρ:Ro)(t:List Bool):Option Ro:=match ρ[i]? with
 | some (some (.sh (.obj c ks [b,h,.adr l'])))=>if l'=l then some (ρ.set i (some (.sh (.obj c ks [b,h,.lst (t.map D.bl)]))))else none
 | _=>none
theorem Yqx{G:Hp}:∀t:List Bool,RpL K G (t.map D.bl) (t.map V.bl)
 | []=>.nil
 | b::t=>.cons (by rw[Rp]) (Yqx t)
theorem RpL.three{G:Hp}{a b c:D}{xs:List V}(r:RpL K G [a,b,c] xs):∃x y z,xs=[x,y,z]/\Rp K G a x/\Rp K G b y/\Rp K G c z:=by
 rw[RpL]at r
 obtain⟨x,r1,rfl,h1,r⟩:=r
 rw[RpL]at r
 obtain⟨y,r2,rfl,h2,r⟩:=r
 rw[RpL]at r
 obtain⟨z,r3,rfl,h3,r⟩:=r
 rw[RpL]at r
 subst r
 exact⟨x,y,z,rfl,h1,h2,h3⟩
section
variable {l:Addr} {H0 G0 H G:Hp} {σ:L2.St} {ρ ρ1:Ro} {t:List Bool} {X:Cx} {e:Expr} {f:Ro->Option D} {pos:Pos}
theorem WR.thaw{i:Nat}(w:WR K l (wl t) H0 G0 σ H G ρ)(e:thw l i ρ t=some ρ1):∃H2 G1,SR K H2 G0 σ H G1 ρ1/\∀H' G',Gr H G1 H' G'->Gr H G H' G:=by
 unfold thw at e
 split at e
 ·rename_i c ks b h l' hi
  by_cases hl:l'=l
  ·rw[if_pos hl]at e
   cases e
   subst hl
   have s:=w.sr
   have gl:=w.no
   have ne:∀{a:Addr},H0 a=none->a≠l':=fun h z=>by rw[z,w.h0]at h;cases h
   have sm:Same G (upd G l' (wl t)):=fun b o e=>by rw[Yj (Yt e gl)];exact e
   refine⟨fun a=>if a=l' then none else H0 a,upd G l' (wl t),⟨⟨fun b o e=>?_,s.gr.g.trans sm,fun b o e=>?_,fun b h h'=>?_⟩,by simp[s.len],fun j d e=>?_,fun j m e=>?_,fun j k m m' a b' h1 h2 h3 h4 h5=>?_,fun j t1 ks vs e=>?_,fun j k ta ka va tb kb vb a b' h1 h2 h3 h4 h5=>?_⟩,fun H' G' g=>.back s.seen g⟩
   ·by_cases z:b=l'
    ·simp only[if_pos z]at e;cases e
    ·simp only[if_neg z]at e;exact s.gr.h b o e
   ·by_cases z:b=l'
    ·subst z;rw[Yl]at e;rw[<-e];exact w.at
    ·rw[Yj z]at e;exact s.gr.s b o e
   ·by_cases z:b=l'
    ·exact if_pos z
    ·rw[Yj z]at h'
     show(if b=l' then none else H0 b)=none
     rw[if_neg z];exact s.gr.n b h h'
   ·rcases Yi e with⟨rfl,e1,hlt⟩ | ⟨hj,e⟩
    ·cases e1
     obtain⟨v,q1,q2⟩:=s.sh j _ hi
     refine⟨v,q1,?_⟩
     rw[Rp]at q2 ⊢
     obtain⟨a,C,dx,xs,e1,n,g,lx,q⟩:=q2
     obtain⟨x,y,z,rfl,h1,h2,h3⟩:=q.three
     refine⟨a,C,dx,[x,y,z],e1,n,sm _ _ g,lx,.cons (h1.mono sm) (.cons (h2.mono sm) (.one ?_))⟩
     rw[Rp]at h3
     rw[Rp]
     exact⟨l',t.map V.bl,h3,.inl Yl,Yqx t⟩
    ·obtain⟨v,q1,q2⟩:=s.sh j d e
     exact⟨v,q1,q2.mono sm⟩
   ·rcases Yi e with⟨rfl,e1,_⟩ | ⟨hj,e⟩
    ·cases e1
    ·obtain⟨a,xs,q1,q2,q3,q4,q5⟩:=s.ow j m e
     exact⟨a,xs,q1,by rw[Yj (ne q3)];exact q2,by show(if a=l' then none else H0 a)=none;rw[if_neg (ne q3)];exact q3,q4,q5.mono sm⟩
   ·rcases Yi h1 with⟨rfl,e1,_⟩ | ⟨hj,h1⟩
    ·cases e1
    ·rcases Yi h2 with⟨rfl,e1,_⟩ | ⟨hk,h2⟩
     ·cases e1
     ·exact s.ap j k m m' a b' h1 h2 h3 h4 h5
   ·rcases Yi e with⟨rfl,e1,_⟩ | ⟨hj,e⟩
    ·cases e1
    ·obtain⟨a,kxs,vxs,q1,q2,q3,q4,q5,q6⟩:=s.od j t1 ks vs e
     exact⟨a,kxs,vxs,q1,by rw[Yj (ne q3)];exact q2,by show(if a=l' then none else H0 a)=none;rw[if_neg (ne q3)];exact q3,q4.mono sm fun _ z=>z,q5.mono sm,q6.mono sm⟩
   ·rcases Yi h1 with⟨rfl,e1,_⟩ | ⟨hj,h1⟩
    ·cases e1
    ·rcases Yi h2 with⟨rfl,e1,_⟩ | ⟨hk,h2⟩
     ·cases e1
     ·exact s.apd j k ta ka va tb kb vb a b' h1 h2 h3 h4 h5
  ·rw[if_neg hl]at e
   cases e
 ·cases e
theorem Yvx(i:Nat){c:Expr}{fc:Ro->Option Bool}(h:MT X c fc):WT wl X l c fun ρ t=>(thw l i ρ t).bind fc:=PT.imp h fun σ H Q hx_=>by
 obtain⟨ρ,t,k,H0,G0,G,e,w,c⟩:=hx_
 obtain⟨ρ1,h1,h2⟩:=qa e
 obtain⟨H2,G1,s1,bk⟩:=w.thaw h1
 exact⟨ρ1,k,H2,G0,G1,h2,s1,fun H' G' g=>c H' G (bk H' G' g)⟩
def retL(l i:Nat)(f:Ro->Option D):Ro->List Bool->Option (OutW (List Bool)):=fun ρ t=>(thw l i ρ t).bind fun ρ1=>(f ρ1).bind fun d=>if Ysd d=true then some (.rt d t)else none
theorem Yvy(i:Nat)(h:ME X e f):WS wl X l (.Return (some e) pos) (retL l i f):=PS.imp (You h) fun F σ H hx_=>by
 obtain⟨ρ,t,out,H0,G0,G,e,w,c⟩:=hx_
 unfold retL at e
 obtain⟨ρ1,h1,e⟩:=qa e
 obtain⟨d,h2,e⟩:=qa e
 split at e
 ·rename_i hs
  cases e
  obtain⟨H2,G1,s1,bk⟩:=w.thaw h1
  exact⟨ρ1,d,H2,G0,G1,h2,s1,fun v H' G' g r=>c v H' G H0 (fun _ _=>rfl) w.h0 (w.sr.gr.trans (bk H' G' g)) (r.scal hs)⟩
 ·cases e
def appW(l i:Nat)(f:Ro->Option D):Ro->List Bool->Option (OutW (List Bool)):=fun ρ t=>match ρ[i]? with
 | some (some (.sh (.obj c ks [_,_,.adr l'])))=>if l'=l/\c="Watch"/\ks=wks/\t.length < 1000000 then (f ρ).bind fun
  | .bl k=>some (.nx ρ (t++[k]))
  | _=>none
  else none
 | _=>none
theorem Yy6(i:Nat){x:Str}{p1 p2 apos cpos:Pos}(k:CF X.K "Watch" "truths")(he:ME X e f)(hN:X.N[i]?=some x:=by rfl)(hv:Vis X.env.scope x:=by first | exact Or.inl rfl | exact Or.inr (Or.inl rfl) | exact Or.inr (Or.inr rfl))
 (hd:(x==("__debug__":Str))=false:=by decide) (hcd:(x==("__classdict__":Str))=false:=by decide) (hse:swapsWith (.Call (.Attribute (.Attribute (.Name x p1) "truths" p2) "append" apos) [e] [] cpos) none pos.line X.env=pure false:=by rfl)
 (hs:starEach [e] X.env=[(false,eval e X.env)]:=by rfl)
 (hfew:((backTo cpos (starEach [e] X.env)).all (fun x=>!x.1)&&(backToKw cpos (keywordEach [] X.env)).all (fun x=>x.1.isSome)&&decide ([e].length+([]:List Keyword).length+(if ([]:List Keyword).isEmpty then 0 else 1) < 30))=true:=by rfl)
 (hline:(apos.endLine==cpos.line)=true:=by rfl) (hbase:attributeBase (.Attribute (.Name x p1) "truths" p2) "append" X.env (eval (.Attribute (.Name x p1) "truths" p2) X.env)=eval (.Attribute (.Name x p1) "truths" p2) X.env:=by rfl)
 (hb1:attributeBase (.Name x p1) "truths" X.env (eval (.Name x p1) X.env)=eval (.Name x p1) X.env:=by rfl) :
 WS wl X l (.Expr (.Call (.Attribute (.Attribute (.Name x p1) "truths" p2) "append" apos) [e] [] cpos) pos) (appW l i f):=
 PS.imp (Yep (Ypb PySem.F.plainAttrs_list PySem.F.slot_list_append PySem.F.type_list_append Ye3 (Yo4 (Ydx hN hv hd hcd) hb1) (Ya7 he Yc4 hs) hbase hfew hline hs rfl) hse) fun F σ H hx_=>by
  obtain⟨ρ,t,out,H0,G0,G,e,w,c⟩:=hx_
  unfold appW at e
  split at e
  ·rename_i c' ks b h l' hi
   split at e
   ·rename_i hc
    obtain⟨rfl,rfl,rfl,ht⟩:=hc
    obtain⟨d,h2,e⟩:=qa e
    cases d with
    | bl kk=>
      cases e
      obtain⟨v,q1,q2⟩:=w.sr.sh i _ hi
      rw[Rp]at q2
      obtain⟨a,C,dx,xs,rfl,n,g,lx,q⟩:=q2
      obtain⟨y1,y2,y3,rfl,r1,r2,r3⟩:=q.three
      rw[Rp]at r3
      subst r3
      refine⟨_,q1,a,C,dx,_,.ref l',rfl,w.sr.seen _ _ g,(k C n).1,(k C n).2,rfl,.inl ⟨rfl,_,SqL.of w.at⟩,tOf.at h2 w.sr fun v H1 G1 g1 r1 s1=>?_⟩
      rw[Rp]at r1
      subst r1
      have w1:WR X.K l' (wl t) H0 G0 σ H1 G1 ρ:=⟨s1,w.g0,w.h0⟩
      refine⟨l',t.map V.bl,_,rfl,rfl,w1.at,?_,?_⟩
      ·rw[qe]
       exact Qb ht (Yeu (qs _))
      ·have w2:=w1.put (wl (t++[kk]))
       have e2:wl (t++[kk])=HO.lst (t.map V.bl++[V.bl kk]):=by
        show HO.lst ((t++[kk]).map V.bl)=_
        rw[List.map_append]
        rfl
       have:=c σ _ G1 _ (Off.put l' H0 _) w2
       rw[e2]at this
       exact this
    | _=>cases e
   ·cases e
  ·cases e
end
end
section
variable {K:W.Frag}
def spS(K:W.Frag)(g:Addr->Ro->List Bool->Option (OutW (List Bool))):Sp:=fun vs H Q _=>vs.length=2/\∃a l vb vh k b h t d C dx G,vs=[.ref a,.bl k]/\W.nsIn K mainGlobals "Watch"=some (some (.ref C))/\Same G H/\G a=some (.ins C dx (wks.zip [vb,vh,.ref l]))/\G l=none/\H l=some (wl t)/\Rp K G b vb/\Rp K G h vh/\
 g l [some (.sh (watD b h (.adr l))),some (.sh (.bl k))] t=some (.rt d (t++[k]))/\∀v H' G',(∀x o,x≠l->H x=some o->H' x=some o)->H' l=some (wl (t++[k]))->Rp K G' d v->Q v H'
section
variable {P:Program} {w:World} {mg:Str->Option Value} {base:Heap}
theorem Yqy{st:Stmt}{f:Addr}{fd:FuncData}{N:List Str}{k:Nat}{x q:Str}{ps:List Str}{g:Addr->Ro->List Bool->Option (OutW (List Bool))}(F:Fun K x q st f fd)(S:FnScope N ps (defScope st))(hn:N.length=2)(hp:ps.length=2)
 (hb:∀(l:Addr) (cdv:Value) (A:Around) (outer:List Env) (s:Shared) (H:Hp) (E:XK),Room k (A.deeper (envOfC q (defScope st) s.heap.objs.size f cdv))->WB wl (cxOf CX0 P w K mg base N q (defScope st) f cdv A outer s H E).nox l (defBody st) (g l)) :
 FnOk P w K mg base CX0 (k+1) f fd ps (spS K g):=by
 refine F.ok S (fun vs H Q E h=>by rw[h.1,hp]) fun cdv A outer s H vs Q E hr h=>?_
 obtain⟨hl,a,l,vb,vh,kk,b,h,t,d,C,dx,G,rfl,n,sm,ga,gl,hll,rb,rh,e,q⟩:=h
 refine⟨_,hb l cdv A outer s H E hr,?_⟩
 have r:RpL K G [watD b h (.adr l),.bl kk] [V.ref a,V.bl kk]:=.cons (by rw[Rp];exact⟨a,C,dx,[vb,vh,.ref l],rfl,n,ga,rfl,.cons rb (.cons rh (.one (by rw[Rp])))⟩) (.one (by rw[Rp]))
 have s0:SR K H G (start N [V.ref a,V.bl kk]) H G [some (.sh (watD b h (.adr l))),some (.sh (.bl kk))]:=by
  have:=SR.start (N:=N) sm r
  rw[hn]at this
  exact this
 exact⟨_,t,.rt d (t++[kk]),H,G,G,e,⟨s0,gl,hll⟩,fun v H' G' H1 f1 h1 g1 r1=>q v H' G' (fun x o hx ho=>g1.h _ _ (by rw[f1 x hx];exact ho)) (g1.h _ _ h1) r1⟩
end
end
section
variable {K:W.Frag}
def spI(K:W.Frag)(f1:Ro->Option Out)(f2 f3:Ro->Option D):Sp:=fun vs H Q _=>vs.length=3/\∃x C dx vb vh b h d2 d3 G,vs=[.ref x,vb,vh]/\W.nsIn K mainGlobals "Watch"=some (some (.ref C))/\H x=some (.ins C dx [])/\G x=none/\Same G H/\Rp K G b vb/\Rp K G h vh/\
 f1 [some (.sh (.adr x)),some (.sh b),some (.sh h)]=some (.nx [some (.sh (.adr x)),some (.sh b),some (.sh h)])/\f2 [some (.sh (.adr x)),some (.sh b),some (.sh h)]=some d2/\f3 [some (.sh (.adr x)),some (.sh b),some (.sh h)]=some d3/\
 ∀l y1 y2 H' G',(∀y o,y≠x->H y=some o->H' y=some o)->H' x=some (.ins C dx (wks.zip [y1,y2,.ref l]))->H l=none->l≠x->H' l=some (wl [])->G' l=none->G' x=none->Same G G'->Same G' H'->(∀y,G y=none->G' y≠none->H y=none)->Rp K G' d2 y1->Rp K G' d3 y2->Q .non H'
section
variable {P:Program} {w:World} {mg:Str->Option Value} {base:Heap}
theorem Yvz{st:Stmt}{f:Addr}{fd:FuncData}{N:List Str}{k:Nat}{x q:Str}{ps:List Str}{f1:Ro->Option Out}{f2 f3:Ro->Option D}(F:Fun K x q st f fd)(S:FnScope N ps (defScope st))(hn:N.length=3)(hp:ps.length=3)
 (k1:CF K "Watch" "book") (k2:CF K "Watch" "hands") (k3:CF K "Watch" "truths")
 (hb:∀(cdv:Value) (A:Around) (outer:List Env) (s:Shared) (H:Hp) (E:XK),Room k (A.deeper (envOfC q (defScope st) s.heap.objs.size f cdv))->PSs (cxOf CX0 P w K mg base N q (defScope st) f cdv A outer s H E).nox (defBody st) (tSeq (sOf K f1) (tSeq (sFld K (tVar 0) (tOf K f2) "book") (tSeq (sFld K (tVar 0) (tOf K f3) "hands") (sFld K (tVar 0) (tLst tNil) "truths"))))) :
 FnOk P w K mg base CX0 (k+1) f fd ps (spI K f1 f2 f3):=by
 refine F.ok S (fun vs H Q E h=>by rw[h.1,hp]) fun cdv A outer s H vs Q E hr h=>?_
 obtain⟨hl,x,C,dx,vb,vh,b,h,d2,d3,G,rfl,n,hx,gx,sm,rb,rh,e1,e2,e3,q⟩:=h
 refine⟨_,hb cdv A outer s H E hr,?_⟩
 have r:RpL K G [.adr x,b,h] [V.ref x,vb,vh]:=.cons (by rw[Rp]) (.cons rb (.one rh))
 have s0:SR K H G (start N [V.ref x,vb,vh]) H G [some (.sh (.adr x)),some (.sh b),some (.sh h)]:=by
  have:=SR.start (N:=N) sm r
  rw[hn]at this
  exact this
 refine⟨_,_,H,G,G,e1,s0,fun σ H1 G1 s1=>?_⟩
 have w1:WR K x (.ins C dx []) H G σ H1 G1 [some (.sh (.adr x)),some (.sh b),some (.sh h)]:=⟨s1,gx,hx⟩
 have self:∀{Ha Ga Hb Gb:Hp},SR K Ha Ga σ Hb Gb [some (.sh (.adr x)),some (.sh b),some (.sh h)]->σ[0]?=some (some (V.ref x)):=fun s=>by
  obtain⟨v,q1,q2⟩:=s.sh 0 _ rfl
  rw[Rp]at q2
  rw[q1,q2]
 refine tOf.at e2 s1 fun y1 H2 G2 g2 r2 s2=>?_
 have w2:WR K x (.ins C dx []) H G σ H2 G2 _:=⟨s2,gx,hx⟩
 refine⟨_,self s2,x,C,dx,[],rfl,w2.at,(k1 C n).1,(k1 C n).2,by decide,?_⟩
 have w3:=w2.put (.ins C dx (putF "book" y1 []))
 refine tOf.at e3 w3.sr fun y2 H4 G4 g4 r4 s4=>?_
 have w4:WR K x (.ins C dx (putF "book" y1 [])) _ G σ H4 G4 _:=⟨s4,gx,Yl⟩
 refine⟨_,self s4,x,C,dx,_,rfl,w4.at,(k2 C n).1,(k2 C n).2,by show 1 < 1000;decide,?_⟩
 have w5:=w4.put (.ins C dx (putF "hands" y2 (putF "book" y1 [])))
 refine⟨Nat.zero_le _,fun l hl5=>?_⟩
 have hlx:l≠x:=fun z=>by rw[z,Yl]at hl5;cases hl5
 have e6:(upd (upd H4 x (.ins C dx (putF "hands" y2 (putF "book" y1 [])))) l (.lst [])) x=some (.ins C dx (putF "hands" y2 (putF "book" y1 []))):=by
  rw[Yj (Ne.symm hlx),Yl]
 refine⟨_,self w5.sr,x,C,dx,_,rfl,e6,(k3 C n).1,(k3 C n).2,by show 2 < 1000;decide,?_⟩
 have g4l:G4 l=none:=w5.sr.seen.free hl5
 have keep:∀y o,y≠x->H y=some o->H4 y=some o:=fun y o hy ho=>by
  have:=w5.sr.gr.h y o (by rw[Yj hy,Yj hy];exact ho)
  rw[Yj hy]at this
  exact this
 have hlH:H l=none:=by
  cases z:H l with
  | none=>rfl
  | some o=>
    have:=keep l o hlx z
    rw[Yj hlx]at hl5
    rw[this]at hl5
    cases hl5
 refine q l y1 y2 _ G4 (fun y o hy ho=>?_) ?_ hlH hlx ?_ g4l w5.no (s1.gr.g.trans (g2.g.trans g4.g)) (fun y o ho=>?_) (fun y hy hy'=>?_) (r2.mono g4.g) r4
 ·have h1:=keep y o hy ho
  have hyl:y≠l:=fun z=>by rw[z,hlH]at ho;cases ho
  rw[Yj hy,Yj hyl,Yj hy]
  exact h1
 ·rw[Yl]
  rfl
 ·rw[Yj hlx,Yl]
  rfl
 ·have hyx:y≠x:=fun z=>by rw[z,w5.no]at ho;cases ho
  have hyl:y≠l:=fun z=>by rw[z,g4l]at ho;cases ho
  rw[Yj hyx,Yj hyl]
  exact w5.sr.seen y o ho
 ·have hyx:y≠x:=fun z=>hy' (by rw[z];exact w5.no)
  have:=w5.sr.gr.n y hy hy'
  rw[Yj hyx,Yj hyx]at this
  exact this
end
def ifP(p:Prop)(a:Option Out):Option Out:=@ite _ p (Classical.propDecidable p) a none
theorem Yqz{p:Prop}{a:Option Out}(h:p):ifP p a=a:=@if_pos p (Classical.propDecidable p) h _ _ _
theorem Ysm{p:Prop}{a:Option Out}{o:Out}(e:ifP p a=some o):p/\a=some o:=by
 by_cases h:p
 ·rw[Yqz h]at e
  exact⟨h,e⟩
 ·have:ifP p a=none:=@if_neg p (Classical.propDecidable p) h _ _ _
  rw[this]at e
  cases e
def Yoh(i:Nat)(is:List Nat)(f1:Ro->Option Out)(f2 f3 a1 a2:Ro->Option D)(g:Addr->Ro->List Bool->Option (OutW (List Bool))):Ro->Option Out:=fun ρ=>(a1 (frz is ρ)).bind fun b=>(a2 (frz is ρ)).bind fun h=>ifP ((∀x:Addr,f1 [some (.sh (.adr x)),some (.sh b),some (.sh h)]=some (.nx [some (.sh (.adr x)),some (.sh b),some (.sh h)]))/\∃d2 d3,(∀x:Addr,f2 [some (.sh (.adr x)),some (.sh b),some (.sh h)]=some d2/\f3 [some (.sh (.adr x)),some (.sh b),some (.sh h)]=some d3)/\plB d2=true/\plB d3=true/\∀l,∃t,g l (ρ.set i (some (.sh (watD d2 d3 (.adr l))))) []=some (.rt (.bl true) t)) (some (.rt (.bl true)))
section
variable {X:Cx} {l:Addr} {e1 e2:Expr} {a1 a2 f2 f3:Ro->Option D} {f1:Ro->Option Out} {pos:Pos} {sts:List Stmt}
theorem Yv0(i:Nat)(is:List Nat){k k':Nat}{C f:Addr}{fd:FuncData}{ps:List Str}{y:Str}{p1 p2 cpos:Pos}{g:Addr->Ro->List Bool->Option (OutW (List Bool))}(mk:Mk X.K C f)(hC:W.nsIn X.K mainGlobals "Watch"=some (some (.ref C)))(F:FnOk X.prog X.w X.K X.mg X.base CX0 k f fd ps (spI X.K f1 f2 f3))
 (hb:Binds X.K fd ps []) (hr:Room k' X.A) (hg:Gl X "Watch") (hm:X.mg "Watch"=some (.ref C)) (h1:ME X e1 a1) (h2:ME X e2 a2) (hN:X.N.Nodup) (rest:∀l,WB wl X l sts (g l)) (hk:k+1<=k':=by first | exact qs _ | lia)
 (hy:X.N[i]?=some y:=by rfl) (hx:Loc X.env.scope y:=by first | exact Or.inl rfl | exact Or.inr rfl) (hse:swapsWith (.Call (.Name "Watch" p2) [e1,e2] [] cpos) (some (.Name y p1)) pos.line X.env=pure false:=by rfl) (hf:X.fn y=true\/X.env.scope.names.lookup y=some .local:=by first | exact .inl rfl | exact .inr rfl)
 (hs1:starEach [e1,e2] X.env=(false,eval e1 X.env)::starEach [e2] X.env:=by rfl) (hs2:starEach [e2] X.env=(false,eval e2 X.env)::starEach [] X.env:=by rfl) (hpl:(backTo cpos (starEach [e2] X.env)).any (·.1)=false:=by rfl) :
 MB X (.Assign [.Name y p1] (.Call (.Name "Watch" p2) [e1,e2] [] cpos) pos::sts) (Yoh i is f1 f2 f3 a1 a2 g):=by
 have hrest:PSs X sts fun F σ H=>∃l,sOfW wl X.K l (g l) F σ H:=fun pins s σ H D I h=>by
  obtain⟨l,h⟩:=h
  exact rest l pins s σ H D I h
 refine PSs.imp (Ycq (Ymr hN hy hx (Yua (E:=E0) mk F (hr.mono hk) hg hm hb .nil Ype (Ya7 h1 (Ya7 h2 Yc4 hs2) hs1) (by decide) hs1 hpl) hse hf) hrest) fun F σ H hx_=>?_
 obtain⟨ρ,out,H0,G0,G,e,s,c⟩:=hx_
 unfold Yoh at e
 obtain⟨b,q1,e⟩:=qa e
 obtain⟨h,q2,e⟩:=qa e
 obtain⟨hc,e⟩:=Ysm e
 cases e
 obtain⟨c1,d2,d3,c2,p2,p3,c3⟩:=hc
 obtain⟨Gf,sf,ht⟩:=SR.frzT is s
 refine tOf.at q1 sf fun v1 Ha Ga ga ra sa=>tOf.at q2 sa fun v2 Hb Gb gb rb sb=>?_
 intro x dx hx0 hdx hne
 have ganb:Gr H Gf Hb Gb:=ga.trans gb
 have gbx:Gb x=none:=sb.seen.free hx0
 have smc:Same Gb (upd (upd Hb dx (.own x)) x (.ins C dx [])):=fun a o ho=>by
  have h1:a≠x:=fun z=>by rw[z,gbx]at ho;cases ho
  have h2:a≠dx:=fun z=>by rw[z,sb.seen.free hdx]at ho;cases ho
  rw[Yj h1,Yj h2]
  exact sb.seen a o ho
 refine⟨rfl,x,C,dx,v1,v2,b,h,d2,d3,Gb,rfl,hC,Yl,gbx,smc,ra.mono gb.g,rb,c1 x,(c2 x).1,(c2 x).2,fun l y1 y2 H' G' keep hx' hl0 hlx hl' gl' gx' g1 g2 g3 r1 r2=>⟨rfl,?_⟩⟩
 obtain⟨t,ht'⟩:=c3 l
 have hHb:Same H Hb:=ganb.h
 have hHx:H x=none:=hHb.free hx0
 have hHdx:H dx=none:=hHb.free hdx
 have hbl:Hb l=none:=by
  cases z:Hb l with
  | none=>rfl
  | some o=>
    have hld:l≠dx:=fun y=>by rw[y,hdx]at z;cases z
    rw[Yj hlx,Yj hld,z]at hl0
    cases hl0
 have hHl:H l=none:=hHb.free hbl
 have smH:Same H H':=fun a o ho=>by
  have n1:a≠x:=fun z=>by rw[z,hHx]at ho;cases ho
  have n2:a≠dx:=fun z=>by rw[z,hHdx]at ho;cases ho
  exact keep a o n1 (by rw[Yj n1,Yj n2];exact hHb a o ho)
 let G2:Hp:=fun a=>if H a=none then (if a=x then some (.ins C dx (wks.zip [y1,y2,.ref l]))else G' a)else G a
 have hGG2:Same G G2:=fun a o ho=>by
  have hH:H a≠none:=fun z=>by rw[s.seen _ _ ho]at z;cases z
  show(if H a=none then _ else G a)=some o
  rw[if_neg hH];exact ho
 have hG2H:Same G2 H':=fun a o ho=>by
  have ho:(if H a=none then (if a=x then some (.ins C dx (wks.zip [y1,y2,.ref l]))else G' a)else G a)=some o:=ho
  by_cases z:H a=none
  ·rw[if_pos z]at ho
   by_cases z2:a=x
   ·rw[if_pos z2]at ho
    rw[z2,hx']
    exact ho
   ·rw[if_neg z2]at ho
    exact g2 a o ho
  ·rw[if_neg z]at ho
   exact smH a o (s.seen a o ho)
 have gr:Gr H G H' G2:=⟨smH,hGG2,hG2H,fun a ha ha'=>by
  have ha':(if H a=none then (if a=x then some (.ins C dx (wks.zip [y1,y2,.ref l]))else G' a)else G a)≠none:=ha'
  refine Classical.byContradiction fun z=>?_
  rw[if_neg z]at ha'
  exact ha' ha⟩
 have tupG:∀b ys,G' b=some (HO.tup ys)->G2 b=some (HO.tup ys):=fun b ys hb=>by
  show(if H b=none then (if b=x then _ else G' b)else G b)=_
  by_cases z:H b=none
  ·rw[if_pos z]
   have n1:b≠x:=fun y=>by rw[y,gx']at hb;cases hb
   rw[if_neg n1];exact hb
  ·rw[if_neg z]
   refine ht b ys ?_
   have hb1:Gb b=some (HO.tup ys):=by
    cases q:Gb b with
    | none=>
      have h3:=g3 b q (by rw[hb];exact fun y=>nomatch y)
      have n1:b≠x:=fun y=>by rw[y,Yl]at h3;cases h3
      have n2:b≠dx:=fun y=>by rw[y,hHdx]at z;exact z rfl
      rw[Yj n1,Yj n2]at h3
      exact absurd (hHb.free h3) z
    | some o=>
      have:=g1 _ _ q
      rw[hb]at this
      cases this
      rfl
   cases q:Gf b with
   | none=>exact absurd (ganb.n b q (by rw[hb1];exact fun y=>nomatch y)) z
   | some o=>
     have:=ganb.g _ _ q
     rw[hb1]at this
     cases this
     rfl
 have s1:=s.grow gr
 have gl2:G2 l=none:=by
  show(if H l=none then (if l=x then _ else G' l)else G l)=none
  rw[if_pos hHl,if_neg hlx];exact gl'
 have hG0l:G0 l=none:=s1.gr.g.free gl2
 have hH0l:H0 l=none:=s.gr.h.free hHl
 have hw:Rp X.K G2 (watD d2 d3 (.adr l)) (.ref x):=by
  rw[Rp]
  refine⟨x,C,dx,[y1,y2,.ref l],rfl,hC,?_,rfl,.cons (r1.plain tupG p2) (.cons (r2.plain tupG p3) (.one (by rw[Rp])))⟩
  show(if H x=none then (if x=x then _ else G' x)else G x)=_
  rw[if_pos hHx,if_pos rfl]
 have s2:=s1.set_sh i hw
 refine⟨l,_,[],.rt (.bl true) t,upd H0 l (wl []),G0,G2,ht',⟨⟨⟨fun a o ho=>?_,s2.gr.g,s2.gr.s,fun a ha ha'=>?_⟩,s2.len,s2.sh,fun j m em=>?_,s2.ap,fun j t1 ks vs em=>?_,s2.apd⟩,hG0l,Yl⟩,fun v H4 G4 H5 f5 h5 g5 r5=>?_⟩
 ·by_cases z:a=l
  ·subst z;rw[Yl]at ho;rw[<-ho];exact hl'
  ·rw[Yj z]at ho;exact s2.gr.h a o ho
 ·have n1:a≠l:=fun z=>ha' (by rw[z];exact gl2)
  rw[Yj n1]
  exact s2.gr.n a ha ha'
 ·obtain⟨a,xs,z1,z2,z3,z4,z5⟩:=s2.ow j m em
  have n1:a≠l:=fun z=>by
   have hj:ρ[j]?=some (some (B.ow m)):=by
    rcases Yi em with⟨rfl,e9,_⟩ | ⟨_,em⟩
    ·cases e9
    ·exact em
   obtain⟨a',xs',w1,_,_,w4,_⟩:=s.ow j m hj
   have hne:j≠i:=fun y=>by
    rcases Yi em with⟨_,e9,_⟩ | ⟨hh,_⟩
    ·cases e9
    ·exact hh y
   rw[Qa (Ne.symm hne),w1]at z1
   cases z1
   rw[z,hHl]at w4
   cases w4
  exact⟨a,xs,z1,z2,by rw[Yj n1];exact z3,z4,z5⟩
 ·obtain⟨a,kxs,vxs,z1,z2,z3,z4,z5⟩:=s2.od j t1 ks vs em
  have n1:a≠l:=fun z=>by
   have hj:ρ[j]?=some (some (B.od t1 ks vs)):=by
    rcases Yi em with⟨rfl,e9,_⟩ | ⟨_,em⟩
    ·cases e9
    ·exact em
   obtain⟨a',kx',vx',w1,_,_,w4,_⟩:=s.od j t1 ks vs hj
   have hne:j≠i:=fun y=>by
    rcases Yi em with⟨_,e9,_⟩ | ⟨hh,_⟩
    ·cases e9
    ·exact hh y
   rw[Qa (Ne.symm hne),w1]at z1
   cases z1
   obtain⟨o',w5,_⟩:=w4.some
   rw[z,hHl]at w5
   cases w5
  exact⟨a,kxs,vxs,z1,z2,by rw[Yj n1];exact z3,z4,z5⟩
 ·refine c v H4 G4 ⟨fun a o ho=>?_,g5.g,g5.s,fun a ha ha'=>?_⟩ r5
  ·have n1:a≠l:=fun z=>by rw[z,hH0l]at ho;cases ho
   exact g5.h a o (by rw[f5 a n1,Yj n1];exact ho)
  ·have h6:=g5.n a ha ha'
   by_cases z:a=l
   ·rw[z];exact hH0l
   ·rw[f5 a z,Yj z]at h6
    exact h6
end
end
section
abbrev Wm:=Ro->List Bool->Option (OutW (List Bool))
structure ZWS(X:Cx)(l:Addr)(st:Stmt)(f:Wm):Prop where
 un:WS wl X l st f
structure ZWB(X:Cx)(l:Addr)(sts:List Stmt)(f:Wm):Prop where
 un:WB wl X l sts f
structure ZWT(X:Cx)(l:Addr)(c:Expr)(f:Ro->List Bool->Option Bool):Prop where
 un:WT wl X l c f
def Yjt(l i:Nat)(f:Ro->Option Bool):Ro->List Bool->Option Bool:=fun ρ t=>(thw l i ρ t).bind f
section
variable {X:Cx} {l:Addr} {st:Stmt} {sts:List Stmt} {fs gs:Wm} {pos apos:Pos} {tg e o:Expr} {gl:Ro->Option (List D)} {f fa fo:Ro->Option D} {c m:Str}
theorem zuS{f:Ro->Option Out}(h:ZS X st f):PS X st (sOf X.K f):=h.un
theorem zuE(h:ZE X e f):PE X e (tOf X.K f):=h.un
theorem Yed{f:Ro->Option Out}(h:ZS X st f):ZWS X l st (Yf5 f):=⟨Yvv h.un⟩
theorem Yju:ZWB X l [] nilW:=⟨Yy3⟩
theorem Yd2(h:ZWS X l st fs):ZWB X l [st] fs:=⟨Yy4 h.un⟩
theorem Ycc(h1:ZWS X l st fs)(h2:ZWB X l sts gs):ZWB X l (st::sts) (seqW fs gs):=⟨Yvw h1.un h2.un⟩
theorem Ygu(i:Nat){c:Expr}{f:Ro->Option Bool}(h:ZT X c f):ZWT X l c (Yjt l i f):=⟨Yvx i h.un⟩
theorem Ync{c:Expr}{a b:List Stmt}{fc:Ro->List Bool->Option Bool}(hc:ZWT X l c fc)(ha:ZWB X l a fs)(hb:ZWB X l b gs):ZWS X l (.If c a b pos) (ifW fc fs gs):=⟨y0l hc.un ha.un hb.un⟩
theorem Yv1{iter:Expr}{body:List Stmt}{gt:D->Ro->Option Ro}(hp:PassesOwn (model X.prog X.w) X.A X.env X.xe)(hc:X.calm=true)(hi:ZI X tg iter gl)(hg:ZG X tg gt)(hb:ZWB X l body fs)
 (hs:∀x,foldedSetIterable iter X.env x=pure x:=by intro _;rfl):ZWS X l (.For tg iter body [] pos) (Yog gl gt fs):=⟨Yy5 hp hc hi.un hg.un hb.un hs⟩
theorem Ynd(i:Nat)(h:ZE X e f):ZWS X l (.Return (some e) pos) (retL l i f):=⟨Yvy i h.un⟩
theorem Yv2(i:Nat){x:Str}{p1 p2 apos cpos:Pos}(k:CF X.K "Watch" "truths")(he:ZE X e f)(hN:X.N[i]?=some x:=by rfl)(hv:Vis X.env.scope x:=by first | exact Or.inl rfl | exact Or.inr (Or.inl rfl) | exact Or.inr (Or.inr rfl))
 (hd:(x==("__debug__":Str))=false:=by decide) (hcd:(x==("__classdict__":Str))=false:=by decide) (hse:swapsWith (.Call (.Attribute (.Attribute (.Name x p1) "truths" p2) "append" apos) [e] [] cpos) none pos.line X.env=pure false:=by rfl)
 (hs:starEach [e] X.env=[(false,eval e X.env)]:=by rfl)
 (hfew:((backTo cpos (starEach [e] X.env)).all (fun x=>!x.1)&&(backToKw cpos (keywordEach [] X.env)).all (fun x=>x.1.isSome)&&decide ([e].length+([]:List Keyword).length+(if ([]:List Keyword).isEmpty then 0 else 1) < 30))=true:=by rfl)
 (hline:(apos.endLine==cpos.line)=true:=by rfl) (hbase:attributeBase (.Attribute (.Name x p1) "truths" p2) "append" X.env (eval (.Attribute (.Name x p1) "truths" p2) X.env)=eval (.Attribute (.Name x p1) "truths" p2) X.env:=by rfl)
 (hb1:attributeBase (.Name x p1) "truths" X.env (eval (.Name x p1) X.env)=eval (.Name x p1) X.env:=by rfl) :
 ZWS X l (.Expr (.Call (.Attribute (.Attribute (.Name x p1) "truths" p2) "append" apos) [e] [] cpos) pos) (appW l i f):=⟨Yy6 i k he.un hN hv hd hcd hse hs hfew hline hbase hb1⟩
theorem Yci{f:Str}(k:CF X.K c f)(he:ZE X e fa)(hb:attributeBase e f X.env (eval e X.env)=eval e X.env:=by rfl):ZE X (.Attribute e f pos) (b1 fa (fldD c f)):=⟨Yy2 k he.un hb⟩
theorem Yd3{j k:Nat}{ps:List Str}{fn:List D->Option D}{pl:Sem Bool}(O:Okm X.prog X.w X.K X.mg X.base j c m ps (spOf X.K 1 fn))(hr:Room k X.A)(ho:ZE X o fo)(hj:j<=k:=by first | exact qs _ | lia)
 (ht:eval (.Call (.Attribute o m apos) [] [] pos) X.env=(do
  let ov <-eval o X.env
  standAt apos.atName
  let (f,first) <-holding [ov] (getMethod ov m pl)
  callWith pos f first (backTo pos (starEach [] X.env)) (backToKw pos (keywordEach [] X.env))):=by rfl):ZE X (.Call (.Attribute o m apos) [] [] pos) (b1 fo (mthD c m fn)):=⟨Ysl O hr ho.un hj ht⟩
def OkI(P:Program)(w:World)(K:W.Frag)(mg:Str->Option Value)(base:Heap)(k:Nat)(ps:List Str)(f1:Ro->Option Out)(f2 f3:Ro->Option D):Prop:=
 ∃C f fd,W.nsIn K mainGlobals "Watch"=some (some (.ref C))/\mg "Watch"=some (.ref C)/\Mk K C f/\FnOk P w K mg base CX0 k f fd ps (spI K f1 f2 f3)/\Binds K fd ps []
theorem Ysn(i:Nat)(is:List Nat){k k':Nat}{ps:List Str}{y:Str}{p1 p2 cpos:Pos}{e1 e2:Expr}{a1 a2 f2 f3:Ro->Option D}{f1:Ro->Option Out}{g:Addr->Wm}(O:OkI X.prog X.w X.K X.mg X.base k ps f1 f2 f3)
 (hr:Room k' X.A) (hg:Gl X "Watch") (h1:ZE X e1 a1) (h2:ZE X e2 a2) (hN:X.N.Nodup) (rest:∀l,ZWB X l sts (g l)) (hk:k+1<=k':=by first | exact qs _ | lia)
 (hy:X.N[i]?=some y:=by rfl) (hx:Loc X.env.scope y:=by first | exact Or.inl rfl | exact Or.inr rfl) (hse:swapsWith (.Call (.Name "Watch" p2) [e1,e2] [] cpos) (some (.Name y p1)) pos.line X.env=pure false:=by rfl) (hf:X.fn y=true\/X.env.scope.names.lookup y=some .local:=by first | exact .inl rfl | exact .inr rfl)
 (hs1:starEach [e1,e2] X.env=(false,eval e1 X.env)::starEach [e2] X.env:=by rfl) (hs2:starEach [e2] X.env=(false,eval e2 X.env)::starEach [] X.env:=by rfl) (hpl:(backTo cpos (starEach [e2] X.env)).any (·.1)=false:=by rfl) :
 ZB X (.Assign [.Name y p1] (.Call (.Name "Watch" p2) [e1,e2] [] cpos) pos::sts) (Yoh i is f1 f2 f3 a1 a2 g):=by
 obtain⟨C,f,fd,hC,hm,mk,F,hb⟩:=O
 exact⟨Yv0 i is mk hC F hb hr hg hm h1.un h2.un hN (fun l=>(rest l).un) hk hy hx hse hf hs1 hs2 hpl⟩
end
def Mq(K:W.Frag)(c m q:Str)(st:Stmt):Prop:=∃C f fd,W.nsIn K mainGlobals c=some (some (.ref C))/\Cls K C/\Meth K C m f/\Fun K m q st f fd
theorem mq_mk{K:W.Frag}{c m q:Str}{st:Stmt}{C f:Addr}{oc:Value}{od an:Option Addr}{osl:Array (Option Value)}{kV doc pm cdv ct:Value}(a:W.nsIn K mainGlobals c=some (some (.ref C)))(pg:W.plainGet K C Str.empty=true)(hd:W.hasDictIn K C=true)(po:W.plainOver K C=true)(sa:W.findIn K (.ref C) "__setattr__"=some (some (.builtin "object.__setattr__")))
 (i:W.findIn K (.ref C) m=some (some (.ref f))) (n:W.isFn K (.ref f)=true) (l:K.lookup f=some ⟨oc,od,.func (W.fnOf m q (defArgs st) (defBody st) (defScope st) .none kV doc pm an cdv ct),osl⟩) (cd:W.codeIn K cdv q=true) (k:W.keepIn K (.ref f)=true):Mq K c m q st:=
 ⟨C,f,_,a,⟨pg,hd,po,sa⟩,⟨i,n,k⟩,Ymv l cd k⟩
def Nq(K:W.Frag)(c f:Str):Prop:=∃C,W.nsIn K mainGlobals c=some (some (.ref C))/\Cls K C/\NoAttr K C f
theorem nq_mk{K:W.Frag}{c f:Str}{C:Addr}(a:W.nsIn K mainGlobals c=some (some (.ref C)))(pg:W.plainGet K C Str.empty=true)(hd:W.hasDictIn K C=true)(po:W.plainOver K C=true)(sa:W.findIn K (.ref C) "__setattr__"=some (some (.builtin "object.__setattr__")))(n:W.findIn K (.ref C) f=some none):Nq K c f:=
 ⟨C,a,⟨pg,hd,po,sa⟩,n⟩
theorem Nq.cf{K:W.Frag}{c f:Str}(h:Nq K c f):CF K c f:=fun C e=>by
 obtain⟨C',a,cl,n⟩:=h
 rw[a]at e
 cases e
 exact⟨cl,n⟩
def Iq(K:W.Frag)(st:Stmt):Prop:=∃C f fd,W.nsIn K mainGlobals "Watch"=some (some (.ref C))/\Mk K C f/\Fun K "__init__" "Watch.__init__" st f fd
theorem iq_mk{K:W.Frag}{st:Stmt}{C f:Addr}{oc:Value}{od an:Option Addr}{osl:Array (Option Value)}{kV doc pm cdv ct:Value}(a:W.nsIn K mainGlobals "Watch"=some (some (.ref C)))(mk:W.makesIn K C=true)(kc:W.keepIn K (.ref C)=true)
 (i:W.findIn K (.ref C) "__init__"=some (some (.ref f))) (n:W.isFn K (.ref f)=true) (l:K.lookup f=some ⟨oc,od,.func (W.fnOf "__init__" "Watch.__init__" (defArgs st) (defBody st) (defScope st) .none kV doc pm an cdv ct),osl⟩) (cd:W.codeIn K cdv "Watch.__init__"=true) (k:W.keepIn K (.ref f)=true):Iq K st:=
 ⟨C,f,_,a,⟨mk,i,n,kc⟩,Ymv l cd k⟩
def Bnm(x q:Str)(st:Stmt)(ps:List Str):Prop:=∀(kV doc pm:Value) (an:Option Addr) (cdv ct:Value) (us:List Value),us.length=ps.length->bindArgs (W.fnOf x q (defArgs st) (defBody st) (defScope st) .none kV doc pm an cdv ct) ⟨us,[]⟩=pure (ps.zip us)
section
variable {P:Program} {w:World} {K:W.Frag} {mg:Str->Option Value} {base:Heap}
theorem okmn{c x q:Str}{st:Stmt}{k n m:Nat}{N ps:List Str}{fb:Ro->Option Out}(F:Mq K c x q st)(S:FnScope N ps (defScope st))(hb:∀{f:Addr} {cdv:Value} {A:Around} {outer:List Env} {s:Shared} {H:Hp} {E:XK},Room k (A.deeper (envOfC q (defScope st) s.heap.objs.size f cdv))->ZB (cxOf CX0 P w K mg base N q (defScope st) f cdv A outer s H E).nox (defBody st) fb)(hn:N.length=n:=by rfl)(hm:ps.length=m:=by rfl)
 (B:Bnm x q st ps:=by(intro _ _ _ _ _ _ us hl;first | (obtain⟨_,rfl⟩:=len1 hl;rfl) | (obtain⟨_,_,rfl⟩:=len2 hl;rfl) | (obtain⟨_,_,_,rfl⟩:=len3 hl;rfl))):Okm P w K mg base (k+1) c x ps (spOf K m (runB m n fb)):=by
 obtain⟨C,f,fd,a,cl,me,fu⟩:=F
 exact⟨C,f,fd,Yf3 (k:=k) fu S hn hm fun _ _ _ _ _ _ hr=>hb hr,fu.binds B,a,cl,me⟩
theorem okms{c x q:Str}{st:Stmt}{k:Nat}{N ps:List Str}{g:Addr->Wm}(F:Mq K c x q st)(S:FnScope N ps (defScope st))(hb:∀{l:Addr} {f:Addr} {cdv:Value} {A:Around} {outer:List Env} {s:Shared} {H:Hp} {E:XK},Room k (A.deeper (envOfC q (defScope st) s.heap.objs.size f cdv))->ZWB (cxOf CX0 P w K mg base N q (defScope st) f cdv A outer s H E).nox l (defBody st) (g l))(hn:N.length=2:=by rfl)(hm:ps.length=2:=by rfl)
 (B:Bnm x q st ps:=by(intro _ _ _ _ _ _ us hl;obtain⟨_,_,rfl⟩:=len2 hl;rfl)):Okm P w K mg base (k+1) c x ps (spS K g):=by
 obtain⟨C,f,fd,a,cl,me,fu⟩:=F
 exact⟨C,f,fd,Yqy fu S hn hm fun _ _ _ _ _ _ _ hr=>(hb hr).un,fu.binds B,a,cl,me⟩
theorem okin{st:Stmt}{k:Nat}{N ps:List Str}{f1:Ro->Option Out}{f2 f3:Ro->Option D}(F:Iq K st)(hW:∀C,W.nsIn K mainGlobals "Watch"=some (some (.ref C))->mg "Watch"=some (.ref C))(S:FnScope N ps (defScope st))(k1:CF K "Watch" "book")(k2:CF K "Watch" "hands")(k3:CF K "Watch" "truths")
 (hb:∀{f:Addr} {cdv:Value} {A:Around} {outer:List Env} {s:Shared} {H:Hp} {E:XK},Room k (A.deeper (envOfC "Watch.__init__" (defScope st) s.heap.objs.size f cdv))->PSs (cxOf CX0 P w K mg base N "Watch.__init__" (defScope st) f cdv A outer s H E).nox (defBody st) (tSeq (sOf K f1) (tSeq (sFld K (tVar 0) (tOf K f2) "book") (tSeq (sFld K (tVar 0) (tOf K f3) "hands") (sFld K (tVar 0) (tLst tNil) "truths"))))) (hn:N.length=3:=by rfl) (hm:ps.length=3:=by rfl)
 (B:Bnm "__init__" "Watch.__init__" st ps:=by(intro _ _ _ _ _ _ us hl;obtain⟨_,_,_,rfl⟩:=len3 hl;rfl)):OkI P w K mg base (k+1) ps f1 f2 f3:=by
 obtain⟨C,f,fd,a,mk,fu⟩:=F
 exact⟨C,f,fd,a,hW C a,mk,Yvz fu S hn hm k1 k2 k3 fun _ _ _ _ _ _ hr=>hb hr,fu.binds B⟩
end
end
section
section
variable {X:Cx} {a:Expr} {fa:Ro->Option D} {pos px:Pos} {x:Str} {ks:List Str}
theorem Yy7(hu:X.A.units+64 < cLine){p:Addr}{o:Obj}{its:Array Value}{n:Nat}(hl:X.K.lookup p=some o)(hc:o.cls=.type "tuple")(hd:o.data=.seq its n)(hs:Yvh its.toList ks):OpR X (compareOp .In) (rInG p ks false):=by
 intro pins s σ H x y v u Q I rx ry h
 obtain⟨k,rfl,hk,rfl,q⟩:=h
 cases ry
 obtain⟨t,rfl⟩:=rx
 obtain⟨as,h1,h2⟩:=Yio (h:=s.heap) hs
 have ht:Reads s.heap (.ref p) (.tuple (ks.map PyData.str)) _:=.tuple (I.kIn p o hl) hc hd h1
 refine SeqAt.in_tuple_reads ht (.str k t) (by simpa [PyData.canLay0]using h2) (by simp[PyData.canLay0,hk]) ?_ ⟨.bl _,H,I,rfl,?_⟩
 ·have e:(PyData.str k).depth=0:=by simp[PyData.depth]
  rw[e]
  lia
 ·rw[Yqg]
  have e:decide (k∈ks)=(decide (k∈ks) != false):=by cases decide (k∈ks)<;>rfl
  rw[e]
  exact q
theorem Yv3(hu:X.A.units+64 < cLine)(g:GT X.K X.mg x ks)(hg:Gl X x)(ha:ZC X a fa)(hm:behindInMarks .In (.Name x px)=false:=by with_unfolding_all rfl)(hd:(x==("__debug__":Str))=false:=by decide):ZE X (.Compare a [.In] [.Name x px] pos) (mB (b1 fa (inG false ks))):=by
 obtain⟨p,o,its,n,hmg,hl,hc,hdt,hs⟩:=g
 refine⟨PE.imp (Yo0 (Yy7 hu hl hc hdt hs) ha.un (Yot (v:=.ref p) hg hmg rfl hd) hm) fun σ H Q hx_=>?_⟩
 obtain⟨ρ,b,H0,G0,G,e,s,h⟩:=hx_
 obtain⟨k,ek,rfl⟩:=Ylw e
 obtain⟨d,h1,h2⟩:=Ya8 ek
 refine tCof.at h1 s fun v H1 G1 g1 r1 s1=>?_
 unfold inG at h2
 split at h2
 ·rename_i k
  cases h2
  rw[Ct]at r1
  exact⟨k,r1.1,r1.2,rfl,h _ H1 G1 g1 (by rw[Rp])⟩
 ·cases h2
end
end
section
variable {K:W.Frag}
def Offs(ks:List Addr)(H H':Hp):Prop:=∀a,a∉ks->H' a=H a
abbrev Ts:=List (List Bool)
def Rps(ks:List Addr)(ts:Ts)(H:Hp):Prop:=ks.length=ts.length/\∀(i:Nat) a t,ks[i]?=some a->ts[i]?=some t->H a=some (wl t)
structure WM(K:W.Frag)(ks:List Addr)(ts:Ts)(H0 G0:Hp)(σ:L2.St)(H G:Hp)(ρ:Ro):Prop where
 sr:SR K H0 G0 σ H G ρ
 nd:ks.Nodup
 g0:∀a∈ks,G0 a=none
 h0:Rps ks ts H0
def y0m(K:W.Frag)(ks:List Addr)(H0 G0:Hp)(F:Ends):OutW Ts->Prop
 | .nx ρ' t=>∀σ' H' G' H1,Offs ks H0 H1->WM K ks t H1 G0 σ' H' G' ρ'->F.nx σ' H'
 | .rt d _=>∀v H' G' H1,Offs ks H0 H1->Gr H1 G0 H' G'->Rp K G' d v->F.rt v H'
 | .bk ρ' t=>∀σ' H' G' H1,Offs ks H0 H1->WM K ks t H1 G0 σ' H' G' ρ'->F.bk σ' H'
 | .ct ρ' t=>∀σ' H' G' H1,Offs ks H0 H1->WM K ks t H1 G0 σ' H' G' ρ'->F.ct σ' H'
abbrev Xm:=Ro->Ts->Option (OutW Ts)
def sOfM(K:W.Frag)(ks:List Addr)(f:Xm):TS:=fun F σ H=>∃ρ t out H0 G0 G,f ρ t=some out/\WM K ks t H0 G0 σ H G ρ/\y0m K ks H0 G0 F out
structure XS(X:Cx)(ks:List Addr)(st:Stmt)(f:Xm):Prop where
 un:PS X st (sOfM X.K ks f)
structure XB(X:Cx)(ks:List Addr)(sts:List Stmt)(f:Xm):Prop where
 un:PSs X sts (sOfM X.K ks f)
structure XT(X:Cx)(ks:List Addr)(c:Expr)(f:Ro->Ts->Option Bool):Prop where
 un:PT X c fun σ H Q=>∃ρ t k H0 G0 G,f ρ t=some k/\WM X.K ks t H0 G0 σ H G ρ/\∀H' G',Gr H G H' G'->Q k H'
end
section
variable {K:W.Frag}
end
section
variable {K:W.Frag}
theorem Yv4{t:List Bool}{k:Bool}(h:t.getLast?=some k):(t.map V.bl)[(t.map V.bl).length - 1]?=some (V.bl k):=by
 rw[Qc,qe,<-List.getLast?_eq_getElem?,h]
 rfl
theorem Yv5(t:List Bool):(t.map V.bl).dropLast=(t.dropLast).map V.bl:=by rw[List.map_dropLast]
section
variable {X:Cx} {ks:List Addr} {e r:Expr} {f fr:Ro->Option D} {pos:Pos} {P:Program} {w:World} {mg:Str->Option Value} {base:Heap}
def spB(K:W.Frag)(g:Addr->Wm):Sp:=fun vs H Q _=>vs.length=1/\∃a l vb vh b h t d t' C dx G,vs=[.ref a]/\W.nsIn K mainGlobals "Watch"=some (some (.ref C))/\Same G H/\G a=some (.ins C dx (wks.zip [vb,vh,.ref l]))/\G l=none/\H l=some (wl t)/\Rp K G b vb/\Rp K G h vh/\
 g l [some (.sh (watD b h (.adr l)))] t=some (.rt d t')/\∀v H' G',(∀x o,x≠l->H x=some o->H' x=some o)->H' l=some (wl t')->Rp K G' d v->Q v H'
def Yne(l i:Nat):Wm:=fun ρ t=>match ρ[i]? with
 | some (some (.sh (.obj c fs [_,_,.adr l'])))=>if l'=l/\c="Watch"/\fs=wks then (t.getLast?).bind fun k=>some (.rt (.bl k) t.dropLast)else none
 | _=>none
theorem Yoi{l:Addr}(i:Nat){x:Str}{p1 p2 apos cpos:Pos}(k:CF X.K "Watch" "truths")(hN:X.N[i]?=some x:=by rfl)(hv:Vis X.env.scope x:=by first | exact Or.inl rfl | exact Or.inr (Or.inl rfl) | exact Or.inr (Or.inr rfl))
 (hd:(x==("__debug__":Str))=false:=by decide) (hcd:(x==("__classdict__":Str))=false:=by decide)
 (hline:(apos.endLine==cpos.line)=true:=by rfl) (hbase:attributeBase (.Attribute (.Name x p1) "truths" p2) "pop" X.env (eval (.Attribute (.Name x p1) "truths" p2) X.env)=eval (.Attribute (.Name x p1) "truths" p2) X.env:=by rfl)
 (hb1:attributeBase (.Name x p1) "truths" X.env (eval (.Name x p1) X.env)=eval (.Name x p1) X.env:=by rfl) :
 ZWS X l (.Return (some (.Call (.Attribute (.Attribute (.Name x p1) "truths" p2) "pop" apos) [] [] cpos)) pos) (Yne l i):=
 ⟨PS.imp (You (Yxe PySem.F.plainAttrs_list PySem.F.slot_list_pop PySem.F.type_list_pop Yxf (Yo4 (Ydx hN hv hd hcd) hb1) hbase hline)) fun F σ H hx_=>by
  obtain⟨ρ,t,out,H0,G0,G,e,w,c⟩:=hx_
  unfold Yne at e
  split at e
  ·rename_i c' fs b h l' hi
   split at e
   ·rename_i hc
    obtain⟨rfl,rfl,rfl⟩:=hc
    obtain⟨kk,h3,e⟩:=qa e
    cases e
    obtain⟨v,q1,q2⟩:=w.sr.sh i _ hi
    rw[Rp]at q2
    obtain⟨a,C,dx,xs,rfl,n,g,lx,q⟩:=q2
    obtain⟨y1,y2,y3,rfl,r1,r2,r3⟩:=q.three
    rw[Rp]at r3
    subst r3
    refine⟨_,q1,a,C,dx,_,.ref l',rfl,w.sr.seen _ _ g,(k C n).1,(k C n).2,rfl,.inl ⟨rfl,_,SqL.of w.at⟩,l',t.map V.bl,.bl kk,rfl,rfl,w.at,Yv4 h3,?_⟩
    have w2:=w.put (wl t.dropLast)
    rw[Yv5]
    exact c _ _ G _ (Off.put l' H0 _) w2.h0 w2.sr.gr (by rw[Rp])
   ·cases e
  ·cases e⟩
theorem Yv6{st:Stmt}{f:Addr}{fd:FuncData}{N:List Str}{k:Nat}{x q:Str}{ps:List Str}{g:Addr->Wm}(F:Fun K x q st f fd)(S:FnScope N ps (defScope st))(hn:N.length=1)(hp:ps.length=1)
 (hb:∀(l:Addr) (cdv:Value) (A:Around) (outer:List Env) (s:Shared) (H:Hp) (E:XK),Room k (A.deeper (envOfC q (defScope st) s.heap.objs.size f cdv))->WB wl (cxOf CX0 P w K mg base N q (defScope st) f cdv A outer s H E).nox l (defBody st) (g l)) :
 FnOk P w K mg base CX0 (k+1) f fd ps (spB K g):=by
 refine F.ok S (fun vs H Q E h=>by rw[h.1,hp]) fun cdv A outer s H vs Q E hr h=>?_
 obtain⟨hl,a,l,vb,vh,b,h,t,d,t',C,dx,G,rfl,n,sm,ga,gl,hll,rb,rh,e,q⟩:=h
 refine⟨_,hb l cdv A outer s H E hr,?_⟩
 have r:RpL K G [watD b h (.adr l)] [V.ref a]:=.one (by rw[Rp];exact⟨a,C,dx,[vb,vh,.ref l],rfl,n,ga,rfl,.cons rb (.cons rh (.one (by rw[Rp])))⟩)
 have s0:SR K H G (start N [V.ref a]) H G [some (.sh (watD b h (.adr l)))]:=by
  have:=SR.start (N:=N) sm r
  rw[hn]at this
  exact this
 exact⟨_,t,.rt d t',H,G,G,e,⟨s0,gl,hll⟩,fun v H' G' H1 f1 h1 g1 r1=>q v H' G' (fun x o hx ho=>g1.h _ _ (by rw[f1 x hx];exact ho)) (g1.h _ _ h1) r1⟩
theorem okmb{c x q:Str}{st:Stmt}{k:Nat}{N ps:List Str}{g:Addr->Wm}(F:Mq K c x q st)(S:FnScope N ps (defScope st))(hb:∀{l:Addr} {f:Addr} {cdv:Value} {A:Around} {outer:List Env} {s:Shared} {H:Hp} {E:XK},Room k (A.deeper (envOfC q (defScope st) s.heap.objs.size f cdv))->ZWB (cxOf CX0 P w K mg base N q (defScope st) f cdv A outer s H E).nox l (defBody st) (g l))(hn:N.length=1:=by rfl)(hm:ps.length=1:=by rfl)
 (B:Bnm x q st ps:=by(intro _ _ _ _ _ _ us hl;obtain⟨_,rfl⟩:=len1 hl;rfl)):Okm P w K mg base (k+1) c x ps (spB K g):=by
 obtain⟨C,f,fd,a,cl,me,fu⟩:=F
 exact⟨C,f,fd,Yv6 fu S hn hm fun _ _ _ _ _ _ _ hr=>(hb hr).un,fu.binds B,a,cl,me⟩
end
end
section
def Yoj(l i:Nat)(f:Ro->Option D)(g:Addr->Ro->List Bool->Option (OutW (List Bool))):Ro->List Bool->Option (OutW (List Bool)):=fun ρ t=>match ρ[i]? with
 | some (some (.sh (.obj c ks [b,h,.adr l'])))=>if l'=l/\c="Watch"/\ks=wks then (f ρ).bind fun
  | .bl k=>(g l [some (.sh (watD b h (.adr l))),some (.sh (.bl k))] t).bind fun
    | .rt d t'=>if t'=t++[k]then some (.nx ρ t')else none
    | _=>none
  | _=>none
  else none
 | _=>none
section
variable {X:Cx} {l:Addr} {e:Expr} {f:Ro->Option D} {pos:Pos}
theorem Yok(i:Nat){j' k:Nat}{x:Str}{ps:List Str}{p2 apos cpos:Pos}{pl:Sem Bool}{g:Addr->Ro->List Bool->Option (OutW (List Bool))}(O:Okm X.prog X.w X.K X.mg X.base j' "Watch" "settle" ps (spS X.K g))(hr:Room k X.A)(he:ME X e f)
 (hj:j'<=k:=by first | exact qs _ | lia) (hi:X.N[i]?=some x:=by rfl) (hv:Vis X.env.scope x:=by first | exact Or.inl rfl | exact Or.inr (Or.inl rfl) | exact Or.inr (Or.inr rfl))
 (hd:(x==("__debug__":Str))=false:=by decide) (hcd:(x==("__classdict__":Str))=false:=by decide)
 (hse:swapsWith (.Call (.Attribute (.Name x p2) "settle" apos) [e] [] cpos) none pos.line X.env=pure false:=by rfl)
 (hst:starEach [e] X.env=(false,eval e X.env)::starEach [] X.env:=by rfl) (hpl:(backTo cpos (starEach [] X.env)).any (·.1)=false:=by rfl)
 (ht:eval (.Call (.Attribute (.Name x p2) "settle" apos) [e] [] cpos) X.env=(do
  let ov <-eval (.Name x p2) X.env
  standAt apos.atName
  let (f,first) <-holding [ov] (getMethod ov "settle" pl)
  callWith cpos f first (backTo cpos (starEach [e] X.env)) (backToKw cpos (keywordEach [] X.env))):=by rfl) :
 WS wl X l (.Expr (.Call (.Attribute (.Name x p2) "settle" apos) [e] [] cpos) pos) (Yoj l i f g):=by
 obtain⟨C,fa,fd,F,hb,hn,cl,me⟩:=O
 refine PS.imp (Yep (Yt9 (E:=E0) (Ydx hi hv hd hcd) cl me F (hr.mono hj) hb .nil Ype (Ya7 he Yc4 hst) hst hpl ht) hse) fun F σ H hx_=>?_
 obtain⟨ρ,t,out,H0,G0,G,e,w,c⟩:=hx_
 unfold Yoj at e
 split at e
 ·rename_i c' ks b h l' hi'
  split at e
  ·rename_i hc
   obtain⟨rfl,rfl,rfl⟩:=hc
   obtain⟨d0,h2,e⟩:=qa e
   cases d0 with
   | bl kk=>
     obtain⟨o2,h3,e⟩:=qa e
     cases o2 with
     | rt d t'=>
       dsimp only at e
       split at e
       ·rename_i hsc
        subst hsc
        cases e
        obtain⟨v,q1,q2⟩:=w.sr.sh i _ hi'
        rw[Rp]at q2
        obtain⟨a,C',dx,xs,rfl,n,ga,lx,q⟩:=q2
        rw[hn]at n
        cases n
        obtain⟨y1,y2,y3,rfl,r1,r2,r3⟩:=q.three
        rw[Rp]at r3
        subst r3
        refine⟨_,q1,a,dx,_,rfl,w.sr.seen _ _ ga,rfl,tOf.at h2 w.sr fun v H1 G1 g1 rv s1=>?_⟩
        rw[Rp]at rv
        subst rv
        have w1:WR X.K l' (wl t) H0 G0 σ H1 G1 ρ:=⟨s1,w.g0,w.h0⟩
        refine⟨rfl,a,l',y1,y2,kk,b,h,t,d,C,dx,G1,rfl,hn,s1.seen,g1.g _ _ ga,w1.no,w1.at,r1.mono g1.g,r2.mono g1.g,h3,fun v H' G' keep hl' rd=>?_⟩
        have w2:=w1.put (wl (t++[kk]))
        have sm:Same (upd H1 l' (wl (t++[kk]))) H':=fun x o ho=>by
         by_cases z:x=l'
         ·subst z;rw[Yl]at ho;rw[<-ho];exact hl'
         ·rw[Yj z]at ho;exact keep x o z ho
        have w3:SR X.K (upd H0 l' (wl (t++[kk]))) G0 σ H' G1 ρ:=w2.sr.grow ⟨sm,Same.refl _,w2.sr.seen.trans sm,fun _ h h'=>absurd h h'⟩
        exact c _ H' G1 _ (Off.put l' H0 _) ⟨w3,w.g0,Yl⟩
       ·cases e
     | _=>cases e
   | _=>cases e
  ·cases e
 ·cases e
theorem Yl9(i:Nat){j' k:Nat}{x:Str}{ps:List Str}{p2 apos cpos:Pos}{pl:Sem Bool}{g:Addr->Wm}(O:Okm X.prog X.w X.K X.mg X.base j' "Watch" "settle" ps (spS X.K g))(hr:Room k X.A)(he:ZE X e f)
 (hj:j'<=k:=by first | exact qs _ | lia) (hi:X.N[i]?=some x:=by rfl) (hv:Vis X.env.scope x:=by first | exact Or.inl rfl | exact Or.inr (Or.inl rfl) | exact Or.inr (Or.inr rfl))
 (hd:(x==("__debug__":Str))=false:=by decide) (hcd:(x==("__classdict__":Str))=false:=by decide) (hse:swapsWith (.Call (.Attribute (.Name x p2) "settle" apos) [e] [] cpos) none pos.line X.env=pure false:=by rfl)
 (hst:starEach [e] X.env=(false,eval e X.env)::starEach [] X.env:=by rfl) (hpl:(backTo cpos (starEach [] X.env)).any (·.1)=false:=by rfl)
 (ht:eval (.Call (.Attribute (.Name x p2) "settle" apos) [e] [] cpos) X.env=(do
  let ov <-eval (.Name x p2) X.env
  standAt apos.atName
  let (f,first) <-holding [ov] (getMethod ov "settle" pl)
  callWith cpos f first (backTo cpos (starEach [e] X.env)) (backToKw cpos (keywordEach [] X.env))):=by rfl) :
 ZWS X l (.Expr (.Call (.Attribute (.Name x p2) "settle" apos) [e] [] cpos) pos) (Yoj l i f g):=⟨Yok i O hr he.un hj hi hv hd hcd hse hst hpl ht⟩
end
end
section
theorem Yhh(s:String):PyData.strOk (Str.ofString s)=true:=by
 rw[Str.ofString_eq_toList]
 unfold PyData.strOk
 simp only[List.all_toArray,List.all_map,List.all_eq_true,Function.comp_apply,decide_eq_true_eq]
 intro c _
 have h:=c.valid
 have e:c.toNat=c.val.toNat:=rfl
 rcases h with h | h
 ·have h:c.val.toNat < 0xd800:=h
  lia
 ·have h2:c.val.toNat < 0x110000:=h.2
  lia
theorem Ynf(a b:Str):PyData.strOk (a++b)=(PyData.strOk a&&PyData.strOk b):=by
 show(a.cps++b.cps).all _=_
 unfold PyData.strOk
 rw[Array.all_append]
theorem Yq0{sep:Str}(hs:PyData.strOk sep=true):∀(l:List Str) (acc:Array Nat),PyData.strOk ⟨acc⟩=true->(∀x∈l,PyData.strOk x=true)->PyData.strOk ⟨l.foldl (fun acc p=>acc++sep.cps++p.cps) acc⟩=true
 | [],_,h,_=>h
 | x::l,acc,h,hl=>by
   rw[List.foldl_cons]
   refine Yq0 hs l _ ?_ fun y hy=>hl y (.tail _ hy)
   have e:PyData.strOk ⟨acc++sep.cps++x.cps⟩=PyData.strOk (((⟨acc⟩:Str)++sep)++x):=rfl
   rw[e,Ynf,Ynf,h,hs,hl x (.head _)]
   rfl
theorem Yv7{sep:Str}(hs:PyData.strOk sep=true){l:List Str}(hl:∀x∈l,PyData.strOk x=true):PyData.strOk (Txt.join sep l)=true:=by
 cases l with
 | nil=>show PyData.strOk ⟨Str.empty.cps⟩=true;decide +kernel
 | cons x l=>exact Yq0 hs l x.cps (hl x (.head _)) fun y hy=>hl y (.tail _ hy)
theorem Yq1(a b:Str):(a++b).length=a.length+b.length:=by
 show(a.cps++b.cps).size=_
 rw[Array.size_append]
 rfl
theorem Yng{sep:Str}:∀(l:List Str) (acc:Array Nat),(l.foldl (fun acc p=>acc++sep.cps++p.cps) acc).size=acc.size+(l.map fun x:Str=>sep.length+x.length).sum
 | [],_=>by simp
 | x::l,acc=>by
   rw[List.foldl_cons,Yng l]
   simp[Str.length]
   lia
theorem Ynh(sep:Str)(l:List Str):(Txt.join sep l).length<=(l.map fun x:Str=>sep.length+x.length).sum:=by
 cases l with
 | nil=>exact Nat.zero_le _
 | cons x l=>
   show(l.foldl (fun acc p=>acc++sep.cps++p.cps) x.cps).size<=_
   rw[Yng]
   simp[Str.length]
theorem Yk5(sep:Str):∀(l:List Str) (n:Nat),l.foldl (fun(a:Nat) (s:Str)=>a+s.length+sep.length) n=n+(l.map fun x:Str=>sep.length+x.length).sum
 | [],n=>by simp
 | x::l,n=>by
   rw[List.foldl_cons,Yk5 sep l]
   simp
   lia
theorem Yq2{sep:Str}{l:List Str}(h:(l.map fun x:Str=>sep.length+x.length).sum<=16000000):JoinOk sep l=true:=by
 unfold JoinOk
 rw[Bool.not_eq_true']
 unfold Builtin.Str.tooLong
 rw[List.foldl_toArray,Yk5]
 have:=sizeLine_eq
 simp
 lia
def strC:List D->Option D
 | [.int i]=>if i.natAbs < 2 ^ 64 then some (.str (Str.ofString (toString i)))else none
 | _=>none
def Yol:List D->Option (List Str)
 | []=>some []
 | .str x::l=>(Yol l).map (x::·)
 | _=>none
def Yfh(sep:Str):List D->Option D
 | [.lst l]=>(Yol l).bind fun xs=>if JoinOk sep xs=true then some (.str (Txt.join sep xs))else none
 | _=>none
def fsD(x:Str):D->Option D
 | .int i=>if i.natAbs < 2 ^ 64/\(x++Str.ofString (toString i)).length<=1000000 then some (.str (x++Str.ofString (toString i)))else none
 | _=>none
def addS:D->D->Option D
 | .str a,.str b=>if a.length+b.length<=1000000 then some (.str (a++b))else none
 | _,_=>none
def ixS:D->D->Option D
 | .str z,.int i=>if z.length<=1000000 then (atI z.cps.toList i).map fun c=>.str ⟨#[c]⟩else none
 | _,_=>none
theorem Yk6{i:Int}(h:i.natAbs < 2 ^ 64):i.natAbs.log2 < 1920:=by
 by_cases h0:i.natAbs=0
 ·rw[h0];decide
 ·exact Nat.lt_trans ((Nat.log2_lt h0).mpr h) (by decide)
section
variable {K:W.Frag} {X:Cx} {e a b:Expr} {fa fb:Ro->Option D} {ga:Ro->Option (List D)} {pos cpos apos p p2:Pos}
theorem Yfi:SemC K (fun xs H Q=>∃i,xs=[.int i]/\i.natAbs.log2 < 1920/\Q (.str (Str.ofString (toString i))) H) strC:=by
 intro vs ds d H G Q h s r q
 match ds,h,r with
 | [.int i],h,r=>
   change (if i.natAbs < 2 ^ 64 then some (D.str (Str.ofString (toString i)))else none)=some d at h
   by_cases hi:i.natAbs < 2 ^ 64
   ·rw[if_pos hi]at h
    cases h
    obtain⟨v,rfl,rv⟩:=Ycx r
    rw[Ct]at rv
    subst rv
    exact⟨i,rfl,Yk6 hi,q _ H G (.refl s) (by rw[Rp];exact⟨rfl,Yhh _⟩)⟩
   ·rw[if_neg hi]at h
    cases h
theorem Yso:Sem2 K (fun x y H Q=>∃i j,x=.str i/\y=.str j/\i.length+j.length<=sizeLine/\Q (.str (i++j)) H) addS:=by
 intro x y dx dy d H G Q h s rx ry q
 match dx,dy,h,rx,ry with
 | .str a,.str b,h,rx,ry=>
   change (if a.length+b.length<=1000000 then some (D.str (a++b))else none)=some d at h
   by_cases hi:a.length+b.length<=1000000
   ·rw[if_pos hi]at h
    cases h
    rw[Ct]at rx ry
    have:=sizeLine_eq
    exact⟨a,b,rx.1,ry.1,by lia,q _ H G (.refl s) (by rw[Rp];exact⟨rfl,by rw[Ynf,rx.2,ry.2];rfl⟩)⟩
   ·rw[if_neg hi]at h
    cases h
theorem Yv8:Sem2 K rIxS ixS:=by
 intro x y dx dy d H G Q h s rx ry q
 match dx,dy,h,rx,ry with
 | .str z,.int i,h,rx,ry=>
   change (if z.length<=1000000 then (atI z.cps.toList i).map fun c=>D.str ⟨#[c]⟩else none)=some d at h
   by_cases hi:z.length<=1000000
   ·rw[if_pos hi]at h
    obtain⟨c,hc,rfl⟩:=qb h
    rw[Ct]at rx
    rw[Ct]at ry
    have:=sizeLine_eq
    have hok:PyData.strOk ⟨#[c]⟩=true:=by
     have hm:c∈z.cps.toList:=by
      unfold atI at hc
      obtain⟨j,_,hj⟩:=qa hc
      exact List.mem_of_getElem? hj
     have h2:=rx.2
     unfold PyData.strOk at h2 ⊢
     rw[Array.all_eq_true']at h2
     have:=h2 c (Array.mem_toList_iff.mp hm)
     simpa using this
    exact⟨z,i,c,rx.1,ry,by lia,hc,q _ H G (.refl s) (by rw[Rp];exact⟨rfl,hok⟩)⟩
   ·rw[if_neg hi]at h
    cases h
theorem Yiv:∀{l:List D} {ts:List Str},Yol l=some ts->l=ts.map D.str
 | [],ts,h=>by cases h;rfl
 | d::l,ts,h=>by
   cases d with
   | str x=>
     obtain⟨ts',h1,rfl⟩:=qb h
     rw[qy,<-Yiv h1]
   | _=>cases h
@[simp] theorem Yk7:∀ts:List Str,Yol (ts.map D.str)=some ts
 | []=>rfl
 | x::ts=>by
   rw[qy,Yol,Yk7 ts]
   rfl
theorem Yni{G:Hp}:∀{ts:List Str} {xs:List V},RpL K G (ts.map D.str) xs->xs=ts.map V.str/\∀x∈ts,PyData.strOk x=true
 | [],xs,r=>by
   rw[List.map_nil,RpL]at r
   exact⟨r,fun _ h=>nomatch h⟩
 | t::ts,xs,r=>by
   rw[qy,RpL]at r
   obtain⟨x,xr,rfl,rx,rr⟩:=r
   rw[Rp]at rx
   obtain⟨h1,h2⟩:=Yni rr
   exact⟨by rw[rx.1,h1];rfl,fun y hy=>by
    rcases qr hy with rfl | hy
    ·exact rx.2
    ·exact h2 y hy⟩
def y0n(K:W.Frag):V->List V->Hp->VK->Prop:=fun x xs H Q=>∃sep a ts,x=.str sep/\xs=[.ref a]/\SqL K H a (ts.map V.str)/\JoinOk sep ts=true/\Q (.str (Txt.join sep ts)) H
theorem Yk8:∀{ts:List Str} {its:List Value},Vals (ts.map V.str) its->∃l:List (Str × Tok),its=strValues l/\l.map (·.1)=ts
 | [],its,r=>by cases r;exact⟨[],rfl,rfl⟩
 | t::ts,its,r=>by
   cases r with
   | cons r1 r2=>
     obtain⟨tk,rfl⟩:=r1
     obtain⟨l,h1,h2⟩:=Yk8 r2
     exact⟨(t,tk)::l,by rw[h1];rfl,by rw[qy,h2]⟩
theorem Yv9:MtR X "str.join" (y0n X.K):=by
 intro pins s σ H x xs v us Q I rx r h
 obtain⟨sep,a,ts,rfl,rfl,hq,hok,q⟩:=h
 obtain⟨tk,rfl⟩:=rx
 obtain⟨u,rfl,ru⟩:=Yft r
 cases ru
 obtain⟨its,rv,pl,hz⟩:=I.list hq
 obtain⟨l,rfl,hl⟩:=Yk8 rv
 exact SC.join pl.isList hl hok fun t' k=>⟨.str _,H,I.tok k,⟨_,rfl⟩,q⟩
theorem Ywa{sep:Str}{j}(ha:MCA X [e] ga)(hx:PyData.strOk sep=true:=by decide +kernel)
 (hbase:attributeBase (.Constant (.str sep) j p) "join" X.env (eval (.Constant (.str sep) j p) X.env)=eval (.Constant (.str sep) j p) X.env:=by rfl)
 (hfew:((backTo cpos (starEach [e] X.env)).all (fun x=>!x.1)&&(backToKw cpos (keywordEach [] X.env)).all (fun x=>x.1.isSome)
  &&decide ([e].length+([]:List Keyword).length+(if ([]:List Keyword).isEmpty then 0 else 1) < 30))=true:=by rfl)
 (hline:(apos.endLine==cpos.line)=true:=by rfl) (hs:starEach [e] X.env=(false,eval e X.env)::starEach [] X.env:=by rfl) (hplain:(backTo cpos (starEach [] X.env)).any (·.1)=false:=by rfl) :
 ME X (.Call (.Attribute (.Constant (.str sep) j p) "join" apos) [e] [] cpos) (cC ga (Yfh sep)):=
 PE.imp (Ypb F.plainAttrs_str F.slot_str_join F.type_str_join Yv9 Ytc ha hbase hfew hline hs hplain) fun σ H Q ⟨ρ,d,H0,G0,G,e,s,h⟩=>by
  unfold cC at e
  obtain⟨ds,h1,e⟩:=qa e
  refine⟨rfl,tCAof.at h1 s fun vs H1 G1 g1 r1 s1=>?_⟩
  unfold Yfh at e
  split at e
  case h_2=>cases e
  rename_i l
  obtain⟨ts,h2,e⟩:=qa e
  by_cases hok:JoinOk sep ts=true
  ·rw[if_pos hok]at e
   cases e
   obtain⟨v,rfl,rv⟩:=Ycx r1
   rw[Ct]at rv
   obtain⟨a,xs,rfl,hq,rl⟩:=rv
   rw[Yiv h2]at rl
   obtain⟨rfl,hoks⟩:=Yni rl
   exact⟨sep,a,ts,rfl,rfl,.inl hq,hok,h _ H1 G1 g1 (by rw[Rp];exact⟨rfl,Yv7 hx hoks⟩)⟩
  ·rw[if_neg hok]at e
   cases e
theorem y0o{x:Str}{j}(ha:MC X e fa)(hx:PyData.strOk x=true:=by decide +kernel)(hxl:x.length<=1000:=by decide +kernel) :
 ME X (.JoinedStr [.Constant (.str x) j p,.FormattedValue e (-1) none p2] pos) (b1 fa (fsD x)):=by
 intro pins s σ H Q I hq
 obtain⟨ρ,d,H0,G0,G,er,sr,h⟩:=hq
 obtain⟨y,h1,h2⟩:=Ya8 er
 have hsz:=sizeLine_eq
 have hem:(Str.empty++x:Str)=x:=by
  show(⟨Str.empty.cps++x.cps⟩:Str)=x
  have:Str.empty.cps=#[]:=rfl
  rw[this,Array.empty_append]
 refine wpAny_JoinedStr ?_
 show wpAny (model X.prog X.w) X.A (eval (.Constant (.str x) j p) X.env) _ X.xe s
 refine Calls.Constant_str ⟨x,_,rfl,by rw[hem];lia,?_⟩
 rw[hem]
 show wpAny (model X.prog X.w) X.A (eval (.FormattedValue e (-1) none p2) X.env) _ X.xe _
 refine wpAny_FormattedValue_plain (thn (ha pins _ σ H _ (I.tok _) (tCof.at h1 sr fun v H1 G1 g1 r1 s1=>(⟨G1,g1,r1⟩:∃G1,Gr H G H1 G1/\Ct X.K G1 H1 y v))) fun u s2 hx2=>?_)
 obtain⟨v,H2,I2,rv,G2,g2,r2⟩:=hx2
 cases y with
 | int i=>
   change (if i.natAbs < 2 ^ 64/\(x++Str.ofString (toString i)).length<=1000000 then some (D.str (x++Str.ofString (toString i)))else none)=some d at h2
   by_cases hi:i.natAbs < 2 ^ 64/\(x++Str.ofString (toString i)).length<=1000000
   ·rw[if_pos hi]at h2
    cases h2
    rw[Ct]at r2
    subst r2
    obtain⟨t,rfl⟩:=rv
    refine wpAny_formatField_int (Yk6 hi.1) ⟨_,_,rfl,by lia,?_⟩
    exact⟨by lia,.str _,H2,(I2.tok _),⟨_,rfl⟩,h _ H2 G2 g2 (by rw[Rp];exact⟨rfl,by rw[Ynf,hx,Yhh];rfl⟩)⟩
   ·rw[if_neg hi]at h2
    cases h2
 | _=>cases h2
theorem Ywb(ha:MC X a fa)(hb:MC X b fb):ME X (.BinOp a .Add b pos) (b2 fa fb addS):=Ykt Ynx Yso ha hb
theorem Yy8(ha:MC X a fa)(hb:MC X b fb)(hs:Yer b):ME X (.Subscript a b pos) (b2 fa fb ixS):=Yxn Yth Yv8 ha hb hs
theorem Ydf{sep:Str}{j}(ha:ZCA X [e] ga)(hx:PyData.strOk sep=true:=by decide +kernel)
 (hbase:attributeBase (.Constant (.str sep) j p) "join" X.env (eval (.Constant (.str sep) j p) X.env)=eval (.Constant (.str sep) j p) X.env:=by rfl)
 (hfew:((backTo cpos (starEach [e] X.env)).all (fun x=>!x.1)&&(backToKw cpos (keywordEach [] X.env)).all (fun x=>x.1.isSome)
  &&decide ([e].length+([]:List Keyword).length+(if ([]:List Keyword).isEmpty then 0 else 1) < 30))=true:=by rfl)
 (hline:(apos.endLine==cpos.line)=true:=by rfl) (hs:starEach [e] X.env=(false,eval e X.env)::starEach [] X.env:=by rfl) (hplain:(backTo cpos (starEach [] X.env)).any (·.1)=false:=by rfl) :
 ZE X (.Call (.Attribute (.Constant (.str sep) j p) "join" apos) [e] [] cpos) (cC ga (Yfh sep)):=⟨Ywa ha.un hx hbase hfew hline hs hplain⟩
theorem Ytt{x:Str}{j}(ha:ZC X e fa)(hx:PyData.strOk x=true:=by decide +kernel)(hxl:x.length<=1000:=by decide +kernel) :
 ZE X (.JoinedStr [.Constant (.str x) j p,.FormattedValue e (-1) none p2] pos) (b1 fa (fsD x)):=⟨y0o ha.un hx hxl⟩
theorem Ysp(ha:ZC X a fa)(hb:ZC X b fb):ZE X (.BinOp a .Add b pos) (b2 fa fb addS):=⟨Ywb ha.un hb.un⟩
theorem Ywc(ha:ZC X a fa)(hb:ZC X b fb)(hs:Yer b):ZE X (.Subscript a b pos) (b2 fa fb ixS):=⟨Yy8 ha.un hb.un hs⟩
end
theorem nrT{α:Sort _}{a b:α}(h:a=b):a=b:=h
theorem Ysq(i:Int):strC [.int i]=if i.natAbs < 2 ^ 64 then some (.str (Str.ofString (toString i)))else none:=nrT rfl
theorem Yq3(sep:Str)(l:List D):Yfh sep [.lst l]=(Yol l).bind fun xs=>if JoinOk sep xs=true then some (.str (Txt.join sep xs))else none:=nrT rfl
theorem Ywd(x:Str)(i:Int):fsD x (.int i)=if i.natAbs < 2 ^ 64/\(x++Str.ofString (toString i)).length<=1000000 then some (.str (x++Str.ofString (toString i)))else none:=nrT rfl
theorem Ysr(a b:Str):addS (.str a) (.str b)=if a.length+b.length<=1000000 then some (.str (a++b))else none:=nrT rfl
end
section
section
variable {X:Cx} {pos:Pos}
def Ynj(i j k m:Nat):D->Ro->Option Ro:=fun d ρ=>match d with
 | .lst [a,b,c,q]=>some ((((ρ.set i (some (.sh a))).set j (some (.sh b))).set k (some (.sh c))).set m (some (.sh q)))
 | _=>none
theorem Yss(i j k m:Nat){x y z z':Str}{px py pz pz':Pos}{n:Nat}(hc:X.calm=true)(hN:X.N.Nodup)(hi:X.N[i]?=some x:=by rfl)(hj:X.N[j]?=some y:=by rfl)(hk:X.N[k]?=some z:=by rfl)(hm:X.N[m]?=some z':=by rfl)(hx:Loc X.env.scope x:=by first | exact Or.inl rfl | exact Or.inr rfl)(hy:Loc X.env.scope y:=by first | exact Or.inl rfl | exact Or.inr rfl)(hz:Loc X.env.scope z:=by first | exact Or.inl rfl | exact Or.inr rfl)(hz':Loc X.env.scope z':=by first | exact Or.inl rfl | exact Or.inr rfl)
 (hf:X.fn x=true\/X.env.scope.names.lookup x=some .local:=by first | exact .inl rfl | exact .inr rfl) (hf2:X.fn y=true\/X.env.scope.names.lookup y=some .local:=by first | exact .inl rfl | exact .inr rfl) (hf3:X.fn z=true\/X.env.scope.names.lookup z=some .local:=by first | exact .inl rfl | exact .inr rfl) (hf4:X.fn z'=true\/X.env.scope.names.lookup z'=some .local:=by first | exact .inl rfl | exact .inr rfl):MG X (.Tuple [.Name x px,.Name y py,.Name z pz,.Name z' pz'] n pos) (Ynj i j k m):=
 PG.imp (Yvu (n:=4) hc (Yea (Yeq hN hi hx hf) (Yea (Yeq hN hj hy hf2) (Yea (Yeq hN hk hz hf3) (Yea (Yeq hN hm hz' hf4) Yov))))) fun v σ H Q hx_=>by
  obtain⟨d,ρ,ρ',H0,G0,G,e,s,r,h⟩:=hx_
  match d,e,r with
  | .lst [a,b,c,q],e,r=>
    cases e
    rw[Rp]at r
    obtain⟨p,xs,rfl,g,rl⟩:=r
    rw[RpL]at rl
    obtain⟨u,us,rfl,ru,rl⟩:=rl
    rw[RpL]at rl
    obtain⟨w,ws,rfl,rw',rl⟩:=rl
    rw[RpL]at rl
    obtain⟨w2,ws2,rfl,rw2,rl⟩:=rl
    obtain⟨t,rfl,rt⟩:=Yfx rl
    exact⟨p,[u,w,w2,t],rfl,.inl (Yan s.seen g),rfl,u,[w,w2,t],rfl,w,[w2,t],rfl,w2,[t],rfl,t,[],rfl,rfl,h _ ((((s.set_sh i ru).set_sh j rw').set_sh k rw2).set_sh m rt)⟩
@[simp] theorem ap_gQuadL{ρ:Ro}(i j k m:Nat)(a b c q:D):Ynj i j k m (.lst [a,b,c,q]) ρ=some ((((ρ.set i (some (.sh a))).set j (some (.sh b))).set k (some (.sh c))).set m (some (.sh q))):=nr1 rfl
theorem Yq4(i j k m:Nat){x y z z':Str}{px py pz pz':Pos}{n:Nat}(hc:X.calm=true)(hN:X.N.Nodup)(hi:X.N[i]?=some x:=by rfl)(hj:X.N[j]?=some y:=by rfl)(hk:X.N[k]?=some z:=by rfl)(hm:X.N[m]?=some z':=by rfl)(hx:Loc X.env.scope x:=by first | exact Or.inl rfl | exact Or.inr rfl)(hy:Loc X.env.scope y:=by first | exact Or.inl rfl | exact Or.inr rfl)(hz:Loc X.env.scope z:=by first | exact Or.inl rfl | exact Or.inr rfl)(hz':Loc X.env.scope z':=by first | exact Or.inl rfl | exact Or.inr rfl)
 (hf:X.fn x=true\/X.env.scope.names.lookup x=some .local:=by first | exact .inl rfl | exact .inr rfl) (hf2:X.fn y=true\/X.env.scope.names.lookup y=some .local:=by first | exact .inl rfl | exact .inr rfl) (hf3:X.fn z=true\/X.env.scope.names.lookup z=some .local:=by first | exact .inl rfl | exact .inr rfl) (hf4:X.fn z'=true\/X.env.scope.names.lookup z'=some .local:=by first | exact .inl rfl | exact .inr rfl):ZG X (.Tuple [.Name x px,.Name y py,.Name z pz,.Name z' pz'] n pos) (Ynj i j k m):=
 ⟨Yss i j k m hc hN hi hj hk hm hx hy hz hz' hf hf2 hf3 hf4⟩
end
def Yq5(l i:Nat)(g:Addr->Wm):Wm:=fun ρ t=>match ρ[i]? with
 | some (some (.sh (.obj c ks [b,h,.adr l'])))=>if l'=l/\c="Watch"/\ks=wks then (g l [some (.sh (watD b h (.adr l)))] t).bind fun
  | .rt _ t'=>some (.nx ρ t')
  | _=>none
  else none
 | _=>none
section
variable {X:Cx} {l:Addr} {pos:Pos}
theorem Yq6(i:Nat){j' k:Nat}{x:Str}{ps:List Str}{p2 apos cpos:Pos}{pl:Sem Bool}{g:Addr->Wm}(O:Okm X.prog X.w X.K X.mg X.base j' "Watch" "back" ps (spB X.K g))(hr:Room k X.A)
 (hj:j'<=k:=by first | exact qs _ | lia) (hi:X.N[i]?=some x:=by rfl) (hv:Vis X.env.scope x:=by first | exact Or.inl rfl | exact Or.inr (Or.inl rfl) | exact Or.inr (Or.inr rfl))
 (hd:(x==("__debug__":Str))=false:=by decide) (hcd:(x==("__classdict__":Str))=false:=by decide) (hse:swapsWith (.Call (.Attribute (.Name x p2) "back" apos) [] [] cpos) none pos.line X.env=pure false:=by rfl)
 (ht:eval (.Call (.Attribute (.Name x p2) "back" apos) [] [] cpos) X.env=(do
  let ov <-eval (.Name x p2) X.env
  standAt apos.atName
  let (f,first) <-holding [ov] (getMethod ov "back" pl)
  callWith cpos f first (backTo cpos (starEach [] X.env)) (backToKw cpos (keywordEach [] X.env))):=by rfl) :
 ZWS X l (.Expr (.Call (.Attribute (.Name x p2) "back" apos) [] [] cpos) pos) (Yq5 l i g):=by
 obtain⟨C,fa,fd,F,hb,hn,cl,me⟩:=O
 refine⟨PS.imp (Yep (Ymt (E:=E0) (Ydx hi hv hd hcd) cl me F (hr.mono hj) hb .nil Ype ht) hse) fun F σ H hx_=>?_⟩
 obtain⟨ρ,t,out,H0,G0,G,e,w,c⟩:=hx_
 unfold Yq5 at e
 split at e
 ·rename_i c' ks b h l' hi'
  split at e
  ·rename_i hc
   obtain⟨rfl,rfl,rfl⟩:=hc
   obtain⟨o2,h3,e⟩:=qa e
   cases o2 with
   | rt d t'=>
     cases e
     obtain⟨v,q1,q2⟩:=w.sr.sh i _ hi'
     rw[Rp]at q2
     obtain⟨a,C',dx,xs,rfl,n,ga,lx,q⟩:=q2
     rw[hn]at n
     cases n
     obtain⟨y1,y2,y3,rfl,r1,r2,r3⟩:=q.three
     rw[Rp]at r3
     subst r3
     refine⟨_,q1,a,dx,_,rfl,w.sr.seen _ _ ga,rfl,rfl,a,l',y1,y2,b,h,t,d,t',C,dx,G,rfl,hn,w.sr.seen,ga,w.no,w.at,r1,r2,h3,fun v H' G' keep hl' rd=>?_⟩
     have w2:=w.put (wl t')
     have sm:Same (upd H l' (wl t')) H':=fun x o ho=>by
      by_cases z:x=l'
      ·subst z;rw[Yl]at ho;rw[<-ho];exact hl'
      ·rw[Yj z]at ho;exact keep x o z ho
     have w3:SR X.K (upd H0 l' (wl t')) G0 σ H' G ρ:=w2.sr.grow ⟨sm,Same.refl _,w2.sr.seen.trans sm,fun _ h h'=>absurd h h'⟩
     exact c _ H' G _ (Off.put l' H0 _) ⟨w3,w.g0,Yl⟩
   | _=>cases e
  ·cases e
 ·cases e
end
theorem Gr.pokeShow{H G H' G':Hp}(g:Gr H G H' G'){b:Addr}(hb:H b=none)(gb:G' b=none)(o:HO):Gr H G (upd H' b o) (upd G' b o):=by
 refine⟨fun x u e=>?_,fun x u e=>?_,fun x u e=>?_,fun x h h'=>?_⟩
 ·rw[Yj (Yt e hb)];exact g.h x u e
 ·have:=g.g x u e
  rw[Yj (Yt this gb)];exact this
 ·by_cases z:x=b
  ·subst z;rw[Yl]at e ⊢;exact e
  ·rw[Yj z]at e ⊢;exact g.s x u e
 ·by_cases z:x=b
  ·rw[z];exact hb
  ·rw[Yj z]at h'
   exact g.n x h h'
theorem SR.blur{K:W.Frag}{H0 G0 H G:Hp}{σ:L2.St}{ρ:Ro}(s:SR K H0 G0 σ H G ρ)(i:Nat)(v:Option V):SR K H0 G0 (σ.set i v) H G (ρ.set i none):=by
 have get:∀(m:Nat) (o:B),(ρ.set i none)[m]?=some (some o)->m≠i/\ρ[m]?=some (some o):=fun m o e=>by
  by_cases z:m=i
  ·subst z
   rw[List.getElem?_set,if_pos rfl]at e
   split at e<;>cases e
  ·rw[Qa (Ne.symm z)]at e
   exact⟨z,e⟩
 have gs:∀m,m≠i->(σ.set i v)[m]?=σ[m]?:=fun m z=>Qa (Ne.symm z)
 refine⟨s.gr,by rw[List.length_set,List.length_set];exact s.len,fun m d e=>?_,fun m l e=>?_,fun m m' l l' a b e e' ne q q'=>?_,fun m t ks vs e=>?_,fun m m' t ks vs t' ks' vs' a b e e' ne q q'=>?_⟩
 ·obtain⟨z,e⟩:=get _ _ e
  rw[gs m z];exact s.sh m d e
 ·obtain⟨z,e⟩:=get _ _ e
  rw[gs m z];exact s.ow m l e
 ·obtain⟨z,e⟩:=get _ _ e
  obtain⟨z',e'⟩:=get _ _ e'
  rw[gs m z]at q;rw[gs m' z']at q'
  exact s.ap m m' l l' a b e e' ne q q'
 ·obtain⟨z,e⟩:=get _ _ e
  rw[gs m z];exact s.od m t ks vs e
 ·obtain⟨z,e⟩:=get _ _ e
  obtain⟨z',e'⟩:=get _ _ e'
  rw[gs m z]at q;rw[gs m' z']at q'
  exact s.apd m m' t ks vs t' ks' vs' a b e e' ne q q'
def Yst(i:Nat)(f1 f2:Ro->Option D)(fc:Ro->Option Bool)(fe:Ro->Option D)(fr:Ro->Option Out):Ro->Option Out:=fun ρ=>if i < ρ.length then (f1 ρ).bind fun d1=>(f2 ρ).bind fun d2=>(fc (ρ.set i none)).bind fun k=>
 if k=true then (fe (ρ.set i none)).bind fun d=>fr (ρ.set i (some (.ow [d1,.lst [d2,d]])))else fr (ρ.set i (some (.ow [d1,.lst [d2]])))else none
section
variable {X:Cx} {e1 e2 c e:Expr} {f1 f2 fe:Ro->Option D} {fc:Ro->Option Bool} {fr:Ro->Option Out} {sts:List Stmt} {y:Str} {p1 q1 q2 q3 apos cpos pos pos2 pos3 l1 l2:Pos}
theorem Ysu(i:Nat){j:_}(hN:X.N.Nodup)(h1:ZE X e1 f1)(h2:ZE X e2 f2)(hc:ZT X c fc)(he:ZE X e fe)(hr:ZB X sts fr)(hy:X.N[i]?=some y:=by rfl)(hx:Loc X.env.scope y:=by first | exact Or.inl rfl | exact Or.inr rfl)(hv:Vis X.env.scope y:=by first | exact Or.inl rfl | exact Or.inr (Or.inl rfl) | exact Or.inr (Or.inr rfl))
 (hd:(y==("__debug__":Str))=false:=by decide) (hcd:(y==("__classdict__":Str))=false:=by decide)
 (hs1:starEach [e1,.List [e2] l1] X.env=(false,eval e1 X.env)::starEach [.List [e2] l1] X.env:=by rfl) (hs2:starEach [.List [e2] l1] X.env=(false,eval (.List [e2] l1) X.env)::starEach [] X.env:=by rfl) (hs3:starEach [e2] X.env=(false,eval e2 X.env)::starEach [] X.env:=by rfl)
 (hse:swapsWith (.List [e1,.List [e2] l1] l2) (some (.Name y p1)) pos.line X.env=pure false:=by rfl) (hf:X.fn y=true\/X.env.scope.names.lookup y=some .local:=by first | exact .inl rfl | exact .inr rfl)
 (hpi:Yer (.Constant (.int 1) j q2):=by exact fun _ _=>rfl)
 (hse2:swapsWith (.Call (.Attribute (.Subscript (.Name y q1) (.Constant (.int 1) j q2) q3) "append" apos) [e] [] cpos) none pos2.line X.env=pure false:=by rfl)
 (hs:starEach [e] X.env=(false,eval e X.env)::starEach [] X.env:=by rfl) (hpl:(backTo cpos (starEach [] X.env)).any (·.1)=false:=by rfl)
 (hbase:attributeBase (.Subscript (.Name y q1) (.Constant (.int 1) j q2) q3) "append" X.env (eval (.Subscript (.Name y q1) (.Constant (.int 1) j q2) q3) X.env)=eval (.Subscript (.Name y q1) (.Constant (.int 1) j q2) q3) X.env:=by rfl)
 (hfew:((backTo cpos (starEach [e] X.env)).all (fun x=>!x.1)&&(backToKw cpos (keywordEach [] X.env)).all (fun x=>x.1.isSome)&&decide ([e].length+([]:List Keyword).length+(if ([]:List Keyword).isEmpty then 0 else 1) < 30))=true:=by rfl)
 (hline:(apos.endLine==cpos.line)=true:=by rfl) :
 ZB X (.Assign [.Name y p1] (.List [e1,.List [e2] l1] l2) pos::.If c [.Expr (.Call (.Attribute (.Subscript (.Name y q1) (.Constant (.int 1) j q2) q3) "append" apos) [e] [] cpos) pos2] [] pos3::sts) (Yst i f1 f2 fc fe fr):=
 ⟨PSs.imp (Ycq (Ymr hN hy hx (Yms (Ya7 h1.un (Ya7 (Yms (Ya7 h2.un Yc4 hs3)) Yc4 hs2) hs1)) hse hf) (Ycq (Yt1 hc.un (Yi3 (Yep (Ypb PySem.F.plainAttrs_list PySem.F.slot_list_append PySem.F.type_list_append Ye3 (Yxc ix_list (Ydx hy hv hd hcd) Ytb hpi) (Ya7 he.un Yc4 hs) hbase hfew hline hs hpl) hse2)) Ylq) hr.un)) fun F σ H hx_=>by
  obtain⟨ρ,out,H0,G0,G,er,s,h⟩:=hx_
  unfold Yst at er
  have hil:i < ρ.length:=Classical.byContradiction fun z=>by rw[if_neg z]at er;cases er
  rw[if_pos hil]at er
  rw[<-s.len]at hil
  obtain⟨d1,a1,er⟩:=qa er
  obtain⟨d2,a2,er⟩:=qa er
  obtain⟨k,a3,er⟩:=qa er
  have hsz:=sizeLine_eq
  refine tOf.at a1 s fun v1 H1 G1 g1 r1 s1=>tOf.at a2 s1 fun v2 H2 G2 g2 r2 s2=>?_
  refine⟨by simp;lia,fun b hb=>⟨by simp;lia,fun o ho=>?_⟩⟩
  have hbo:o≠b:=fun z=>by rw[z,Yl]at ho;cases ho
  have ho2:H2 o=none:=by rw[Yj hbo]at ho;exact ho
  have gb2:G2 b=none:=s2.seen.free hb
  have go2:G2 o=none:=s2.seen.free ho2
  have k1:Gr H2 G2 (upd H2 b (.lst [v2])) G2:=Gr.hid s2.seen hb _
  have k2:Gr (upd H2 b (.lst [v2])) G2 (upd (upd H2 b (.lst [v2])) o (.lst [v1,.ref b])) G2:=Gr.hid k1.s ho _
  have s4:=(s2.grow (k1.trans k2)).blur i (some (.ref o))
  refine tTof.at a3 s4 fun H5 G5 g5 s5=>?_
  have hb4:(upd (upd H2 b (.lst [v2])) o (.lst [v1,.ref b])) b=some (.lst [v2]):=by rw[Yj (Ne.symm hbo),Yl]
  have hb5:H5 b=some (.lst [v2]):=g5.h _ _ hb4
  have ho5:H5 o=some (.lst [v1,.ref b]):=g5.h _ _ Yl
  have gb5:G5 b=none:=Yc5 g5 hb4 gb2
  have go5:G5 o=none:=Yc5 g5 Yl go2
  have gall:=(k1.trans k2).trans g5
  cases k with
  | false=>
    rw[if_neg qh]at er ⊢
    have g7:=gall.show hb gb5 hb5
    refine⟨_,out,H0,G0,_,er,s2.set_ow i g7 ho2 (by rw[Yj hbo];exact go5) ho5 (.cons (r1.mono (g2.g.trans g7.g)) (.one ?_)),h⟩
    rw[Rp]
    exact⟨b,[v2],rfl,.inl Yl,.one (r2.mono g7.g)⟩
  | true=>
    rw[if_pos rfl]at er ⊢
    obtain⟨d,a4,er⟩:=qa er
    refine⟨_,?_,o,_,1,.ref b,rfl,rfl,SqL.of ho5,rfl,.inl ⟨rfl,_,SqL.of hb5⟩,tOf.at a4 s5 fun v H6 G6 g6 r6 s6=>?_⟩
    ·exact List.getElem?_set_self hil
    have hb6:=g6.h _ _ hb5
    have ho6:=g6.h _ _ ho5
    have gb6:=Yc5 g6 hb5 gb5
    have go6:=Yc5 g6 ho5 go5
    refine⟨b,[v2],v,rfl,rfl,hb6,by simp;lia,?_⟩
    have g7:=(gall.trans g6).pokeShow hb gb6 (.lst [v2,v])
    have sm6:Same G6 (upd G6 b (.lst [v2,v])):=fun x u q=>by rw[Yj (Yt q gb6)];exact q
    refine⟨_,out,H0,G0,_,er,s2.set_ow i g7 ho2 (by rw[Yj hbo];exact go6) (by rw[Yj hbo];exact ho6) (.cons (r1.mono (g2.g.trans g7.g)) (.one ?_)),h⟩
    rw[Rp]
    exact⟨b,[v2,v],rfl,.inl Yl,.cons (r2.mono g7.g) (.one (r6.mono sm6))⟩⟩
end
end
end M
namespace Lw
open PySem PySem.Spec PyProof.Rows L2 M
def top(i:Nat):Stmt:=PySem.Challenge.pw_duskbook_k55_pages_written.main.body.getD i (.Pass ⟨0,0,0,0⟩)
def Ynk:List Str:=[(Str.ofString "keeper"),(Str.ofString "storm")]
def Yf6:List (Str × Str):=[((Str.ofString "keeper"),(Str.ofString "k")),((Str.ofString "storm"),(Str.ofString "s"))]
set_option maxHeartbeats 4000000
def Fq(K:W.Frag)(mg:Str->Option Value)(x:Str)(i:Nat):Prop:=∃a fd,Fun K x x (top i) a fd/\mg x=some (.ref a)
def Fk(K:W.Frag)(x:Str)(i:Nat):Prop:=∃a fd,W.nsIn K mainGlobals x=some (some (.ref a))/\Fun K x x (top i) a fd
theorem Fk.on{K:W.Frag}{h:Heap}{mg:Str->Option Value}{x:Str}{i:Nat}(F:Fk K x i)(X:K.In h)(G:h.Ns mainGlobals mg):Fq K mg x i:=by
 obtain⟨a,fd,n,f⟩:=F
 exact⟨a,fd,f,W.mg_of X G n⟩
theorem fk_mk{K:W.Frag}{x:Str}{i:Nat}{f:Addr}{oc:Value}{od an:Option Addr}{osl:Array (Option Value)}{kV doc pm cdv ct:Value}(a:W.nsIn K mainGlobals x=some (some (.ref f)))(l:K.lookup f=some ⟨oc,od,.func (W.fnOf x x (defArgs (top i)) (defBody (top i)) (defScope (top i)) .none kV doc pm an cdv ct),osl⟩)(c:W.codeIn K cdv x=true)(k:W.keepIn K (.ref f)=true):Fk K x i:=⟨_,_,a,Ymv l c k⟩
theorem fns{N ps:List Str}{sc:Scope}(a:sc.kind=.function:=by rfl)(b:sc.isCoroutine=false:=by rfl)(c:sc.isGenerator=false:=by rfl)(d:N.Nodup:=by decide +kernel)(e:N.take ps.length=ps:=by rfl)(f:∀x∈ps,sc.names.lookup x=some .local\/sc.names.lookup x=some .cell:=by decide +kernel)(g:∀y∈sc.names,y.2≠.free:=by decide +kernel):FnScope N ps sc:=⟨a,b,c,d,e,f,g⟩
def Bnd(x:Str)(i:Nat)(ps:List Str):Prop:=∀(kV doc pm:Value) (an:Option Addr) (cdv ct:Value) (us:List Value),us.length=ps.length->bindArgs (W.fnOf x x (defArgs (top i)) (defBody (top i)) (defScope (top i)) .none kV doc pm an cdv ct) ⟨us,[]⟩=pure (ps.zip us)
theorem okfn{P:Program}{w:World}{K:W.Frag}{mg:Str->Option Value}{base:Heap}{x:Str}{i k n m:Nat}{N ps:List Str}{fb:Ro->Option Out}(F:Fq K mg x i)(S:FnScope N ps (defScope (top i)))(hb:∀{f:Addr} {cdv:Value} {A:Around} {outer:List Env} {s:Shared} {H:Hp} {E:XK},Room k (A.deeper (envOfC x (defScope (top i)) s.heap.objs.size f cdv))->ZB (cxOf CX0 P w K mg base N x (defScope (top i)) f cdv A outer s H E).nox (defBody (top i)) fb)(hn:N.length=n:=by rfl)(hm:ps.length=m:=by rfl)(B:Bnd x i ps:=by(intro _ _ _ _ _ _ us hl;first | (obtain⟨_,rfl⟩:=len1 hl;rfl) | (obtain⟨_,_,rfl⟩:=len2 hl;rfl) | (obtain⟨_,_,_,rfl⟩:=len3 hl;rfl) | (obtain⟨_,_,_,_,rfl⟩:=len4 hl;rfl) | (obtain⟨_,_,_,_,_,rfl⟩:=len5 hl;rfl) | (obtain⟨_,_,_,_,_,_,rfl⟩:=len6 hl;rfl) | (obtain⟨_,_,_,_,_,_,_,rfl⟩:=len7 hl;rfl))):Okf P w K mg base (k+1) m x ps (runB m n fb):=by
 obtain⟨a,fd,f,h⟩:=F
 exact Yyh f (f.binds B) h (Yf3 (k:=k) f S hn hm fun _ _ _ _ _ _ hr=>hb hr)
theorem aL1{f0:Ro->Option D}:∀ρ l,Ye f0 aNil ρ=some l->l.length=1:=Yfa fun _ _ h=>Yr3 h
theorem aL2{f0 f1:Ro->Option D}:∀ρ l,Ye f0 (Ye f1 aNil) ρ=some l->l.length=2:=Yfa aL1
theorem aL3{f0 f1 f2:Ro->Option D}:∀ρ l,Ye f0 (Ye f1 (Ye f2 aNil)) ρ=some l->l.length=3:=Yfa aL2
theorem aL4{f0 f1 f2 f3:Ro->Option D}:∀ρ l,Ye f0 (Ye f1 (Ye f2 (Ye f3 aNil))) ρ=some l->l.length=4:=Yfa aL3
structure Bl(K:W.Frag)(w:World)(mg:Str->Option Value):Prop where
 Len:mg "len"=none
 Range:mg "range"=none
 List:mg "list"=none
 Tuple:mg "tuple"=none
 Int:mg "int"=none
 Str:mg "str"=none
 Sorted:mg "sorted"=none
 Any:mg "any"=none
 All:mg "all"=none
 Isinstance:mg "isinstance"=none
 Enumerate:mg "enumerate"=none
 Set:mg "set"=none
 Max:mg "max"=none
 g_BEACON_COUNT:GI mg "BEACON_COUNT" 60
 g_HANDS:GT K mg "HANDS" Ynk
 g_LETTERS:GD K w mg "LETTERS" Yf6
 f8:Fq K mg "either_holds" 8
 f9:Fq K mg "sum_holds" 9
 f10:Fq K mg "if_holds" 10
 f11:Fq K mg "rule_holds" 11
 f12:Fq K mg "broken_rules" 12
 f13:Fq K mg "holds" 13
 f14:Fq K mg "beacons_in" 14
 f15:Fq K mg "beacons_of" 15
 f24:Fq K mg "is_hand" 24
 f25:Fq K mg "check_hands" 25
 f29:Fq K mg "saying_written" 29
 f30:Fq K mg "rule_written" 30
 f31:Fq K mg "signs_written" 31
 w_evening:Mq K "Watch" "evening" "Watch.evening" (inClass (top 26) 2)
 f32:Fq K mg "page_written" 32
 f34:Fq K mg "_law_cell" 34
 f35:Fq K mg "_law_mixed" 35
 f36:Fq K mg "_law_rule" 36
 f37:Fq K mg "_law_drawn" 37
 f38:Fq K mg "_law_saying_word" 38
 f39:Fq K mg "_law_rule_words" 39
 f40:Fq K mg "_law_rows" 40
 f41:Fq K mg "_law_page" 41
 f42:Fq K mg "_law_text" 42
 w_init:Iq K (inClass (top 26) 0)
 w_turn:Mq K "Watch" "turn" "Watch.turn" (inClass (top 26) 1)
 w_winner:Mq K "Watch" "winner" "Watch.winner" (inClass (top 26) 4)
 w_settle:Mq K "Watch" "settle" "Watch.settle" (inClass (top 26) 5)
 w_back:Mq K "Watch" "back" "Watch.back" (inClass (top 26) 6)
 cW:∀C,W.nsIn K mainGlobals "Watch"=some (some (.ref C))->mg "Watch"=some (.ref C)
 n_book:Nq K "Watch" "book"
 n_hands:Nq K "Watch" "hands"
 n_truths:Nq K "Watch" "truths"
section
variable {P:Program} {w:World} {K:W.Frag} {mg:Str->Option Value} {base:Heap}
theorem Yhi:FnScope ["rule","evening"] ["rule","evening"] (defScope (top 8)):=fns
theorem cs_either_holds_0:CompSc ["rule","evening"] (defScope (top 8)) ["saying","evening"] [none,some 1] (fsc [(".0",.local),("saying",.local),("evening",.free)]):=y0 (by decide +kernel)
def Ybp:Ro->Option D:=(mB (b2 (b2 (getC 1) (b2 (getC 0) (kD (.int 0)) ixD) ixD) (b2 (getC 0) (kD (.int 1)) ixD) (eqM false)))
def Yel:Ro->Option Out:=(sRet (cC (Ye (lF (Yb3 (b1 (getV 0) Yr) [none,some 1] (gSet 0) tY (Ybp))) aNil) anyC))
def Ybx:List D->Option D:=runB 2 2 Yel
theorem Yhj(bl:Bl K w mg):Okf P w K mg base 1 2 "either_holds" ["rule","evening"] Ybx:=by
 refine okfn bl.f8 Yhi fun hr=>?_
 exact(Yp (Yw (y8 (Yg9 rfl) Yl1 rfl bl.Any boot_any (Ym (Yb (Yu (Yaq cs_either_holds_0 rfl (Yae (Yg 0)) (fun _ _ _ _ _=>(Yz 0 cs_either_holds_0.nd)) (fun _ _ _ _ _=>Yaw) (fun _ _ _ _ _=>(Yek hr.units (Yb (Yq (Yd 1) (Yb (Yq (Yd 0) (Yb Yh))))) (Yb (Yq (Yd 0) (Yb Yh))))) (Yau (i:=0) rfl)))) Ys))))
theorem sc_sum_holds:FnScope ["rule","evening","lit_ones"] ["rule","evening"] (defScope (top 9)):=fns
theorem cs_sum_holds_0:CompSc ["rule","evening","lit_ones"] (defScope (top 9)) ["beacon","evening"] [none,some 1] (fsc [(".0",.local),("beacon",.local),("evening",.free)]):=y0 (by decide +kernel)
def Yc0:Ro->Option Bool:=(b1 (b2 (getC 1) (getC 0) ixD) truD)
def Yc1:Ro->Option D:=(getV 0)
def Yhk:Ro->Option Out:=(sSeq (sOwn 2 (Yb3 (b1 (b2 (getC 0) (kD (.int 0)) ixD) Yr) [none,some 1] (gSet 0) (Yc0) (Yc1))) (sRet (mB (b2 (mB (b2 (b2 (cC (Ye (getC 2) aNil) lenC) (kD (.int 2)) modI) (kD (.int 1)) (eqM false))) (b2 (getC 0) (kD (.int 1)) ixD) (eqM false)))))
def Ydg:List D->Option D:=runB 2 3 Yhk
theorem Yk9(bl:Bl K w mg):Okf P w K mg base 1 2 "sum_holds" ["rule","evening"] Ydg:=by
 refine okfn bl.f9 sc_sum_holds fun hr=>?_
 exact(Yn (Ygt 2 sc_sum_holds.nd cs_sum_holds_0 rfl (Yae (Yq (Yd 0) (Yb Yh))) (fun _ _ _ _ _=>(Yz 0 cs_sum_holds_0.nd)) (fun _ _ _ _ _=>(Ynb (Ybo (Yb (Yq (Yd 1) (Yd 0)))))) (fun _ _ _ _ _=>(Yg 0)) (Yau (i:=0) rfl)) (Yp (Yw (Yek hr.units (Yb (Yek hr.units (Yb (Yap (Yb (y8 y9 Ycy rfl bl.Len PySem.boot_len (Ym (Yd 2) Ys))) (Yb Yh))) (Yb Yh))) (Yb (Yq (Yd 0) (Yb Yh)))))))
theorem Yma:FnScope ["rule","evening","lit"] ["rule","evening","lit"] (defScope (top 10)):=fns
theorem cs_if_holds_0:CompSc ["rule","evening","lit"] (defScope (top 10)) ["beacon","evening","lit"] [none,some 1,some 2] (fsc [(".0",.local),("beacon",.local),("evening",.free),("lit",.free)]):=y0 (by decide +kernel)
def Ydh:Ro->Option D:=(mB (b2 (b2 (getC 1) (getC 0) ixD) (getC 2) (eqM true)))
def Yee:Ro->Option Out:=(sSeq (sIf (b1 (cC (Ye (lF (Yb3 (b1 (b2 (getC 0) (kD (.int 0)) ixD) Yr) [none,some 1,some 2] (gSet 0) tY (Ydh))) aNil) anyC) truD) (sRet (kD (.bl true))) sNil) (sRet (andV (mB (b2 (b2 (getC 0) (kD (.int 1)) ixD) (kD .non) (isN true))) (mB (b2 (b2 (getC 1) (b2 (getC 0) (kD (.int 1)) ixD) ixD) (getC 2) (eqM false))))))
def Yef:List D->Option D:=runB 3 3 Yee
theorem Ymb(bl:Bl K w mg):Okf P w K mg base 1 3 "if_holds" ["rule","evening","lit"] Yef:=by
 refine okfn bl.f10 Yma fun hr=>?_
 exact(Yn (Yaj (Ybo (Yb (y8 (Yg9 rfl) Yl1 rfl bl.Any boot_any (Ym (Yb (Yu (Yaq cs_if_holds_0 rfl (Yae (Yq (Yd 0) (Yb Yh))) (fun _ _ _ _ _=>(Yz 0 cs_if_holds_0.nd)) (fun _ _ _ _ _=>Yaw) (fun _ _ _ _ _=>(Yys hr.units (Yb (Yq (Yd 1) (Yd 0))) (Yd 2))) (Yau (i:=0) rfl)))) Ys)))) (Yp (Yw Yip)) y4) (Yp (Yw (Yl4 (Yse (Yb (Yq (Yd 0) (Yb Yh))) (Yb Ydd)) (Yjm (Yek hr.units (Yb (Yq (Yd 1) (Yb (Yq (Yd 0) (Yb Yh))))) (Yd 2)))))))
theorem Yjv:FnScope ["kind","rule","evening"] ["kind","rule","evening"] (defScope (top 11)):=fns
@[simp] def Yh5:Ro->Option Out:=(sRet (cC (Ye (getV 1) (Ye (getV 2) (Ye (mB (b2 (getC 0) (kD (.str "ifs")) (eqM false))) aNil))) Yef))
@[simp] def Yh6:Ro->Option Out:=(sSeq (sIf (b2 (getC 0) (kD (.str "sums")) (eqM false)) (sRet (cC (Ye (getV 1) (Ye (getV 2) aNil)) Ydg)) sNil) Yh5)
def Yb4:Ro->Option Out:=(sSeq (sIf (b2 (getC 0) (kD (.str "eithers")) (eqM false)) (sRet (cC (Ye (getV 1) (Ye (getV 2) aNil)) Ybx)) sNil) Yh6)
def Ycs:List D->Option D:=runB 3 3 Yb4
theorem Yjw(bl:Bl K w mg):Okf P w K mg base 2 3 "rule_holds" ["kind","rule","evening"] Ycs:=by
 refine okfn bl.f11 Yjv fun hr=>?_
 exact(Yn (Yaj (Yca hr.units (Yd 0) (Yb Yv)) (Yp (Yw (Yo (Yhj bl) hr rfl (Yc (Yg 1) (Yc (Yg 2) Yk)) aL2))) y4) (Yn (Yaj (Yca hr.units (Yd 0) (Yb Yv)) (Yp (Yw (Yo (Yk9 bl) hr rfl (Yc (Yg 1) (Yc (Yg 2) Yk)) aL2))) y4) (Yp (Yw (Yo (Ymb bl) hr rfl (Yc (Yg 1) (Yc (Yg 2) (Yc (Yek hr.units (Yd 0) (Yb Yv)) Yk))) aL3)))))
theorem Yhl:FnScope ["book","evening"] ["book","evening"] (defScope (top 12)):=fns
theorem cs_broken_rules_0:CompSc ["book","evening"] (defScope (top 12)) ["place","rule","book","evening"] [none,none,some 0,some 1] (fsc [(".0",.local),("place",.local),("rule",.local),("rule_holds",.globalImplicit),("book",.free),("evening",.free)]):=y0 (by decide +kernel)
def Ybq:Ro->Option Bool:=(notT (b1 (cC (Ye (b2 (getC 2) (kD (.int 0)) ixD) (Ye (getV 1) (Ye (getV 3) aNil))) Ycs) truD))
def Ybr:Ro->Option D:=(getV 0)
def Yem:Ro->Option Out:=(sRet (lF (Yb3 (b1 (b2 (getC 0) (kD (.int 1)) ixD) Ysa) [none,none,some 0,some 1] (Ylz 0 1) (Ybq) (Ybr))))
def Yby:List D->Option D:=runB 2 2 Yem
theorem Yhm(bl:Bl K w mg):Okf P w K mg base 3 2 "broken_rules" ["book","evening"] Yby:=by
 refine okfn bl.f12 Yhl fun hr=>?_
 exact(Yp (Yw (Yu (Yaq cs_broken_rules_0 rfl (Yjp rfl bl.Enumerate (Yq (Yd 0) (Yb Yh))) (fun _ _ _ _ _=>(Ysf 0 1 rfl cs_broken_rules_0.nd)) (fun _ _ _ _ _=>(Ynb (Yjl (Ybo (Yb (Yo (Yjw bl) hr rfl (Yc (Yq (Yd 2) (Yb Yh)) (Yc (Yg 1) (Yc (Yg 3) Yk))) aL3)))))) (fun _ _ _ _ _=>(Yg 0)) (Yr6 (i:=0) (k:=1) rfl rfl)))))
theorem Ysv:FnScope ["book","evening"] ["book","evening"] (defScope (top 13)):=fns
def Yq7:Ro->Option Out:=(sRet (mB (b2 (cC (Ye (cC (Ye (getV 0) (Ye (getV 1) aNil)) Yby) aNil) lenC) (kD (.int 0)) (eqM false))))
def Yjx:List D->Option D:=runB 2 2 Yq7
theorem Ysw(bl:Bl K w mg):Okf P w K mg base 4 2 "holds" ["book","evening"] Yjx:=by
 refine okfn bl.f13 Ysv fun hr=>?_
 exact(Yp (Yw (Yek hr.units (Yb (y8 y9 Ycy rfl bl.Len PySem.boot_len (Ym (Yb (Yo (Yhm bl) hr rfl (Yc (Yg 0) (Yc (Yg 1) Yk)) aL2)) Ys))) (Yb Yh))))
theorem Yjy:FnScope ["kind","rule"] ["kind","rule"] (defScope (top 14)):=fns
theorem cs_beacons_in_0:CompSc ["kind","rule"] (defScope (top 14)) ["saying"] [none] (fsc [(".0",.local),("saying",.local)]):=y0 (by decide +kernel)
def Ycj:Ro->Option D:=(b2 (getC 0) (kD (.int 0)) ixD)
@[simp] def Yh7:Ro->Option Out:=(sRet (lF (b2 (lF (cF (Ye (b2 (getC 1) (kD (.int 0)) ixD) aNil) Yr4)) (lF (dLst (Ye (b2 (getC 1) (kD (.int 1)) ixD) aNil))) catD)))
@[simp] def Yh8:Ro->Option Out:=(sSeq (sIf (orT (b2 (getC 0) (kD (.str "sums")) (eqM false)) (b2 (b2 (getC 1) (kD (.int 1)) ixD) (kD .non) (isN false))) (sRet (lF (cF (Ye (b2 (getC 1) (kD (.int 0)) ixD) aNil) Yr4))) sNil) Yh7)
def Yb5:Ro->Option Out:=(sSeq (sIf (b2 (getC 0) (kD (.str "eithers")) (eqM false)) (sRet (lF (Yb3 (b1 (getV 1) Yr) [none] (gSet 0) tY (Ycj)))) sNil) Yh8)
def Yct:List D->Option D:=runB 2 2 Yb5
theorem Yjz(bl:Bl K w mg):Okf P w K mg base 1 2 "beacons_in" ["kind","rule"] Yct:=by
 refine okfn bl.f14 Yjy fun hr=>?_
 exact(Yn (Yaj (Yca hr.units (Yd 0) (Yb Yv)) (Yp (Yw (Yu (Yaq cs_beacons_in_0 rfl (Yae (Yg 1)) (fun _ _ _ _ _=>(Yz 0 cs_beacons_in_0.nd)) (fun _ _ _ _ _=>Yaw) (fun _ _ _ _ _=>(Yq (Yd 0) (Yb Yh))) (Yau (i:=0) rfl))))) y4) (Yn (Yaj (Yk1 (Yyt (Yca hr.units (Yd 0) (Yb Yv)) (Yvm (Yl5 (Yb (Yq (Yd 1) (Yb Yh))) (Yb Ydd))))) (Yp (Yw (Yu (Yir Ygd Ym6 rfl bl.List boot_list (Ym (Yb (Yq (Yd 1) (Yb Yh))) Ys))))) y4) (Yp (Yw (Yu (Ycz (Yb (Yu (Yir Ygd Ym6 rfl bl.List boot_list (Ym (Yb (Yq (Yd 1) (Yb Yh))) Ys)))) (Yb (Yu (Yy (Yc (Yq (Yd 1) (Yb Yh)) Yk))))))))))
theorem sc_beacons_of:FnScope ["book","found","rule"] ["book"] (defScope (top 15)):=fns
def Yck:Ro->Option Out:=(sMut 1 (cC (Ye (b2 (getC 0) (kD (.int 0)) ixD) (Ye (getV 2) aNil)) Yct) extD)
@[simp] def Yh9:Ro->Option Out:=(sRet (lF (Yfc (getC 1))))
@[simp] def Yia:Ro->Option Out:=(sSeq (sFor (b1 (b2 (getC 0) (kD (.int 1)) ixD) Yr) (gSet 2) Yck) Yh9)
def Ygi:Ro->Option Out:=(sSeq (sOwn 1 (dLst aNil)) Yia)
def Ycu:List D->Option D:=runB 1 3 Ygi
theorem Yj0(bl:Bl K w mg):Okf P w K mg base 2 1 "beacons_of" ["book"] Ycu:=by
 refine okfn bl.f15 sc_beacons_of fun hr=>?_
 exact(Yn (Yey 1 sc_beacons_of.nd (Yy Yk)) (Yn (Yhf PassesOwn.never rfl (Yae (Yq (Yd 0) (Yb Yh))) (Yz 2 sc_beacons_of.nd) (Yp (Yit 1 (Yo (Yjz bl) hr rfl (Yc (Yq (Yd 0) (Yb Yh)) (Yc (Yg 2) Yk)) aL2)))) (Yp (Yw (Yu (Yl7 rfl rfl bl.Sorted rfl bl.Set (Yd 1)))))))
theorem Yom:FnScope ["thing"] ["thing"] (defScope (top 24)):=fns
def Yq8:Ro->Option Out:=(sRet (andV (mB (b1 (getC 0) (isiD "str"))) (mB (b1 (getC 0) (inG false Ynk)))))
def Yhn:List D->Option D:=runB 1 1 Yq8
theorem Yon(bl:Bl K w mg):Okf P w K mg base 1 1 "is_hand" ["thing"] Yhn:=by
 refine okfn bl.f24 Yom fun hr=>?_
 exact(Yp (Yw (Yl4 (Yql (Yd 0) rfl rfl bl.Isinstance bl.Str boot_str (Yp2)) (Yjm (Yv3 hr.units bl.g_HANDS rfl (Yd 0))))))
theorem Yib:FnScope ["book","hands"] ["book","hands"] (defScope (top 25)):=fns
theorem cs_check_hands_0:CompSc ["book","hands"] (defScope (top 25)) ["thing"] [none] (fsc [(".0",.local),("thing",.local),("is_hand",.globalImplicit)]):=y0 (by decide +kernel)
theorem cs_check_hands_1:CompSc ["book","hands"] (defScope (top 25)) ["beacon","hands"] [none,some 1] (fsc [(".0",.local),("beacon",.local),("len",.globalImplicit),("hands",.free)]):=y0 (by decide +kernel)
def Yb8:Ro->Option D:=(cC (Ye (getV 0) aNil) Yhn)
def Yb9:Ro->Option D:=(mB (b2 (getC 0) (cC (Ye (getC 1) aNil) lenC) geI))
@[simp] def Yho:Ro->Option Out:=(sIf (b1 (cC (Ye (lF (Yb3 (b1 (cC (Ye (getV 0) aNil) Ycu) Yr) [none,some 1] (gSet 0) tY (Yb9))) aNil) anyC) truD) nS sNil)
@[simp] def Yhp:Ro->Option Out:=(sSeq (sIf (notT (b1 (cC (Ye (lF (Yb3 (b1 (getV 1) Yr) [none] (gSet 0) tY (Yb8))) aNil) allC) truD)) nS sNil) Yho)
def Ydi:Ro->Option Out:=(sSeq (sIf (b2 (cC (Ye (getC 1) aNil) lenC) (kD (.int 60)) gtI) nS sNil) Yhp)
def Ybl:List D->Option D:=runB 2 2 Ydi
theorem Yic(bl:Bl K w mg):Okf P w K mg base 3 2 "check_hands" ["book","hands"] Ybl:=by
 refine okfn bl.f25 Yib fun hr=>?_
 exact(Yn (Yaj (Ym8 (Yb (y8 y9 Ycy rfl bl.Len PySem.boot_len (Ym (Yd 1) Ys))) (Yb (Ysg bl.g_BEACON_COUNT rfl))) (Yp Yc7) y4) (Yn (Yaj (Yjl (Ybo (Yb (y8 (Yp7 rfl) Yva rfl bl.All boot_all (Ym (Yb (Yu (Yaq cs_check_hands_0 rfl (Yae (Yg 1)) (fun _ _ _ _ _=>(Yz 0 cs_check_hands_0.nd)) (fun _ _ _ _ _=>Yaw) (fun _ _ _ _ _=>(Yo (Yon bl) hr rfl (Yc (Yg 0) Yk) aL1)) (Yau (i:=0) rfl)))) Ys))))) (Yp Yc7) y4) (Yp (Yaj (Ybo (Yb (y8 (Yg9 rfl) Yl1 rfl bl.Any boot_any (Ym (Yb (Yu (Yaq cs_check_hands_1 rfl (Yae (Yo (Yj0 bl) hr rfl (Yc (Yg 0) Yk) aL1)) (fun _ _ _ _ _=>(Yz 0 cs_check_hands_1.nd)) (fun _ _ _ _ _=>Yaw) (fun _ _ _ _ _=>(Yyq (Yd 0) (Yb (y8 y9 Ycy rfl bl.Len PySem.boot_len (Ym (Yd 1) Ys))))) (Yau (i:=0) rfl)))) Ys)))) (Yp Yc7) y4))))
theorem sc_saying_written:FnScope ["saying","beacon"] ["saying"] (defScope (top 29)):=fns
def Ydp:Ro->Option Out:=(sSeq (sSet 1 (b2 (getC 0) (kD (.int 0)) ixD)) (sRet (ifV (b1 (b2 (getC 0) (kD (.int 1)) ixD) truD) (b1 (getC 1) (fsD (Str.ofString "+"))) (b1 (getC 1) (fsD (Str.ofString "-"))))))
def Ya4:List D->Option D:=runB 1 2 Ydp
theorem Yf7(bl:Bl K w mg):Okf P w K mg base 1 1 "saying_written" ["saying"] Ya4:=by
 refine okfn bl.f29 sc_saying_written fun hr=>?_
 exact(Yn (Ybk 1 sc_saying_written.nd (Yq (Yd 0) (Yb Yh))) (Yp (Yw (Yiq (Ybo (Yb (Yq (Yd 0) (Yb Yh)))) (Ytt (Yd 1)) (Ytt (Yd 1))))))
theorem sc_rule_written:FnScope ["kind","rule","beacons"] ["kind","rule"] (defScope (top 30)):=fns
theorem cs_rule_written_0:CompSc ["kind","rule","beacons"] (defScope (top 30)) ["saying"] [none] (fsc [(".0",.local),("saying",.local),("saying_written",.globalImplicit)]):=y0 (by decide +kernel)
theorem cs_rule_written_1:CompSc ["kind","rule","beacons"] (defScope (top 30)) ["beacon"] [none] (fsc [(".0",.local),("beacon",.local),("str",.globalImplicit)]):=y0 (by decide +kernel)
def Ybs:Ro->Option D:=(cC (Ye (getV 0) aNil) Ya4)
def Yah:Ro->Option D:=(cC (Ye (getC 0) aNil) strC)
@[simp] def Ygl:Ro->Option Out:=(sRet (lF (b2 (lF (b2 (lF (b2 (lF (dLst (Ye (kD (.str "rule")) aNil))) (getC 2) catD)) (lF (dLst (Ye (kD (.str ">")) aNil))) catD)) (ifV (b2 (b2 (getC 1) (kD (.int 1)) ixD) (kD .non) (isN false)) (lF (dLst aNil)) (lF (dLst (Ye (cC (Ye (b2 (getC 1) (kD (.int 1)) ixD) aNil) strC) aNil)))) catD)))
@[simp] def Ygm:Ro->Option Out:=(sSeq (sIf (b2 (getC 0) (kD (.str "sums")) (eqM false)) (sRet (lF (b2 (lF (dLst (Ye (kD (.str "rule")) (Ye (ifV (b1 (b2 (getC 1) (kD (.int 1)) ixD) truD) (kD (.str "odd")) (kD (.str "even"))) aNil)))) (getC 2) catD))) sNil) Ygl)
@[simp] def Ygn:Ro->Option Out:=(sSeq (sOwn 2 (Yb3 (b1 (b2 (getC 1) (kD (.int 0)) ixD) Yr) [none] (gSet 0) tY (Yah))) Ygm)
def Ya3:Ro->Option Out:=(sSeq (sIf (b2 (getC 0) (kD (.str "eithers")) (eqM false)) (sRet (lF (b2 (lF (dLst (Ye (kD (.str "rule")) aNil))) (lF (Yb3 (b1 (getV 1) Yr) [none] (gSet 0) tY (Ybs))) catD))) sNil) Ygn)
def Ybz:List D->Option D:=runB 2 3 Ya3
theorem Yhq(bl:Bl K w mg):Okf P w K mg base 2 2 "rule_written" ["kind","rule"] Ybz:=by
 refine okfn bl.f30 sc_rule_written fun hr=>?_
 exact(Yn (Yaj (Yca hr.units (Yd 0) (Yb Yv)) (Yp (Yw (Yu (Ycz (Yb (Yu (Yy (Yc Yv Yk)))) (Yb (Yu (Yaq cs_rule_written_0 rfl (Yae (Yg 1)) (fun _ _ _ _ _=>(Yz 0 cs_rule_written_0.nd)) (fun _ _ _ _ _=>Yaw) (fun _ _ _ _ _=>(Yo (Yf7 bl) hr rfl (Yc (Yg 0) Yk) aL1)) (Yau (i:=0) rfl)))))))) y4) (Yn (Ygt 2 sc_rule_written.nd cs_rule_written_1 rfl (Yae (Yq (Yd 1) (Yb Yh))) (fun _ _ _ _ _=>(Yz 0 cs_rule_written_1.nd)) (fun _ _ _ _ _=>Yaw) (fun _ _ _ _ _=>(y7 Yb2 Yfi rfl bl.Str boot_str (Ym (Yd 0) Ys))) (Yau (i:=0) rfl)) (Yn (Yaj (Yca hr.units (Yd 0) (Yb Yv)) (Yp (Yw (Yu (Ycz (Yb (Yu (Yy (Yc Yv (Yc (Yiq (Ybo (Yb (Yq (Yd 1) (Yb Yh)))) Yv Yv) Yk))))) (Yd 2))))) y4) (Yp (Yw (Yu (Ycz (Yb (Yu (Ycz (Yb (Yu (Ycz (Yb (Yu (Yy (Yc Yv Yk)))) (Yd 2)))) (Yb (Yu (Yy (Yc Yv Yk))))))) (Yb (Yiq (Yl5 (Yb (Yq (Yd 1) (Yb Yh))) (Yb Ydd)) (Yu (Yy Yk)) (Yu (Yy (Yc (y7 Yb2 Yfi rfl bl.Str boot_str (Ym (Yb (Yq (Yd 1) (Yb Yh))) Ys)) Yk))))))))))))
theorem Ygo:FnScope ["word","signs"] ["word","signs"] (defScope (top 31)):=fns
def Ycl:Ro->Option Out:=(sRet (ifV (b1 (getC 1) truD) (lF (dLst (Ye (getV 0) (Ye (cC (Ye (getC 1) aNil) (Yfh (Str.ofString ""))) aNil)))) (lF (dLst (Ye (getV 0) aNil)))))
def Yax:List D->Option D:=runB 2 2 Ycl
theorem Ydq(bl:Bl K w mg):Okf P w K mg base 1 2 "signs_written" ["word","signs"] Yax:=by
 refine okfn bl.f31 Ygo fun hr=>?_
 exact(Yp (Yw (Yiq (Ybo (Yd 1)) (Yu (Yy (Yc (Yg 0) (Yc (Ydf (Ym (Yd 1) Ys)) Yk)))) (Yu (Yy (Yc (Yg 0) Yk))))))
theorem Ygp:FnScope ["self"] ["self"] (defScope (inClass (top 26) 2)):=fns
def Yd4:Ro->Option Out:=(sRet (cC (Ye (b1 (getV 0) (fldD "Watch" "truths")) aNil) tupC))
def Yai:List D->Option D:=runB 1 1 Yd4
theorem Ydr(bl:Bl K w mg):Okm P w K mg base 1 "Watch" "evening" ["self"] (spOf K 1 Yai):=by
 refine okmn bl.w_evening Ygp fun hr=>?_
 exact(Yp (Yw (y7 Yaz Yfy rfl bl.Tuple boot_tuple (Ym (Yb (Yci bl.n_truths.cf (Yg 0))) Ys))))
theorem sc_page_written:FnScope ["watch","kind","rows"] ["watch"] (defScope (top 32)):=fns
theorem cs_page_written_0:CompSc ["watch","kind","rows"] (defScope (top 32)) ["hand"] [none] (fsc [(".0",.local),("hand",.local),("LETTERS",.globalImplicit)]):=y0 (by decide +kernel)
theorem cs_page_written_1:CompSc ["watch","kind","rows"] (defScope (top 32)) ["rule","kind"] [none,some 1] (fsc [(".0",.local),("rule",.local),("rule_written",.globalImplicit),("kind",.free)]):=y0 (by decide +kernel)
theorem cs_page_written_2:CompSc ["watch","kind","rows"] (defScope (top 32)) ["lit"] [none] (fsc [(".0",.local),("lit",.local)]):=y0 (by decide +kernel)
theorem cs_page_written_3:CompSc ["watch","kind","rows"] (defScope (top 32)) ["words"] [none] (fsc [(".0",.local),("words",.local)]):=y0 (by decide +kernel)
def Ybt:Ro->Option D:=(b1 (getC 0) (Yqd Yf6))
def Ybu:Ro->Option D:=(cC (Ye (getV 1) (Ye (getV 0) aNil)) Ybz)
def Yc8:Ro->Option D:=(ifV (b1 (getC 0) truD) (kD (.str "1")) (kD (.str "0")))
def Ybv:Ro->Option D:=(cC (Ye (getC 0) aNil) (Yfh (Str.ofString " ")))
@[simp] def Yar:Ro->Option Out:=(wF [2] (sRet (cC (Ye (lF (Yb3 (b1 (getV 2) Yr) [none] (gSet 0) tY (Ybv))) aNil) (Yfh (Str.ofString "\n")))))
@[simp] def Ya5:Ro->Option Out:=(sSeq (sIf (b1 (b1 (getV 0) (mthD "Watch" "evening" Yai)) truD) (sMut 2 (cC (Ye (kD (.str "settled")) (Ye (lF (Yb3 (b1 (b1 (getV 0) (mthD "Watch" "evening" Yai)) Yr) [none] (gSet 0) tY (Yc8))) aNil)) Yax) appD) sNil) Yar)
@[simp] def Yds:Ro->Option Out:=(sSeq (sMut 2 (lF (Yb3 (b1 (b2 (b1 (getV 0) (fldD "Watch" "book")) (kD (.int 1)) ixD) Yr) [none,some 1] (gSet 0) tY (Ybu))) extD) Ya5)
@[simp] def Ydt:Ro->Option Out:=(sSeq (sOwn 2 (dLst (Ye (lF (dLst (Ye (kD (.str "kind")) (Ye (getV 1) aNil)))) (Ye (cC (Ye (kD (.str "hands")) (Ye (lF (Yb3 (b1 (b1 (getV 0) (fldD "Watch" "hands")) Yr) [none] (gSet 0) tY (Ybt))) aNil)) Yax) aNil)))) Yds)
def Yen:Ro->Option Out:=(sSeq (sSet 1 (b2 (b1 (getV 0) (fldD "Watch" "book")) (kD (.int 0)) ixD)) Ydt)
def Yaa:List D->Option D:=runB 1 3 Yen
theorem Ycm(bl:Bl K w mg):Okf P w K mg base 3 1 "page_written" ["watch"] Yaa:=by
 refine okfn bl.f32 sc_page_written fun hr=>?_
 exact(Yn (Ybk 1 sc_page_written.nd (Yq (Yb (Yci bl.n_book.cf (Yg 0))) (Yb Yh))) (Yn (Yey 2 sc_page_written.nd (Yy (Yc (Yu (Yy (Yc Yv (Yc (Yg 1) Yk)))) (Yc (Yo (Ydq bl) hr rfl (Yc Yv (Yc (Yu (Yaq cs_page_written_0 rfl (Yae (Yci bl.n_hands.cf (Yg 0))) (fun _ _ _ _ _=>(Yz 0 cs_page_written_0.nd)) (fun _ _ _ _ _=>Yaw) (fun _ _ _ _ _=>(Yqm bl.g_LETTERS rfl (Yd 0))) (Yau (i:=0) rfl))) Yk)) aL2) Yk)))) (Yn (Yit 2 (Yu (Yaq cs_page_written_1 rfl (Yae (Yq (Yb (Yci bl.n_book.cf (Yg 0))) (Yb Yh))) (fun _ _ _ _ _=>(Yz 0 cs_page_written_1.nd)) (fun _ _ _ _ _=>Yaw) (fun _ _ _ _ _=>(Yo (Yhq bl) hr rfl (Yc (Yg 1) (Yc (Yg 0) Yk)) aL2)) (Yau (i:=0) rfl)))) (Yn (Yaj (Ybo (Yb (Yd3 (Ydr bl) hr (Yg 0)))) (Yp (Ybc 2 (Yo (Ydq bl) hr rfl (Yc Yv (Yc (Yu (Yaq cs_page_written_2 rfl (Yae (Yd3 (Ydr bl) hr (Yg 0))) (fun _ _ _ _ _=>(Yz 0 cs_page_written_2.nd)) (fun _ _ _ _ _=>Yaw) (fun _ _ _ _ _=>(Yiq (Ybo (Yd 0)) Yv Yv)) (Yau (i:=0) rfl))) Yk)) aL2))) y4) (Yp (Yjn [2] (Yw (Ydf (Ym (Yb (Yu (Yaq cs_page_written_3 rfl (Yae (Yg 2)) (fun _ _ _ _ _=>(Yz 0 cs_page_written_3.nd)) (fun _ _ _ _ _=>Yaw) (fun _ _ _ _ _=>(Ydf (Ym (Yd 0) Ys))) (Yau (i:=0) rfl)))) Ys)))))))))
theorem Ymc:FnScope ["script","k"] ["script","k"] (defScope (top 34)):=fns
def Yf8:Ro->Option Out:=(sSeq (sIf (b2 (getC 1) (cC (Ye (getC 0) aNil) lenC) ltI) (sRet (b2 (getC 0) (getC 1) ixD)) sNil) (sRet (kD (.int 0))))
def Yaf:List D->Option D:=runB 2 2 Yf8
theorem Ya9(bl:Bl K w mg):Okf P w K mg base 1 2 "_law_cell" ["script","k"] Yaf:=by
 refine okfn bl.f34 Ymc fun hr=>?_
 exact(Yn (Yaj (Yyr (Yd 1) (Yb (y8 y9 Ycy rfl bl.Len PySem.boot_len (Ym (Yd 0) Ys)))) (Yp (Yw (Yq (Yd 0) (Yd 1)))) y4) (Yp (Yw Yh)))
theorem Yla:FnScope ["cell","by"] ["cell","by"] (defScope (top 35)):=fns
def Yhr:Ro->Option Out:=(sRet (b2 (b2 (b2 (getC 0) (kD (.int 2305843009213693951)) modI) (getC 1) mulI) (kD (.int 2305843009213693951)) modI))
def Ybw:List D->Option D:=runB 2 2 Yhr
theorem Yd5(bl:Bl K w mg):Okf P w K mg base 1 2 "_law_mixed" ["cell","by"] Ybw:=by
 refine okfn bl.f35 Yla fun hr=>?_
 exact(Yp (Yw (Yap (Yb (Yvk (Yb (Yap (Yd 0) (Yb Yh))) (Yd 1))) (Yb Yh))))
theorem sc_law_rule:FnScope ["kind","cell","many","left","size","odd","head","some","k","sayings","beacon"] ["kind","cell","many"] (defScope (top 36)):=fns
def Ybm:Ro->Option Out:=(sSeq (sIf (andT (b2 (getC 2) (kD (.int 0)) gtI) (b2 (b2 (getC 3) (getC 2) modI) (getC 7) (inM true))) (sMut 7 (b2 (getC 3) (getC 2) modI) appD) sNil) (sSet 3 (b2 (getC 3) (cC (Ye (getC 2) (Ye (kD (.int 1)) aNil)) maxC) divI)))
def Ycd:Ro->Option Out:=(sSeq (sMut 9 (dTup (Ye (getV 10) (Ye (getV 5) aNil))) appD) (sSet 5 (mB (b2 (b2 (getC 3) (kD (.int 2)) modI) (kD (.int 1)) (eqM false)))))
@[simp] def Yj1:Ro->Option Out:=(sRet (dTup (Ye (cC (Ye (lF (cF (Ye (getC 7) aNil) Yjf)) aNil) tupC) (Ye (getV 6) aNil))))
@[simp] def Yj2:Ro->Option Out:=(sSeq (sIf (b2 (getC 0) (kD (.str "sums")) (eqM false)) (sRet (dTup (Ye (cC (Ye (lF (cF (Ye (getC 7) aNil) Yjf)) aNil) tupC) (Ye (getV 5) aNil)))) sNil) Yj1)
@[simp] def Ybd:Ro->Option Out:=(sSeq (sIf (b2 (getC 0) (kD (.str "eithers")) (eqM false)) (sSeq (sOwn 9 (dLst aNil)) (sSeq (sFor (b1 (lF (slF (getC 7) none (some (kD (.int 2))))) Yr) (gSet 10) Ycd) (sSeq (sIf (andT (b2 (cC (Ye (getC 9) aNil) lenC) (kD (.int 2)) (eqM false)) (b2 (b2 (b2 (getC 3) (kD (.int 2)) divI) (kD (.int 6)) modI) (kD (.int 1)) (eqM false))) (Yp9 9 (kD (.int 1)) (dTup (Ye (b2 (b2 (getC 9) (kD (.int 0)) ixD) (kD (.int 0)) ixD) (Ye (notV (b2 (b2 (getC 9) (kD (.int 0)) ixD) (kD (.int 1)) ixD)) aNil))) setD) sNil) (sRet (cC (Ye (lF (cF (Ye (getC 9) aNil) Yjf)) aNil) tupC))))) sNil) Yj2)
@[simp] def Ycv:Ro->Option Out:=(sSeq (sFor (cF (Ye (getV 4) aNil) rng1) (gSet 8) Ybm) Ybd)
@[simp] def Ylb:Ro->Option Out:=(sSeq (sOwn 7 (dLst aNil)) Ycv)
@[simp] def Ybe:Ro->Option Out:=(sSeq (sSet 3 (b2 (b2 (getC 3) (kD (.int 6)) divI) (cC (Ye (getC 2) (Ye (kD (.int 1)) aNil)) maxC) divI)) Ylb)
@[simp] def Ylc:Ro->Option Out:=(sSeq (sIf (andT (b2 (b2 (getC 3) (kD (.int 6)) modI) (kD (.int 0)) gtI) (b2 (getC 2) (kD (.int 0)) gtI)) (sSet 6 (b2 (b2 (getC 3) (kD (.int 6)) divI) (getC 2) modI)) sNil) Ybe)
@[simp] def Yld:Ro->Option Out:=(sSeq (sSet 6 (kD .non)) Ylc)
@[simp] def Yle:Ro->Option Out:=(sSeq (sSet 3 (b2 (getC 3) (kD (.int 8)) divI)) Yld)
@[simp] def Ylf:Ro->Option Out:=(sSeq (sSet 5 (mB (b2 (b2 (b2 (getC 3) (kD (.int 4)) divI) (kD (.int 2)) modI) (kD (.int 1)) (eqM false)))) Yle)
@[simp] def Ylg:Ro->Option Out:=(sSeq (sSet 4 (b2 (getC 3) (kD (.int 4)) modI)) Ylf)
def Yf9:Ro->Option Out:=(sSeq (sSet 3 (cC (Ye (getV 1) (Ye (kD (.int 1181783497276652981)) aNil)) Ybw)) Ylg)
def Yeg:List D->Option D:=runB 3 11 Yf9
theorem Ymd(bl:Bl K w mg):Okf P w K mg base 2 3 "_law_rule" ["kind","cell","many"] Yeg:=by
 refine okfn bl.f36 sc_law_rule fun hr=>?_
 exact(Yn (Ybk 3 sc_law_rule.nd (Yo (Yd5 bl) hr rfl (Yc (Yg 1) (Yc Yh Yk)) aL2)) (Yn (Ybk 4 sc_law_rule.nd (Yap (Yd 3) (Yb Yh))) (Yn (Ybk 5 sc_law_rule.nd (Yek hr.units (Yb (Yap (Yb (Yde (Yd 3) (Yb Yh))) (Yb Yh))) (Yb Yh))) (Yn (Ybk 3 sc_law_rule.nd (Yde (Yd 3) (Yb Yh))) (Yn (Ybk 6 sc_law_rule.nd Ydd) (Yn (Yaj (Yk1 (Yjk (Ym8 (Yb (Yap (Yd 3) (Yb Yh))) (Yb Yh)) (Ygs (Ym8 (Yd 2) (Yb Yh))))) (Yp (Ybk 6 sc_law_rule.nd (Yap (Yb (Yde (Yd 3) (Yb Yh))) (Yd 2)))) y4) (Yn (Ybk 3 sc_law_rule.nd (Yde (Yb (Yde (Yd 3) (Yb Yh))) (Yb (y8 (Ykh rfl) Yqf rfl bl.Max boot_max (Ym (Yd 2) (Ym (Yb Yh) Ys)))))) (Yn (Yey 7 sc_law_rule.nd (Yy Yk)) (Yn (Yhf PassesOwn.never rfl (Yis rfl bl.Range (Yc (Yg 4) Yk)) (Yz 8 sc_law_rule.nd) (Yn (Yaj (Yk1 (Yjk (Ym8 (Yd 2) (Yb Yh)) (Ygs (Yvl hr.units (Yb (Yap (Yd 3) (Yd 2))) (Yd 7))))) (Yp (Ybc 7 (Yap (Yd 3) (Yd 2)))) y4) (Yp (Ybk 3 sc_law_rule.nd (Yde (Yd 3) (Yb (y8 (Ykh rfl) Yqf rfl bl.Max boot_max (Ym (Yd 2) (Ym (Yb Yh) Ys))))))))) (Yn (Yaj (Yca hr.units (Yd 0) (Yb Yv)) (Yn (Yey 9 sc_law_rule.nd (Yy Yk)) (Yn (Yhf PassesOwn.never rfl (Yae (Yu (Yfd (fl:=none) (fh:=(some (kD (.int 2)))) (Yd 7) Yqk (Yk0 (Yb Yh))))) (Yz 10 sc_law_rule.nd) (Yn (Ybc 9 (Yhd (Yc (Yg 10) (Yc (Yg 5) Yk)))) (Yp (Ybk 5 sc_law_rule.nd (Yek hr.units (Yb (Yap (Yd 3) (Yb Yh))) (Yb Yh)))))) (Yn (Yaj (Yk1 (Yjk (Yca hr.units (Yb (y8 y9 Ycy rfl bl.Len PySem.boot_len (Ym (Yd 9) Ys))) (Yb Yh)) (Ygs (Yca hr.units (Yb (Yap (Yb (Yde (Yd 3) (Yb Yh))) (Yb Yh))) (Yb Yh))))) (Yp (Yl6 9 (Yb Yh) (Yhd (Yc (Yq (Yb (Yq (Yd 9) (Yb Yh))) (Yb Yh)) (Yc (Yvn (Yq (Yb (Yq (Yd 9) (Yb Yh))) (Yb Yh))) Yk))))) y4) (Yp (Yw (y7 Yaz Yfy rfl bl.Tuple boot_tuple (Ym (Yb (Yu (Yhe Yd1 Yex rfl bl.Sorted boot_sorted (Ym (Yd 9) Ys)))) Ys))))))) y4) (Yn (Yaj (Yca hr.units (Yd 0) (Yb Yv)) (Yp (Yw (Yhd (Yc (y7 Yaz Yfy rfl bl.Tuple boot_tuple (Ym (Yb (Yu (Yhe Yd1 Yex rfl bl.Sorted boot_sorted (Ym (Yd 7) Ys)))) Ys)) (Yc (Yg 5) Yk))))) y4) (Yp (Yw (Yhd (Yc (y7 Yaz Yfy rfl bl.Tuple boot_tuple (Ym (Yb (Yu (Yhe Yd1 Yex rfl bl.Sorted boot_sorted (Ym (Yd 7) Ys)))) Ys)) (Yc (Yg 6) Yk))))))))))))))))
theorem sc_law_drawn:FnScope ["script","kind","many","rules","hands","lights","k"] ["script"] (defScope (top 37)):=fns
theorem cs_law_drawn_0:CompSc ["script","kind","many","rules","hands","lights","k"] (defScope (top 37)) ["cell","kind","many"] [none,some 1,some 2] (fsc [(".0",.local),("cell",.local),("_law_rule",.globalImplicit),("kind",.free),("many",.free)]):=y0 (by decide +kernel)
def Yc2:Ro->Option D:=(cC (Ye (getV 1) (Ye (getV 0) (Ye (getV 2) aNil))) Yeg)
def Yc3:Ro->Option Out:=(sSeq (sMut 4 (b2 (lF (dLst (Ye (kD (.str "keeper")) (Ye (kD (.str "storm")) aNil)))) (b2 (cC (Ye (cC (Ye (getV 0) (Ye (b2 (kD (.int 2)) (getC 6) addI) aNil)) Yaf) (Ye (kD (.int 1442695040888963407)) aNil)) Ybw) (kD (.int 2)) modI) ixD) appD) (sMut 5 (mB (b2 (b2 (cC (Ye (cC (Ye (getV 0) (Ye (b2 (kD (.int 2)) (getC 6) addI) aNil)) Yaf) (Ye (kD (.int 2049848353892358983)) aNil)) Ybw) (kD (.int 2)) modI) (kD (.int 1)) (eqM false))) appD))
@[simp] def Yce:Ro->Option Out:=(wF [4] (sRet (lF (dLst (Ye (getV 1) (Ye (cC (Ye (getC 3) aNil) tupC) (Ye (getV 4) (Ye (lF (slF (getC 5) none (some (b2 (cC (Ye (getV 0) (Ye (kD (.int 2)) aNil)) Yaf) (b2 (getC 2) (kD (.int 1)) addI) modI)))) aNil))))))))
@[simp] def Ycf:Ro->Option Out:=(sSeq (sFor (cF (Ye (getV 2) aNil) rng1) (gSet 6) Yc3) Yce)
@[simp] def Yj3:Ro->Option Out:=(sSeq (sOwn 5 (dLst aNil)) Ycf)
@[simp] def Yj4:Ro->Option Out:=(sSeq (sOwn 4 (dLst aNil)) Yj3)
@[simp] def Ybn:Ro->Option Out:=(sSeq (sOwn 3 (Yb3 (b1 (lF (slF (getC 0) (some (kD (.int 3))) (some (b2 (kD (.int 3)) (b2 (cC (Ye (getV 0) (Ye (kD (.int 1)) aNil)) Yaf) (kD (.int 21)) modI) addI)))) Yr) [none,some 1,some 2] (gSet 0) tY (Yc2))) Yj4)
@[simp] def Yj5:Ro->Option Out:=(sSeq (sIf (b2 (b2 (b2 (cC (Ye (getV 0) (Ye (kD (.int 0)) aNil)) Yaf) (kD (.int 244)) divI) (kD (.int 2)) modI) (kD (.int 1)) (eqM false)) (sSet 2 (b2 (getC 2) (kD (.int 9)) modI)) sNil) Ybn)
@[simp] def Ycg:Ro->Option Out:=(sSeq (sSet 2 (b2 (b2 (cC (Ye (getV 0) (Ye (kD (.int 0)) aNil)) Yaf) (kD (.int 4)) divI) (kD (.int 61)) modI)) Yj5)
def Yhs:Ro->Option Out:=(sSeq (sSet 1 (b2 (lF (dLst (Ye (kD (.str "eithers")) (Ye (kD (.str "sums")) (Ye (kD (.str "ifs")) (Ye (kD (.str "nots")) aNil)))))) (b2 (cC (Ye (getV 0) (Ye (kD (.int 0)) aNil)) Yaf) (kD (.int 4)) modI) ixD)) Ycg)
def Ydj:List D->Option D:=runB 1 7 Yhs
theorem Ylh(bl:Bl K w mg):Okf P w K mg base 3 1 "_law_drawn" ["script"] Ydj:=by
 refine okfn bl.f37 sc_law_drawn fun hr=>?_
 exact(Yn (Ybk 1 sc_law_drawn.nd (Yq (Yb (Yu (Yy (Yc Yv (Yc Yv (Yc Yv (Yc Yv Yk))))))) (Yb (Yap (Yb (Yo (Ya9 bl) hr rfl (Yc (Yg 0) (Yc Yh Yk)) aL2)) (Yb Yh))))) (Yn (Ybk 2 sc_law_drawn.nd (Yap (Yb (Yde (Yb (Yo (Ya9 bl) hr rfl (Yc (Yg 0) (Yc Yh Yk)) aL2)) (Yb Yh))) (Yb Yh))) (Yn (Yaj (Yca hr.units (Yb (Yap (Yb (Yde (Yb (Yo (Ya9 bl) hr rfl (Yc (Yg 0) (Yc Yh Yk)) aL2)) (Yb Yh))) (Yb Yh))) (Yb Yh)) (Yp (Ybk 2 sc_law_drawn.nd (Yap (Yd 2) (Yb Yh)))) y4) (Yn (Ygt 3 sc_law_drawn.nd cs_law_drawn_0 rfl (Yae (Yu (Yfd (fl:=(some (kD (.int 3)))) (fh:=(some (b2 (kD (.int 3)) (b2 (cC (Ye (getV 0) (Ye (kD (.int 1)) aNil)) Yaf) (kD (.int 21)) modI) addI))) (Yd 0) (Yk0 (Yb Yh)) (Yk0 (Yb (Yjo (Yb Yh) (Yb (Yap (Yb (Yo (Ya9 bl) hr rfl (Yc (Yg 0) (Yc Yh Yk)) aL2)) (Yb Yh))))))))) (fun _ _ _ _ _=>(Yz 0 cs_law_drawn_0.nd)) (fun _ _ _ _ _=>Yaw) (fun _ _ _ _ _=>(Yo (Ymd bl) hr rfl (Yc (Yg 1) (Yc (Yg 0) (Yc (Yg 2) Yk))) aL3)) (Yau (i:=0) rfl)) (Yn (Yey 4 sc_law_drawn.nd (Yy Yk)) (Yn (Yey 5 sc_law_drawn.nd (Yy Yk)) (Yn (Yhf PassesOwn.never rfl (Yis rfl bl.Range (Yc (Yg 2) Yk)) (Yz 6 sc_law_drawn.nd) (Yn (Ybc 4 (Yq (Yb (Yu (Yy (Yc Yv (Yc Yv Yk))))) (Yb (Yap (Yb (Yo (Yd5 bl) hr rfl (Yc (Yo (Ya9 bl) hr rfl (Yc (Yg 0) (Yc (Yjo (Yb Yh) (Yd 6)) Yk)) aL2) (Yc Yh Yk)) aL2)) (Yb Yh))))) (Yp (Ybc 5 (Yek hr.units (Yb (Yap (Yb (Yo (Yd5 bl) hr rfl (Yc (Yo (Ya9 bl) hr rfl (Yc (Yg 0) (Yc (Yjo (Yb Yh) (Yd 6)) Yk)) aL2) (Yc Yh Yk)) aL2)) (Yb Yh))) (Yb Yh)))))) (Yp (Yjn [4] (Yw (Yu (Yy (Yc (Yg 1) (Yc (y7 Yaz Yfy rfl bl.Tuple boot_tuple (Ym (Yd 3) Ys)) (Yc (Yg 4) (Yc (Yu (Yfd (fl:=none) (fh:=(some (b2 (cC (Ye (getV 0) (Ye (kD (.int 2)) aNil)) Yaf) (b2 (getC 2) (kD (.int 1)) addI) modI))) (Yd 5) Yqk (Yk0 (Yb (Yap (Yb (Yo (Ya9 bl) hr rfl (Yc (Yg 0) (Yc Yh Yk)) aL2)) (Yb (Yjo (Yd 2) (Yb Yh)))))))) Yk))))))))))))))))
theorem Yfj:FnScope ["saying"] ["saying"] (defScope (top 38)):=fns
def Yc9:Ro->Option Out:=(sRet (b2 (b2 (lF (dLst (Ye (kD (.str "-")) (Ye (kD (.str "+")) aNil)))) (cC (Ye (b2 (getC 0) (kD (.int 1)) ixD) aNil) intC) ixD) (cC (Ye (b2 (getC 0) (kD (.int 0)) ixD) aNil) strC) addS))
def Ya1:List D->Option D:=runB 1 1 Yc9
theorem Yfk(bl:Bl K w mg):Okf P w K mg base 1 1 "_law_saying_word" ["saying"] Ya1:=by
 refine okfn bl.f38 Yfj fun hr=>?_
 exact(Yp (Yw (Ysp (Yb (Yq (Yb (Yu (Yy (Yc Yv (Yc Yv Yk))))) (Yb (y7 Ygv Yly rfl bl.Int boot_int (Ym (Yb (Yq (Yd 0) (Yb Yh))) Ys))))) (Yb (y7 Yb2 Yfi rfl bl.Str boot_str (Ym (Yb (Yq (Yd 0) (Yb Yh))) Ys))))))
theorem sc_law_rule_words:FnScope ["kind","rule","numbers","words"] ["kind","rule"] (defScope (top 39)):=fns
theorem cs_law_rule_words_0:CompSc ["kind","rule","numbers","words"] (defScope (top 39)) ["saying"] [none] (fsc [(".0",.local),("saying",.local),("_law_saying_word",.globalImplicit)]):=y0 (by decide +kernel)
theorem cs_law_rule_words_1:CompSc ["kind","rule","numbers","words"] (defScope (top 39)) ["beacon"] [none] (fsc [(".0",.local),("beacon",.local),("str",.globalImplicit)]):=y0 (by decide +kernel)
def Yba:Ro->Option D:=(cC (Ye (getV 0) aNil) Ya1)
def Yab:Ro->Option D:=(cC (Ye (getC 0) aNil) strC)
@[simp] def Yfl:Ro->Option Out:=(wF [3] (sRet (getV 3)))
@[simp] def Yfm:Ro->Option Out:=(sSeq (sIf (b2 (b2 (getC 1) (kD (.int 1)) ixD) (kD .non) (isN true)) (sMut 3 (cC (Ye (b2 (getC 1) (kD (.int 1)) ixD) aNil) strC) appD) sNil) Yfl)
@[simp] def Yfn:Ro->Option Out:=(sSeq (sOwn 3 (b2 (lF (b2 (lF (dLst (Ye (kD (.str "rule")) aNil))) (getC 2) catD)) (lF (dLst (Ye (kD (.str ">")) aNil))) catD)) Yfm)
@[simp] def Yfo:Ro->Option Out:=(sSeq (sIf (b2 (getC 0) (kD (.str "sums")) (eqM false)) (sRet (lF (b2 (lF (dLst (Ye (kD (.str "rule")) (Ye (b2 (lF (dLst (Ye (kD (.str "even")) (Ye (kD (.str "odd")) aNil)))) (cC (Ye (b2 (getC 1) (kD (.int 1)) ixD) aNil) intC) ixD) aNil)))) (getC 2) catD))) sNil) Yfn)
@[simp] def Yfp:Ro->Option Out:=(sSeq (sOwn 2 (Yb3 (b1 (b2 (getC 1) (kD (.int 0)) ixD) Yr) [none] (gSet 0) tY (Yab))) Yfo)
def Yas:Ro->Option Out:=(sSeq (sIf (b2 (getC 0) (kD (.str "eithers")) (eqM false)) (sRet (lF (b2 (lF (dLst (Ye (kD (.str "rule")) aNil))) (lF (Yb3 (b1 (getV 1) Yr) [none] (gSet 0) tY (Yba))) catD))) sNil) Yfp)
def Ya6:List D->Option D:=runB 2 4 Yas
theorem Yga(bl:Bl K w mg):Okf P w K mg base 2 2 "_law_rule_words" ["kind","rule"] Ya6:=by
 refine okfn bl.f39 sc_law_rule_words fun hr=>?_
 exact(Yn (Yaj (Yca hr.units (Yd 0) (Yb Yv)) (Yp (Yw (Yu (Ycz (Yb (Yu (Yy (Yc Yv Yk)))) (Yb (Yu (Yaq cs_law_rule_words_0 rfl (Yae (Yg 1)) (fun _ _ _ _ _=>(Yz 0 cs_law_rule_words_0.nd)) (fun _ _ _ _ _=>Yaw) (fun _ _ _ _ _=>(Yo (Yfk bl) hr rfl (Yc (Yg 0) Yk) aL1)) (Yau (i:=0) rfl)))))))) y4) (Yn (Ygt 2 sc_law_rule_words.nd cs_law_rule_words_1 rfl (Yae (Yq (Yd 1) (Yb Yh))) (fun _ _ _ _ _=>(Yz 0 cs_law_rule_words_1.nd)) (fun _ _ _ _ _=>Yaw) (fun _ _ _ _ _=>(y7 Yb2 Yfi rfl bl.Str boot_str (Ym (Yd 0) Ys))) (Yau (i:=0) rfl)) (Yn (Yaj (Yca hr.units (Yd 0) (Yb Yv)) (Yp (Yw (Yu (Ycz (Yb (Yu (Yy (Yc Yv (Yc (Yq (Yb (Yu (Yy (Yc Yv (Yc Yv Yk))))) (Yb (y7 Ygv Yly rfl bl.Int boot_int (Ym (Yb (Yq (Yd 1) (Yb Yh))) Ys)))) Yk))))) (Yd 2))))) y4) (Yn (Yey 3 sc_law_rule_words.nd (Ycz (Yb (Yu (Ycz (Yb (Yu (Yy (Yc Yv Yk)))) (Yd 2)))) (Yb (Yu (Yy (Yc Yv Yk)))))) (Yn (Yaj (Ym9 (Yb (Yq (Yd 1) (Yb Yh))) (Yb Ydd)) (Yp (Ybc 3 (y7 Yb2 Yfi rfl bl.Str boot_str (Ym (Yb (Yq (Yd 1) (Yb Yh))) Ys)))) y4) (Yp (Yjn [3] (Yw (Yg 3)))))))))
theorem sc_law_rows:FnScope ["kind","rules","hands","lights","rows","rule"] ["kind","rules","hands","lights"] (defScope (top 40)):=fns
theorem cs_law_rows_0:CompSc ["kind","rules","hands","lights","rows","rule"] (defScope (top 40)) ["hand"] [none] (fsc [(".0",.local),("hand",.local)]):=y0 (by decide +kernel)
theorem cs_law_rows_1:CompSc ["kind","rules","hands","lights","rows","rule"] (defScope (top 40)) ["lit"] [none] (fsc [(".0",.local),("lit",.local),("int",.globalImplicit)]):=y0 (by decide +kernel)
def Ydk:Ro->Option D:=(b2 (getC 0) (kD (.int 0)) ixS)
def Ydl:Ro->Option Out:=(sMut 4 (cC (Ye (getV 0) (Ye (getV 5) aNil)) Ya6) appD)
def Yfq:Ro->Option D:=(b2 (lF (dLst (Ye (kD (.str "0")) (Ye (kD (.str "1")) aNil)))) (cC (Ye (getC 0) aNil) intC) ixD)
@[simp] def Yli:Ro->Option Out:=(wF [4] (sRet (getV 4)))
@[simp] def Yd6:Ro->Option Out:=(sSeq (sIf (b2 (getC 3) (lF (dLst aNil)) (eqM true)) (sMut 4 (lF (dLst (Ye (kD (.str "settled")) (Ye (cC (Ye (lF (Yb3 (b1 (getV 3) Yr) [none] (gSet 0) tY (Yfq))) aNil) (Yfh (Str.ofString ""))) aNil)))) appD) sNil) Yli)
@[simp] def Yb6:Ro->Option Out:=(sSeq (sFor (b1 (getV 1) Yr) (gSet 5) Ydl) Yd6)
def Yiw:Ro->Option Out:=(Yst 4 (lF (dLst (Ye (kD (.str "kind")) (Ye (getV 0) aNil)))) (kD (.str "hands")) (b2 (getC 2) (lF (dLst aNil)) (eqM true)) (cC (Ye (lF (Yb3 (b1 (getV 2) Yr) [none] (gSet 0) tY (Ydk))) aNil) (Yfh (Str.ofString ""))) Yb6)
def Ybf:List D->Option D:=runB 4 6 Yiw
theorem Ye0(bl:Bl K w mg):Okf P w K mg base 3 4 "_law_rows" ["kind","rules","hands","lights"] Ybf:=by
 refine okfn bl.f40 sc_law_rows fun hr=>?_
 exact(Ysu 4 sc_law_rows.nd (Yu (Yy (Yc Yv (Yc (Yg 0) Yk)))) Yv (Ytr hr.units (Yd 2) (Yb (Yu (Yy Yk)))) (Ydf (Ym (Yb (Yu (Yaq cs_law_rows_0 rfl (Yae (Yg 2)) (fun _ _ _ _ _=>(Yz 0 cs_law_rows_0.nd)) (fun _ _ _ _ _=>Yaw) (fun _ _ _ _ _=>(Ywc (Yd 0) (Yb Yh) (fun _ _=>rfl))) (Yau (i:=0) rfl)))) Ys)) (Yn (Yhf PassesOwn.never rfl (Yae (Yg 1)) (Yz 5 sc_law_rows.nd) (Yp (Ybc 4 (Yo (Yga bl) hr rfl (Yc (Yg 0) (Yc (Yg 5) Yk)) aL2)))) (Yn (Yaj (Ytr hr.units (Yd 3) (Yb (Yu (Yy Yk)))) (Yp (Ybc 4 (Yu (Yy (Yc Yv (Yc (Ydf (Ym (Yb (Yu (Yaq cs_law_rows_1 rfl (Yae (Yg 3)) (fun _ _ _ _ _=>(Yz 0 cs_law_rows_1.nd)) (fun _ _ _ _ _=>Yaw) (fun _ _ _ _ _=>(Yq (Yb (Yu (Yy (Yc Yv (Yc Yv Yk))))) (Yb (y7 Ygv Yly rfl bl.Int boot_int (Ym (Yd 0) Ys))))) (Yau (i:=0) rfl)))) Ys)) Yk)))))) y4) (Yp (Yjn [4] (Yw (Yg 4)))))))
theorem Yme:FnScope ["rows"] ["rows"] (defScope (top 41)):=fns
theorem cs_law_page_0:CompSc ["rows"] (defScope (top 41)) ["row"] [none] (fsc [(".0",.local),("row",.local)]):=y0 (by decide +kernel)
def Ydm:Ro->Option D:=(cC (Ye (getC 0) aNil) (Yfh (Str.ofString " ")))
def Yix:Ro->Option Out:=(sRet (cC (Ye (lF (Yb3 (b1 (getV 0) Yr) [none] (gSet 0) tY (Ydm))) aNil) (Yfh (Str.ofString "\n"))))
def Ybg:List D->Option D:=runB 1 1 Yix
theorem Ye1(bl:Bl K w mg):Okf P w K mg base 1 1 "_law_page" ["rows"] Ybg:=by
 refine okfn bl.f41 Yme fun hr=>?_
 exact(Yp (Yw (Ydf (Ym (Yb (Yu (Yaq cs_law_page_0 rfl (Yae (Yg 0)) (fun _ _ _ _ _=>(Yz 0 cs_law_page_0.nd)) (fun _ _ _ _ _=>Yaw) (fun _ _ _ _ _=>(Ydf (Ym (Yd 0) Ys))) (Yau (i:=0) rfl)))) Ys))))
theorem Ymf:FnScope ["found","due"] ["found","due"] (defScope (top 42)):=fns
def Yiy:Ro->Option Out:=(sRet (andV (mB (b1 (getC 0) (isiD "str"))) (mB (b2 (getC 0) (getC 1) (eqM false)))))
def Ybh:List D->Option D:=runB 2 2 Yiy
theorem Ye2(bl:Bl K w mg):Okf P w K mg base 1 2 "_law_text" ["found","due"] Ybh:=by
 refine okfn bl.f42 Ymf fun hr=>?_
 exact(Yp (Yw (Yl4 (Yql (Yd 0) rfl rfl bl.Isinstance bl.Str boot_str (Yp2)) (Yjm (Yek hr.units (Yd 0) (Yd 1))))))
theorem Yht:FnScope ["self","book","hands"] ["self","book","hands"] (defScope (inClass (top 26) 0)):=fns
def Ycn:Ro->Option Out:=(sExp (cC (Ye (getV 1) (Ye (getV 2) aNil)) Ybl))
def Yd7:Ro->Option D:=(getV 1)
def Yd8:Ro->Option D:=(cC (Ye (getC 2) aNil) tupC)
theorem Yhu(bl:Bl K w mg):OkI P w K mg base 4 ["self","book","hands"] Ycn Yd7 Yd8:=by
 refine okin bl.w_init bl.cW Yht bl.n_book.cf bl.n_hands.cf bl.n_truths.cf fun hr=>?_
 exact(Ycq (zuS (Ysh (Yo (Yic bl) hr rfl (Yc (Yg 1) (Yc (Yg 2) Yk)) aL2))) (Ycq (Yo5 (pv 0) (zuE (Yg 1)) rfl) (Ycq (Yo5 (pv 0) (zuE (y7 Yaz Yfy rfl bl.Tuple boot_tuple (Ym (Yd 2) Ys))) rfl) (Yi3 (Yo5 (pv 0) (Yms Yc4) rfl)))))
theorem Yj6:FnScope ["self"] ["self"] (defScope (inClass (top 26) 1)):=fns
def Yd9:Ro->Option Out:=(sSeq (sIf (b2 (cC (Ye (b1 (getV 0) (fldD "Watch" "truths")) aNil) lenC) (cC (Ye (b1 (getV 0) (fldD "Watch" "hands")) aNil) lenC) (eqM false)) (sRet (kD .non)) sNil) (sRet (b2 (b1 (getV 0) (fldD "Watch" "hands")) (cC (Ye (b1 (getV 0) (fldD "Watch" "truths")) aNil) lenC) ixD)))
def Yag:List D->Option D:=runB 1 1 Yd9
theorem Yfr(bl:Bl K w mg):Okm P w K mg base 1 "Watch" "turn" ["self"] (spOf K 1 Yag):=by
 refine okmn bl.w_turn Yj6 fun hr=>?_
 exact(Yn (Yaj (Yca hr.units (Yb (y8 y9 Ycy rfl bl.Len PySem.boot_len (Ym (Yb (Yci bl.n_truths.cf (Yg 0))) Ys))) (Yb (y8 y9 Ycy rfl bl.Len PySem.boot_len (Ym (Yb (Yci bl.n_hands.cf (Yg 0))) Ys)))) (Yp (Yw Ydd)) y4) (Yp (Yw (Yq (Yb (Yci bl.n_hands.cf (Yg 0))) (Yb (y8 y9 Ycy rfl bl.Len PySem.boot_len (Ym (Yb (Yci bl.n_truths.cf (Yg 0))) Ys)))))))
theorem Yhv:FnScope ["self"] ["self"] (defScope (inClass (top 26) 4)):=fns
def Yb0:Ro->Option Out:=(sSeq (sIf (b2 (b1 (getV 0) (mthD "Watch" "turn" Yag)) (kD .non) (isN true)) (sRet (kD .non)) sNil) (sRet (ifV (b1 (cC (Ye (b1 (getV 0) (fldD "Watch" "book")) (Ye (b1 (getV 0) (fldD "Watch" "truths")) aNil)) Yjx) truD) (kD (.str "keeper")) (kD (.str "storm")))))
def Yat:List D->Option D:=runB 1 1 Yb0
theorem Yhw(bl:Bl K w mg):Okm P w K mg base 5 "Watch" "winner" ["self"] (spOf K 1 Yat):=by
 refine okmn bl.w_winner Yhv fun hr=>?_
 exact(Yn (Yaj (Ym9 (Yb (Yd3 (Yfr bl) hr (Yg 0))) (Yb Ydd)) (Yp (Yw Ydd)) y4) (Yp (Yw (Yiq (Ybo (Yb (Yo (Ysw bl) hr rfl (Yc (Yci bl.n_book.cf (Yg 0)) (Yc (Yci bl.n_truths.cf (Yg 0)) Yk)) aL2))) Yv Yv))))
theorem Yhx:FnScope ["self","lit"] ["self","lit"] (defScope (inClass (top 26) 5)):=fns
def Yb1(l:Addr):Wm:=(seqW (ifW (Yjt l 0 (b2 (b1 (getV 0) (mthD "Watch" "turn" Yag)) (kD .non) (isN false))) (Yf5 nS) nilW) (seqW (Yf5 (sIf (andT (b2 (getC 1) (kD (.bl true)) (isB true)) (b2 (getC 1) (kD (.bl false)) (isB true))) nS sNil)) (seqW (appW l 0 (getV 1)) (retL l 0 (b1 (getV 0) (mthD "Watch" "winner" Yat))))))
theorem Yhy(bl:Bl K w mg):Okm P w K mg base 6 "Watch" "settle" ["self","lit"] (spS K Yb1):=by
 refine okms bl.w_settle Yhx fun hr=>?_
 exact(Ycc (Ync (Ygu 0 (Yl5 (Yb (Yd3 (Yfr bl) hr (Yg 0))) (Yb Ydd))) (Yd2 (Yed Yc7)) Yju) (Ycc (Yed (Yaj (Yk1 (Yjk (Yna (Yd 1) (Yb Yip)) (Ygs (Yna (Yd 1) (Yb Yip))))) (Yp Yc7) y4)) (Ycc (Yv2 0 bl.n_truths.cf (Yg 1)) (Yd2 (Ynd 0 (Yd3 (Yhw bl) hr (Yg 0)))))))
theorem Yj7:FnScope ["self"] ["self"] (defScope (inClass (top 26) 6)):=fns
def Ycw(l:Addr):Wm:=(seqW (ifW (Yjt l 0 (b2 (cC (Ye (b1 (getV 0) (fldD "Watch" "truths")) aNil) lenC) (kD (.int 0)) (eqM false))) (Yf5 nS) nilW) (Yne l 0))
theorem Yj8(bl:Bl K w mg):Okm P w K mg base 1 "Watch" "back" ["self"] (spB K Ycw):=by
 refine okmb bl.w_back Yj7 fun hr=>?_
 exact(Ycc (Ync (Ygu 0 (Yca hr.units (Yb (y8 y9 Ycy rfl bl.Len PySem.boot_len (Ym (Yb (Yci bl.n_truths.cf (Yg 0))) Ys))) (Yb Yh))) (Yd2 (Yed Yc7)) Yju) (Yd2 (Yoi 0 bl.n_truths.cf)))
theorem sc_law:FnScope ["script","kind","rules","hands","lights","watch","lit"] ["script"] (defScope (top 43)):=fns
def Ynl(l:Addr):Wm:=(Yoj l 5 (getV 6) Yb1)
def Yq9(l:Addr):Wm:=(retL l 5 (cC (Ye (cC (Ye (getV 5) aNil) Yaa) (Ye (cC (Ye (cC (Ye (getV 1) (Ye (getV 2) (Ye (getV 3) (Ye (lF (slF (getC 4) none (some (b1 (kD (.int 1)) negI)))) aNil)))) Ybf) aNil) Ybg) aNil)) Ybh))
def Yra(l:Addr):Wm:=(seqW (Yq5 l 5 Ycw) (Yq9 l))
def Yj9(l:Addr):Wm:=(seqW (Yf5 (sIf (b2 (getC 4) (lF (dLst aNil)) (eqM false)) (sRet (kD (.bl true))) sNil)) (Yra l))
def Yrb(l:Addr):Wm:=(seqW (ifW (Yjt l 5 (notT (b1 (cC (Ye (cC (Ye (getV 5) aNil) Yaa) (Ye (cC (Ye (cC (Ye (getV 1) (Ye (getV 2) (Ye (getV 3) (Ye (getV 4) aNil)))) Ybf) aNil) Ybg) aNil)) Ybh) truD))) (Yf5 (sRet (kD (.bl false)))) nilW) (Yj9 l))
def Yrc(l:Addr):Wm:=(seqW (Yog (b1 (getV 4) Yr) (gSet 6) (Ynl l)) (Yrb l))
def Ymg(l:Addr):Wm:=(seqW (ifW (Yjt l 5 (notT (b1 (cC (Ye (cC (Ye (getV 5) aNil) Yaa) (Ye (cC (Ye (cC (Ye (getV 1) (Ye (getV 2) (Ye (getV 3) (Ye (lF (dLst aNil)) aNil)))) Ybf) aNil) Ybg) aNil)) Ybh) truD))) (Yf5 (sRet (kD (.bl false)))) nilW) (Yrc l))
def Ymh:Ro->Option Out:=(Yoh 5 [] Ycn Yd7 Yd8 (dTup (Ye (getV 1) (Ye (getV 2) aNil))) (getV 3) Ymg)
def Yy9:Ro->Option Out:=(sSeq (sAsg (cC (Ye (getV 0) aNil) Ydj) (Ynj 1 2 3 4)) Ymh)
def Ymi:List D->Option D:=runB 1 7 Yy9
theorem Yza(bl:Bl K w mg){a:Addr}{fd:FuncData}(F:Fun K "law" "law" (top 43) a fd):FnOk P w K mg base CX0 7 a fd ["script"] (spOf K 1 Ymi):=by
 refine Yf3 (k:=6) F sc_law rfl rfl fun cdv A outer s H E hr=>?_
 exact(Yn (Yvt (Yq4 1 2 3 4 rfl sc_law.nd) (Yo (Ylh bl) hr rfl (Yc (Yg 0) Yk) aL1)) (Ysn 5 [] (Yhu bl) hr rfl (Yhd (Yc (Yg 1) (Yc (Yg 2) Yk))) (Yg 3) sc_law.nd (fun l=>(Ycc (Ync (Ygu 5 (Yjl (Ybo (Yb (Yo (Ye2 bl) hr rfl (Yc (Yo (Ycm bl) hr rfl (Yc (Yg 5) Yk) aL1) (Yc (Yo (Ye1 bl) hr rfl (Yc (Yo (Ye0 bl) hr rfl (Yc (Yg 1) (Yc (Yg 2) (Yc (Yg 3) (Yc (Yu (Yy Yk)) Yk)))) aL4) Yk) aL1) Yk)) aL2))))) (Yd2 (Yed (Yw Yip))) Yju) (Ycc (Yv1 PassesOwn.never rfl (Yae (Yg 4)) (Yz 6 sc_law.nd) (Yd2 (Yl9 5 (Yhy bl) hr (Yg 6)))) (Ycc (Ync (Ygu 5 (Yjl (Ybo (Yb (Yo (Ye2 bl) hr rfl (Yc (Yo (Ycm bl) hr rfl (Yc (Yg 5) Yk) aL1) (Yc (Yo (Ye1 bl) hr rfl (Yc (Yo (Ye0 bl) hr rfl (Yc (Yg 1) (Yc (Yg 2) (Yc (Yg 3) (Yc (Yg 4) Yk)))) aL4) Yk) aL1) Yk)) aL2))))) (Yd2 (Yed (Yw Yip))) Yju) (Ycc (Yed (Yaj (Yca hr.units (Yd 4) (Yb (Yu (Yy Yk)))) (Yp (Yw Yip)) y4)) (Ycc (Yq6 5 (Yj8 bl) hr) (Yd2 (Ynd 5 (Yo (Ye2 bl) hr rfl (Yc (Yo (Ycm bl) hr rfl (Yc (Yg 5) Yk) aL1) (Yc (Yo (Ye1 bl) hr rfl (Yc (Yo (Ye0 bl) hr rfl (Yc (Yg 1) (Yc (Yg 2) (Yc (Yg 3) (Yc (Yu (Yfd (fl:=none) (fh:=(some (b1 (kD (.int 1)) negI))) (Yd 4) Yqk (Yk0 (Yb (Yvo (Yb Yh)))))) Yk)))) aL4) Yk) aL1) Yk)) aL2)))))))))))
end
abbrev Yka:Nat:=7
theorem all_mk{l:W.OpenLaw}{w:World}{K:W.Frag}{h:Heap}{mg:Str->Option Value}{fa um:Addr}(X:K.In h)(G:h.Ns mainGlobals mg)(hfa:mg "law"=some (.ref fa))
 {u6 uu:Option Addr} {u7:Array (Option Value)} {u8 uv uw ux uf uy:Value}
 (F_either_holds:Fk K "either_holds" 8)
 (F_sum_holds:Fk K "sum_holds" 9)
 (F_if_holds:Fk K "if_holds" 10)
 (F_rule_holds:Fk K "rule_holds" 11)
 (F_broken_rules:Fk K "broken_rules" 12)
 (F_holds:Fk K "holds" 13)
 (F_beacons_in:Fk K "beacons_in" 14)
 (F_beacons_of:Fk K "beacons_of" 15)
 (F_is_hand:Fk K "is_hand" 24)
 (F_check_hands:Fk K "check_hands" 25)
 (F_saying_written:Fk K "saying_written" 29)
 (F_rule_written:Fk K "rule_written" 30)
 (F_signs_written:Fk K "signs_written" 31)
 (ua:Mq K "Watch" "evening" "Watch.evening" (inClass (top 26) 2))
 (F_page_written:Fk K "page_written" 32)
 (F_law_cell:Fk K "_law_cell" 34)
 (F_law_mixed:Fk K "_law_mixed" 35)
 (F_law_rule:Fk K "_law_rule" 36)
 (F_law_drawn:Fk K "_law_drawn" 37)
 (F_law_saying_word:Fk K "_law_saying_word" 38)
 (F_law_rule_words:Fk K "_law_rule_words" 39)
 (F_law_rows:Fk K "_law_rows" 40)
 (F_law_page:Fk K "_law_page" 41)
 (F_law_text:Fk K "_law_text" 42)
 (F_Watch___init:Iq K (inClass (top 26) 0))
 (ug:Mq K "Watch" "turn" "Watch.turn" (inClass (top 26) 1))
 (ue:Mq K "Watch" "winner" "Watch.winner" (inClass (top 26) 4))
 (F_Watch_settle:Mq K "Watch" "settle" "Watch.settle" (inClass (top 26) 5))
 (F_Watch_back:Mq K "Watch" "back" "Watch.back" (inClass (top 26) 6))
 (u9:W.nsIn K mainGlobals "law"=some (some (.ref um))) (vd:K.lookup um=some ⟨u8,u6,.func (W.fnOf "law" "law" (defArgs (top 43)) (defBody (top 43)) (defScope (top 43)) .none uv uw ux uu uf uy),u7⟩) (ve:W.codeIn K uf "law"=true) (vf:W.keepIn K (.ref um)=true)
 (N_book:Nq K "Watch" "book")
 (N_hands:Nq K "Watch" "hands")
 (N_truths:Nq K "Watch" "truths")
 {ub:Tok} (uc:W.nsIn K mainGlobals "BEACON_COUNT"=some (some (.int 60 ub)))
 {uh:Addr} {uz:_} {u0:_} {u3:_} {ur ut:_} (u4:W.nsIn K mainGlobals "HANDS"=some (some (.ref uh))) (u5:K.lookup uh=some ⟨.type "tuple",uz,.seq #[.str "keeper" ur,.str "storm" ut] u0,u3⟩)
 {ud:Addr} {uo:_} {ui uj uk ul:_} (up:W.nsIn K mainGlobals "LETTERS"=some (some (.ref ud))) (uq:K.lookup ud=some ⟨.type "dict",none,.dict #[⟨PyData.keyHash w.params (Str.ofString "keeper"),.str "keeper" ui,.str "k" uj⟩,⟨PyData.keyHash w.params (Str.ofString "storm"),.str "storm" uk,.str "s" ul⟩] uo,#[]⟩)
 (z_len:W.nsIn K mainGlobals "len"=some none)
 (z_range:W.nsIn K mainGlobals "range"=some none)
 (z_list:W.nsIn K mainGlobals "list"=some none)
 (z_tuple:W.nsIn K mainGlobals "tuple"=some none)
 (z_int:W.nsIn K mainGlobals "int"=some none)
 (z_str:W.nsIn K mainGlobals "str"=some none)
 (z_sorted:W.nsIn K mainGlobals "sorted"=some none)
 (z_any:W.nsIn K mainGlobals "any"=some none)
 (z_all:W.nsIn K mainGlobals "all"=some none)
 (z_isinstance:W.nsIn K mainGlobals "isinstance"=some none)
 (z_enumerate:W.nsIn K mainGlobals "enumerate"=some none)
 (z_set:W.nsIn K mainGlobals "set"=some none)
 (z_max:W.nsIn K mainGlobals "max"=some none)
 : ∃fd:FuncData,(∀(s:Shared) (v:Value),BindsTo s fd ⟨[v],[]⟩ [("script",v)])/\∀base:Heap,K.In base->base.Ns mainGlobals mg->FnOk l.prog w K mg base CX0 Yka fa fd ["script"] (spOf K 1 Ymi):=by
 have e:=hfa.symm.trans (W.mg_of X G u9)
 cases e
 have bl:Bl K w mg:=⟨W.mg_none_of X G z_len,W.mg_none_of X G z_range,W.mg_none_of X G z_list,W.mg_none_of X G z_tuple,W.mg_none_of X G z_int,W.mg_none_of X G z_str,W.mg_none_of X G z_sorted,W.mg_none_of X G z_any,W.mg_none_of X G z_all,W.mg_none_of X G z_isinstance,W.mg_none_of X G z_enumerate,W.mg_none_of X G z_set,W.mg_none_of X G z_max,⟨_,W.mg_of X G uc⟩,⟨_,_,_,_,W.mg_of X G u4,u5,rfl,rfl,(.cons ⟨⟨_,rfl⟩,by decide +kernel⟩ (.cons ⟨⟨_,rfl⟩,by decide +kernel⟩ .nil))⟩,⟨_,_,_,_,W.mg_of X G up,uq,⟨rfl,rfl,rfl⟩,rfl,(.cons ⟨rfl,⟨_,rfl⟩,⟨_,rfl⟩,by decide +kernel⟩ (.cons ⟨rfl,⟨_,rfl⟩,⟨_,rfl⟩,by decide +kernel⟩ .nil))⟩,F_either_holds.on X G,F_sum_holds.on X G,F_if_holds.on X G,F_rule_holds.on X G,F_broken_rules.on X G,F_holds.on X G,F_beacons_in.on X G,F_beacons_of.on X G,F_is_hand.on X G,F_check_hands.on X G,F_saying_written.on X G,F_rule_written.on X G,F_signs_written.on X G,ua,F_page_written.on X G,F_law_cell.on X G,F_law_mixed.on X G,F_law_rule.on X G,F_law_drawn.on X G,F_law_saying_word.on X G,F_law_rule_words.on X G,F_law_rows.on X G,F_law_page.on X G,F_law_text.on X G,F_Watch___init,ug,ue,F_Watch_settle,F_Watch_back,fun C h=>W.mg_of X G h,N_book,N_hands,N_truths⟩
 have vg:=Ymv (st:=(top 43)) vd ve vf
 refine⟨W.fnOf "law" "law" (defArgs (top 43)) (defBody (top 43)) (defScope (top 43)) .none uv uw ux uu uf uy,fun s v=>.of_eq rfl,fun base _ _=>?_⟩
 exact Yza bl vg
theorem walk(hlaw:∀ns:List Int,ns.length<=63->Ymi [.scr ns]=some (.bl true)){l:W.OpenLaw}{q:Program}{loose:List Str}{XP:(Str->Option Value)->Heap->Prop}{YP:World->Heap->Prop}{d:DefRec}{K:Params->W.Frag}(hn:l.most=some 63)(hdf:d.params.defaults=[])
 (hY:∀(w:World) (h:Heap),YP w h->(K w.params).In h)
 (F:∀(w:World) (mg:Str->Option Value) (fa:Addr) (h:Heap),(K w.params).In h->h.Ns mainGlobals mg->mg d.name=some (.ref fa)->
  ∃fd:FuncData,(∀(s:Shared) (u:Value),BindsTo s fd ⟨[u],[]⟩ [("script",u)])/\∀base:Heap,(K w.params).In base->base.Ns mainGlobals mg->FnOk l.prog w (K w.params) mg base CX0 Yka fa fd ["script"] (spOf (K w.params) 1 Ymi)) :
 W.WalkO q loose XP YP l.row.toRowW d [] (fun f vs=>PySem.call f vs):=
 L2.walk_of (n:=63) (k:=Yka) (x:="script") (CX:=fun _=>CX0) (sp:=fun w=>spOf (K w.params) 1 Ymi) hn (by decide) hdf ⟨rfl,by decide,by decide⟩ hY F
  (fun w H a ns hl _ hS=>⟨rfl,[.scr ns],.bl true,H,Same.refl H,.one (by rw[Rp];exact⟨a,rfl,hS⟩),hlaw ns hl,fun v H' G' g r=>by rw[Rp]at r;exact r⟩) fun _ _ _ _ _ z=>z
end Lw
namespace Lw
open PySem L2 M Bk
theorem Ynm:∀(l acc:List Int) (x:Int),x∈ddup acc l↔x∈acc\/x∈l
 | [],acc,x=>by simp[ddup]
 | k::l,acc,x=>by
   rw[ddup,Ynm]
   by_cases h:k∈acc
   ·rw[if_pos h]
    simp
    constructor
    ·rintro(h1 | h1)
     ·exact .inl h1
     ·exact .inr (.inr h1)
    ·rintro(h1 | h1 | h1)
     ·exact .inl h1
     ·subst h1;exact .inl h
     ·exact .inr h1
   ·rw[if_neg h]
    simp[or_assoc]
theorem Yiz:∀(l acc:List Int),acc.Nodup->(ddup acc l).Nodup
 | [],_,h=>h
 | k::l,acc,h=>by
   rw[ddup]
   refine Yiz l _ ?_
   by_cases hk:k∈acc
   ·rw[if_pos hk];exact h
   ·rw[if_neg hk,List.nodup_append]
    refine⟨h,by simp,fun x hx y hy z=>?_⟩
    simp at hy
    subst hy
    exact hk (z ▸ hx)
theorem Ysx{n:Nat}(hn:n < 64)(l:List Nat)(h:∀x∈l,x < n)(hl:l.length < 4000):∃l':List Nat,l'.Pairwise (· < ·)/\(∀x,x∈l'↔x∈l)/\Yqj (l.map nD)=some (l'.map nD):=by
 have e1:l.map nD=(l.map Int.ofNat).map D.int:=by simp[nD,Function.comp_def]
 generalize hd:ddup [] (l.map Int.ofNat)=d
 have hnd:d.Nodup:=by rw[<-hd];exact Yiz _ _ .nil
 have hmem:∀x,x∈d↔∃y∈l,(y:Int)=x:=fun x=>by rw[<-hd,Ynm];simp
 have hp:=Ya0 d
 have hs:=Yav d
 obtain⟨l',e2⟩:∃l':List Nat,Yc6 d=l'.map Int.ofNat:=by
  refine⟨(Yc6 d).map Int.toNat,?_⟩
  rw[List.map_map]
  refine(List.map_id _).symm.trans (List.map_congr_left fun x hx=>?_)
  obtain⟨y,_,rfl⟩:=(hmem x).mp (hp.mem_iff.mp hx)
  simp[Function.comp_def]
 have hm2:∀x,x∈l'↔x∈l:=fun x=>by
  have h1:x∈l'↔(x:Int)∈Yc6 d:=by
   rw[e2]
   constructor
   ·exact fun h=>List.mem_map_of_mem (f:=Int.ofNat) h
   ·intro h
    obtain⟨y,hy,hyx⟩:=qv h
    have:y=x:=by simpa using hyx
    exact this ▸ hy
  rw[h1,hp.mem_iff,hmem]
  constructor
  ·rintro⟨y,hy,hyx⟩
   have:y=x:=by lia
   exact this ▸ hy
  ·exact fun h=>⟨x,h,rfl⟩
 have hpw:l'.Pairwise (· < ·):=by
  rw[e2]at hp hs
  have hn':l'.Nodup:=by
   have:=hp.nodup_iff.mpr hnd
   rw[List.nodup_iff_pairwise_ne,List.pairwise_map]at this
   exact this.imp fun h z=>h (by rw[z])
  have hs':l'.Pairwise (·<=·):=(List.pairwise_map.mp hs).imp fun h=>by simpa using h
  exact(hs'.and hn').imp fun h=>Nat.lt_of_le_of_ne h.1 h.2
 have hlen:d.length<=n:=by
  rw[<-hp.length_eq,e2,qe]
  exact Yqv hpw fun x hx=>h x ((hm2 x).mp hx)
 refine⟨l',hpw,hm2,?_⟩
 unfold Yqj
 rw[e1,Yk4]
 dsimp only
 rw[if_pos ⟨by rw[qe];exact hl,by rw[hd];lia⟩,hd,e2]
 simp[nD,Function.comp_def]
end Lw
namespace Lw
open PySem L2 M Bk
theorem Ynn(ns:List Int)(k:Nat):Yaf [.scr ns,.int k]=some (.int (ns.getD k 0)):=by
 rw[Yaf,Yak (by rfl)]
 by_cases h:k < ns.length
 ·have e:atI (ns.map D.int) (k:Int)=some (.int ns[k]):=by
   rw[Yl8,Yjq h]
   rfl
  simp[Yf8,Yx,h,e]
 ·simp[Yf8,Yx,h]
end Lw
namespace Lw
open PySem L2 M Bk
theorem Ywe(ns:List Int)(a b:Nat):cutD (ns.map D.int) (some (a:Int)) (some (b:Int))=((ns.drop (min a ns.length)).take (min b ns.length - min a ns.length)).map D.int:=by
 unfold cutD
 rw[HT.sIx_nat,HT.sIx_nat]
 simp
theorem drawn{fe:Ro->Option D}{r:Ro}{P:Rl->Prop}(h:∀c:Int,∃x:Rl,P x/\fe (some (.sh (.int c))::r)=some (rlD x)):∀cells:List Int,∃R:List Rl,R.length=cells.length/\(∀x∈R,P x)/\Yew (gSet 0) tY fe (none::r) (cells.map D.int)=some (R.map rlD)
 | []=>⟨[],rfl,fun _ h=>(nomatch h),rfl⟩
 | c::cells=>by
   obtain⟨R,h1,h2,h3⟩:=drawn h cells
   obtain⟨x,hx,hr⟩:=h c
   refine⟨x::R,by simp[h1],fun y hy=>?_,?_⟩
   ·rcases qr hy with rfl | hy
    ·exact hx
    ·exact h2 y hy
   ·rw[qy,Yew,h3]
    simp[hr]
end Lw
namespace Lw
open PySem L2 M Bk
theorem Ymj(c m:Int):∃v:Int,0<=v/\Ybw [.int c,.int m]=some (.int v):=by
 refine⟨c % 2305843009213693951 * m % 2305843009213693951,Int.emod_nonneg _ (by decide),?_⟩
 rw[Ybw,Yak (by rfl)]
 have h1:0<=c % 2305843009213693951:=Int.emod_nonneg _ (by decide)
 have h2:c % 2305843009213693951 < 2305843009213693951:=Int.emod_lt_of_pos _ (by decide)
 have h3:mulI (.int (c % 2305843009213693951)) (.int m)=some (.int (c % 2305843009213693951 * m)):=Ysi ⟨by lia,by lia⟩
 simp[Yhr,Yx,h3]
end Lw
namespace Lw
open PySem L2 M Bk
theorem Ysy(l:List Nat)(hn:l.Nodup)(hl:l.length < 64):∃l':List Nat,l'.Perm l/\l'.Pairwise (· < ·)/\Yjf [.lst (l.map nD)]=some (l'.map nD):=by
 have e1:l.map nD=(l.map Int.ofNat).map D.int:=by simp[nD,Function.comp_def]
 have hp:=Ya0 (l.map Int.ofNat)
 have hs:=Yav (l.map Int.ofNat)
 have e2:∃l':List Nat,Yc6 (l.map Int.ofNat)=l'.map Int.ofNat:=by
  have hm:∀x∈Yc6 (l.map Int.ofNat),0<=x:=fun x hx=>by
   obtain⟨y,_,rfl⟩:=qv (hp.mem_iff.mp hx)
   exact Int.natCast_nonneg y
  refine⟨(Yc6 (l.map Int.ofNat)).map Int.toNat,?_⟩
  rw[List.map_map]
  refine(List.map_id _).symm.trans (List.map_congr_left fun x hx=>?_)
  have:=hm x hx
  simp[Function.comp_def]
  lia
 obtain⟨l',e2⟩:=e2
 rw[e2]at hp hs
 have hp':l'.Perm l:=by
  have:=hp.map Int.toNat
  simpa [Function.comp_def]using this
 refine⟨l',hp',?_,?_⟩
 ·have hn':l'.Nodup:=hp'.nodup_iff.mpr hn
  have hs':l'.Pairwise (·<=·):=by
   have:=List.pairwise_map.mp hs
   exact this.imp fun h=>by simpa using h
  exact(hs'.and hn').imp fun h=>Nat.lt_of_le_of_ne h.1 h.2
 ·show Yr9 (l.map nD)=_
  rw[e1]
  unfold Yr9
  rw[Yk4]
  simp[hl,e2,nD,Function.comp_def]
theorem Ysz(l:List Say)(h:l.length<=2)(hn:l.Nodup):∃l':List Say,l'.Perm l/\l'.Pairwise slt/\Yjf [.lst (l.map sayD)]=some (l'.map sayD):=by
 match l,h,hn with
 | [],_,_=>exact⟨[],.refl _,.nil,rfl⟩
 | [a],_,_=>exact⟨[a],.refl _,by simp,rfl⟩
 | [a,b],_,hn=>
   have hab:a≠b:=by simpa using hn
   have e:Yjf [.lst ([a,b].map sayD)]=some (if plt b.1 b.2 a.1 a.2=true then [sayD b,sayD a]else [sayD a,sayD b]):=rfl
   obtain⟨x,p⟩:=a
   obtain⟨y,q⟩:=b
   cases hp:plt (y:Int) q (x:Int) p with
   | true=>
     refine⟨[(y,q),(x,p)],.swap _ _ [],?_,by rw[e];simp[hp]⟩
     unfold plt at hp
     have:slt (y,q) (x,p):=by
      unfold slt
      split at hp
      ·rename_i hxy
       simp at hp
       exact .inr ⟨by lia,hp.1,hp.2⟩
      ·simp at hp
       exact .inl hp
     simpa using this
   | false=>
     refine⟨[(x,p),(y,q)],.refl _,?_,by rw[e];simp[hp]⟩
     unfold plt at hp
     have:slt (x,p) (y,q):=by
      unfold slt
      split at hp
      ·rename_i hxy
       have hxy':y=x:=by lia
       subst hxy'
       have hpq:p≠q:=fun z=>hab (by rw[z])
       refine .inr ⟨rfl,?_⟩
       cases p<;>cases q<;>simp at hp hpq ⊢
      ·rename_i hxy
       simp at hp
       left
       show x < y
       lia
     simpa using this
end Lw
namespace Lw
open PySem L2 M Bk
section
variable {c:D} {ev:List Bool} (hc:Yr c=some (ev.map D.bl))
include hc
theorem Yid{l:List Say}(hl:∀s∈l,s.1 < ev.length):Ybx [rlD (.ei l),c]=some (.bl (l.any fun s=>at' ev s.1==s.2)):=by
 have h:=Ydu (fe:=Ybp) (r:=[some (.sh c)]) (enc:=sayD) (fun s=>.bl (at' ev s.1==s.2)) (l:=l) (fun s hs=>by
  simp[Ybp,hc,Ysk (hl s hs)])
 rw[Ybx,Yak (by rfl)]
 simp[Yel,Yx,capR,h,Function.comp_def]
theorem Ymk{b:List Nat}{o:Bool}(hl:∀x∈b,x < ev.length):Ydg [rlD (.su b o),c]=some (.bl (decide ((b.filter (at' ev)).length % 2=1)==o)):=by
 have h:=Yyx (fc:=Yc0) (fe:=Yc1) (r:=[some (.sh c)]) (enc:=nD) (at' ev) nD (l:=b) (fun s hs=>by
  simp[Yc0,hc,nD,Ysk (hl s hs)]) (fun s _ _=>by simp[Yc1])
 have e:∀n:Nat,decide (((n:Nat):Int) % 2=1)=decide (n % 2=1):=fun n=>by
  by_cases z:n % 2=1
  ·have:((n:Nat):Int) % 2=1:=by lia
   simp[z,this]
  ·have:¬((n:Nat):Int) % 2=1:=by lia
   simp[z,this]
 rw[Ydg,Yak (by rfl)]
 simp[Yhk,Yx,capR,h,e]
theorem Yi0{b:List Nat}{h:Option Nat}{w:Bool}(hl:∀x∈b,x < ev.length)(hh:∀x,h=some x->x < ev.length):Yef [rlD (.im b h),c,.bl w]=some (.bl ((b.any fun x=>at' ev x != w)||hd ev w h)):=by
 have h1:=Ydu (fe:=Ydh) (r:=[some (.sh c),some (.sh (.bl w))]) (enc:=nD) (fun x=>.bl (at' ev x != w)) (l:=b) (fun s hs=>by
  simp[Ydh,hc,nD,Ysk (hl s hs),bne])
 rw[Yef,Yak (by rfl)]
 cases hb:(b.any fun x=>at' ev x != w)with
 | true=>simp[Yee,Yx,capR,h1,Function.comp_def,hb]
 | false=>
   cases h with
   | none=>simp[Yee,Yx,capR,h1,Function.comp_def,hb,optD,hd]
   | some x=>simp[Yee,Yx,capR,h1,Function.comp_def,hb,optD,hd,hc,Ysk (hh x rfl)]
theorem Ylj{k:Kd}{r:Rl}(hr:In k ev.length r):Ycs [kdD k,rlD r,c]=some (.bl (so k ev r)):=by
 rw[Ycs,Yak (by rfl)]
 cases r with
 | ei l=>
   obtain⟨rfl,hl⟩:=hr
   simp[Yb4,Yx,Yid hc hl,so]
 | su b o=>
   obtain⟨rfl,hl⟩:=hr
   simp[Yb4,Yx,Ymk hc hl,so]
 | im b h=>
   obtain⟨hk,hl,hh⟩:=hr
   rcases hk with rfl | rfl
   ·simp[Yb4,Yx,Yi0 hc hl hh,so]
   ·simp[Yb4,Yx,Yi0 hc hl hh,so]
end
end Lw
namespace Lw
open PySem L2 M Bk
section
variable {c:D} {ev:List Bool} (hc:Yr c=some (ev.map D.bl))
include hc
theorem Yie{k:Kd}{R:List Rl}(hR:∀r∈R,In k ev.length r):Yby [Yac k R,c]=some (.lst ((brk k ev R).map nD)):=by
 have h:=Yyy (fc:=Ybq) (fe:=Ybr) (r:=[some (.sh (Yac k R)),some (.sh c)]) (e1:=fun i:Nat=>.int i) (e2:=fun i=>rlD (nth R i)) (fun i=>!so k ev (nth R i)) nD (l:=List.range R.length) (fun i hi=>by
  have hi':=List.mem_range.mp hi
  have hr:=Ylj hc (hR (nth R i) (Yvr hi'))
  simp[Ybq,hr]) (fun i _ _=>by simp[Ybr,nD])
 rw[Yby,Yak (by rfl)]
 simp[Yem,Yx,capR,Yvs,h,brk]
end
end Lw
namespace Lw
open PySem L2 M Bk
section
variable {c:D} {ev:List Bool} (hc:Yr c=some (ev.map D.bl))
include hc
theorem Ywf{k:Kd}{R:List Rl}(hR:∀r∈R,In k ev.length r):Yjx [Yac k R,c]=some (.bl (decide (brk k ev R=[]))):=by
 rw[Yjx,Yak (by rfl)]
 have e:decide (((brk k ev R).length:Int)=0)=decide (brk k ev R=[]):=by
  cases brk k ev R with
  | nil=>rfl
  | cons a l=>simp;lia
 simp[Yq7,Yx,Yie hc hR,e]
end
end Lw
namespace Lw
open PySem L2 M Bk
theorem Ylk{k:Kd}{n:Nat}{r:Rl}(hr:In k n r)(hs:sz r<=999999):Yct [kdD k,rlD r]=some (.lst ((bcs r).map nD)):=by
 rw[Yct,Yak (by rfl)]
 cases r with
 | ei l=>
   obtain⟨rfl,_⟩:=hr
   have h:=Ydu (fe:=Ycj) (r:=[]) (enc:=sayD) (fun s=>nD s.1) (l:=l) (fun s _=>by simp[Ycj])
   simp[Yb5,Yx,capR,h,bcs,Function.comp_def]
 | su b o=>
   obtain⟨rfl,_⟩:=hr
   simp[Yb5,Yx,bcs]
 | im b h=>
   obtain⟨hk,_⟩:=hr
   have hke:¬k=.e:=by rcases hk with rfl | rfl<;>decide
   have hks:¬k=.s:=by rcases hk with rfl | rfl<;>decide
   have hs':b.length+1<=1000000:=by simp[sz]at hs;lia
   cases h with
   | none=>simp[Yb5,Yx,bcs,hke,hks,optD]
   | some x=>simp[Yb5,Yx,bcs,hke,hks,optD,catD,hs']
end Lw
namespace Lw
open PySem L2 M Bk
theorem Ywg(r:Rl):(bcs r).length<=sz r+1:=by
 cases r with
 | ei l=>simp[bcs,sz]
 | su l o=>simp[bcs,sz]
 | im l h=>cases h<;>simp[bcs,sz]
theorem Yll{k:Kd}{n m:Nat}(hn:n < 64){R:List Rl}(hR:∀r∈R,In k n r/\sz r+1<=m)(hm:R.length * m < 4000):∃l:List Nat,l.Pairwise (· < ·)/\(∀x,x∈l↔∃r∈R,x∈bcs r)/\Ycu [Yac k R]=some (.lst (l.map nD)):=by
 obtain⟨ρ',e1,f,y,hf,hfl,rfl⟩:=Yff (gt:=gSet 2) (fb:=Yck) rlD (fun pre ρ=>∃(f:List Nat) (y:Option B),f=pre.flatMap bcs/\f.length<=pre.length * m/\
  ρ=[some (.sh (Yac k R)),some (.ow (f.map nD)),y]) R [] [some (.sh (Yac k R)),some (.ow []),none] ⟨[],none,rfl,by simp,rfl⟩ (by
  rintro q a r ρ e ⟨f,y,hf,hfl,rfl⟩
  have ha:a∈R:=by rw[List.nil_append]at e;rw[e];simp
  obtain⟨h1,h2⟩:=hR a ha
  have hq:q.length < R.length:=by rw[List.nil_append]at e;rw[e];simp
  have hpos:q.length * m+m<=R.length * m:=by
   have:=Nat.mul_le_mul_right m (show q.length+1<=R.length from hq)
   rw[Nat.add_mul,Nat.one_mul]at this
   exact this
  have hb:=Ylk h1 (by lia)
  have hbl:=Ywg a
  have hcap:f.length+(bcs a).length<=1000000:=by lia
  refine⟨_,_,rfl,?_,f++bcs a,some (.sh (rlD a)),by rw[hf];simp,?_,rfl⟩
  ·simp[Yck,hb,extD,hcap]
  ·rw[qw,qw,Nat.add_mul]
   simp
   lia)
 rw[List.nil_append]at hf hfl
 obtain⟨l,h1,h2,h3⟩:=Ysx hn f (fun x hx=>by
  rw[hf]at hx
  obtain⟨r,hr,hx⟩:=List.mem_flatMap.mp hx
  exact Yts (hR r hr).1 x hx) (by lia)
 refine⟨l,h1,fun x=>?_,?_⟩
 ·rw[h2,hf,List.mem_flatMap]
 ·rw[Ycu,Yak (by rfl)]
  simp[Ygi,Yx,e1,h3]
end Lw
namespace Lw
open PySem L2 M Bk
def hnD(b:Bool):D:=.str (Str.ofString (if b then "keeper" else "storm"))
abbrev wtD(k:Kd)(R:List Rl)(H ev:List Bool):D:=watD (Yac k R) (.tup (H.map hnD)) (.lst (ev.map D.bl))
@[simp] theorem fld_b(b h x:D):fldD "Watch" "book" (watD b h x)=some b:=nr rfl
@[simp] theorem fld_h(b h x:D):fldD "Watch" "hands" (watD b h x)=some h:=nr rfl
@[simp] theorem fld_t(b h x:D):fldD "Watch" "truths" (watD b h x)=some x:=nr rfl
theorem Ys0(m:Str)(hm:m∉wks)(fn:List D->Option D)(b h x:D):mthD "Watch" m fn (watD b h x)=fn [watD b h x]:=if_pos ⟨rfl,hm⟩
def Yrd(H ev:List Bool):D:=match H[ev.length]? with
 | some b=>hnD b
 | none=>.non
theorem Yml{H ev:List Bool}(h:ev.length < H.length):Yrd H ev=hnD (H[ev.length]):=by
 unfold Yrd
 rw[qp h]
theorem Yre{H ev:List Bool}(h:¬ev.length < H.length):Yrd H ev=.non:=by
 unfold Yrd
 rw[List.getElem?_eq_none (by lia)]
theorem Ytu{k:Kd}{R:List Rl}{H ev:List Bool}(h:ev.length<=H.length):Yag [wtD k R H ev]=some (Yrd H ev):=by
 rw[Yag,Yak (by rfl)]
 have hst:Yx 1 [wtD k R H ev]=[some (.sh (wtD k R H ev))]:=rfl
 rw[hst]
 by_cases hl:ev.length=H.length
 ·rw[Yre (by lia)]
  simp[Yd9,hl]
 ·have hlt:ev.length < H.length:=by lia
  rw[Yml hlt]
  have hi:¬((ev.length:Int)=(H.length:Int)):=by lia
  have hat:atI (H.map hnD) (ev.length:Int)=some (hnD (H[ev.length])):=by
   rw[Yl8,Yjq hlt]
   rfl
  simp[Yd9,hi,hl,hat]
theorem Yrf(k:Kd)(R:List Rl)(H ev:List Bool):Yai [wtD k R H ev]=some (.tup (ev.map D.bl)):=by
 rw[Yai,Yak (by rfl)]
 have hst:Yx 1 [wtD k R H ev]=[some (.sh (wtD k R H ev))]:=rfl
 rw[hst]
 simp[Yd4]
def OkR(k:Kd)(n:Nat)(r:Rl):Prop:=In k n r/\Srt r
def wonO(k:Kd)(R:List Rl)(H ev:List Bool):D:=if ev.length < H.length then .non else .str (Str.ofString (if brk k ev R=[]then "keeper" else "storm"))
theorem Yzb(k:Kd)(R:List Rl)(H ev:List Bool):Ysd (wonO k R H ev)=true:=by
 unfold wonO
 split<;>rfl
theorem Ys1{k:Kd}{R:List Rl}{H ev:List Bool}(h:ev.length<=H.length)(hR:∀r∈R,OkR k H.length r/\sz r<=9999):Yat [wtD k R H ev]=some (wonO k R H ev):=by
 rw[Yat,Yak (by rfl)]
 have hst:Yx 1 [wtD k R H ev]=[some (.sh (wtD k R H ev))]:=rfl
 rw[hst]
 have ht:=Ytu (k:=k) (R:=R) h
 have hm:=Ys0 "turn" (by decide) Yag (Yac k R) (.tup (H.map hnD)) (.lst (ev.map D.bl))
 rw[ht]at hm
 by_cases hl:ev.length < H.length
 ·rw[Yml hl]at hm
  have hn:isN true (hnD H[ev.length]) .non=some true:=rfl
  simp[Yb0,hm,hn,wonO,hl]
 ·rw[Yre hl]at hm
  have he:=Ywf (c:=.lst (ev.map D.bl)) (ev:=ev) rfl (k:=k) (R:=R) (fun r hr=>by rw[show ev.length=H.length by lia];exact(hR r hr).1.1)
  by_cases hb:brk k ev R=[]
  ·simp[Yb0,hm,he,wonO,hl,hb]
  ·simp[Yb0,hm,he,wonO,hl,hb]
end Lw
namespace Lw
open PySem L2 M Bk
section
variable {τ:Type} {f g:Ro->τ->Option (OutW τ)} {ρ ρ':Ro} {t t':τ}
theorem Ydn(h:f ρ t=some (.nx ρ' t')):seqW f g ρ t=g ρ' t':=by
 unfold seqW
 rw[h]
 rfl
theorem Yno{f:Ro->Option Out}(h:f ρ=some (.nx ρ')):Yf5 f ρ t=some (.nx ρ' t):=by
 unfold Yf5
 rw[h]
 rfl
theorem Ys2{f:Ro->Option Out}{d:D}(h:f ρ=some (.rt d)):Yf5 f ρ t=some (.rt d t):=by
 unfold Yf5
 rw[h]
 rfl
theorem Ywh{c:Ro->τ->Option Bool}(h:c ρ t=some false):ifW c f g ρ t=g ρ t:=by
 unfold ifW
 rw[h]
 rfl
theorem Ynp{gt:D->Ro->Option Ro}{fb:Ro->τ->Option (OutW τ)}{α:Type}(enc:α->D)(I:List α->Ro->τ->Prop):∀(l pre:List α) (ρ:Ro) (t:τ),I pre ρ t->
 (∀q a r ρ t,pre++l=q++a::r->I q ρ t->∃ρ1 ρ2 t2,gt (enc a) ρ=some ρ1/\fb ρ1 t=some (.nx ρ2 t2)/\I (q++[a]) ρ2 t2)->∃ρ' t',forW gt fb (l.map enc) ρ t=some (.nx ρ' t')/\I (pre++l) ρ' t'
 | [],pre,ρ,t,h0,_=>⟨ρ,t,rfl,by rw[List.append_nil];exact h0⟩
 | a::l,pre,ρ,t,h0,hs=>by
   obtain⟨ρ1,ρ2,t2,e1,e2,h2⟩:=hs pre a l ρ t rfl h0
   obtain⟨ρ',t',e3,h3⟩:=Ynp enc I l (pre++[a]) ρ2 t2 h2 fun q b r ρ t e hI=>hs q b r ρ t (by rw[<-e,List.append_assoc];rfl) hI
   refine⟨ρ',t',?_,by rw[List.append_assoc]at h3;exact h3⟩
   rw[qy,forW,e1,qc,e2,qc]
   exact e3
end
theorem Ynq{l i:Nat}{ρ:Ro}{t:List Bool}{b h:D}(hi:ρ[i]?=some (some (.sh (watD b h (.adr l))))):thw l i ρ t=some (ρ.set i (some (.sh (watD b h (.lst (t.map D.bl)))))):=by
 unfold thw
 rw[hi]
 show(if l=l then some _ else none)=_
 rw[if_pos rfl]
theorem Ys3{k:Kd}{R:List Rl}{H ev:List Bool}(hlt:ev.length < H.length)(hH:H.length<=60)(hR:∀r∈R,OkR k H.length r/\sz r<=9999)(l:Addr)(c:Bool) :
 Yb1 l [some (.sh (watD (Yac k R) (.tup (H.map hnD)) (.adr l))),some (.sh (.bl c))] ev=some (.rt (wonO k R H (ev++[c])) (ev++[c])):=by
 have m1:=Ys0 "turn" (by decide) Yag (Yac k R) (.tup (H.map hnD)) (.lst (ev.map D.bl))
 rw[Ytu (Nat.le_of_lt hlt),Yml hlt]at m1
 have m4:=Ys0 "winner" (by decide) Yat (Yac k R) (.tup (H.map hnD)) (.lst ((ev++[c]).map D.bl))
 rw[Ys1 (by rw[qw];exact hlt) hR]at m4
 have sc:=Yzb k R H (ev++[c])
 have hn:isN false (hnD H[ev.length]) .non=some false:=rfl
 have th:∀t:List Bool,thw l 0 [some (.sh (watD (Yac k R) (.tup (H.map hnD)) (.adr l))),some (.sh (.bl c))] t=some [some (.sh (watD (Yac k R) (.tup (H.map hnD)) (.lst (t.map D.bl)))),some (.sh (.bl c))]:=fun t=>Ynq rfl
 generalize wonO k R H (ev++[c])=wq at *
 generalize hnD H[ev.length]=tq at *
 unfold Yb1
 rw[Ydn (ρ':=[some (.sh (watD (Yac k R) (.tup (H.map hnD)) (.adr l))),some (.sh (.bl c))]) (t':=ev),Ydn (ρ':=[some (.sh (watD (Yac k R) (.tup (H.map hnD)) (.adr l))),some (.sh (.bl c))]) (t':=ev),Ydn (ρ':=[some (.sh (watD (Yac k R) (.tup (H.map hnD)) (.adr l))),some (.sh (.bl c))]) (t':=ev++[c])]
 ·unfold retL
  rw[th,qc]
  have:b1 (getV 0) (mthD "Watch" "winner" Yat) [some (.sh (watD (Yac k R) (.tup (H.map hnD)) (.lst ((ev++[c]).map D.bl)))),some (.sh (.bl c))]=some wq:=by
   simp only[Yyu,gV0,qc]
   exact m4
  rw[this,qc,if_pos sc]
 ·unfold appW
  have hw:ev.length < 1000000:=by lia
  show(if l=l/\("Watch":Str)="Watch"/\wks=wks/\ev.length < 1000000 then _ else none)=_
  rw[if_pos ⟨rfl,rfl,rfl,hw⟩]
  rfl
 ·refine Yno ?_
  cases c<;>rfl
 ·rw[Ywh]
  ·rfl
  ·unfold Yjt
   rw[th,qc]
   have:b1 (getV 0) (mthD "Watch" "turn" Yag) [some (.sh (watD (Yac k R) (.tup (H.map hnD)) (.lst (ev.map D.bl)))),some (.sh (.bl c))]=some tq:=by
    simp only[Yyu,gV0,qc]
    exact m1
   show(b1 (getV 0) (mthD "Watch" "turn" Yag) _).bind _=_
   rw[this,qc]
   exact hn
theorem Yrg(b:Bool):Yhn [hnD b]=some (.bl true):=by
 cases b<;>rfl
theorem Ys4{k:Kd}{m:Nat}{R:List Rl}{H:List Bool}(hH:H.length<=60)(hl:R.length * m < 4000)(hR:∀r∈R,OkR k H.length r/\sz r+1<=m){h:D}(hh:h=.lst (H.map hnD)\/h=.tup (H.map hnD)):Ybl [Yac k R,h]=some .non:=by
 rw[Ybl,Yak (by rfl)]
 have hst:Yx 2 [Yac k R,h]=[some (.sh (Yac k R)),some (.sh h)]:=rfl
 rw[hst]
 obtain⟨l,_,hm,hb⟩:=Yll (k:=k) (n:=H.length) (m:=m) (R:=R) (by lia) (fun r hr=>⟨(hR r hr).1.1,(hR r hr).2⟩) hl
 have c0:=Ydu (fe:=Yb8) (r:=[]) (enc:=hnD) (fun _=>D.bl true) (l:=H) (fun b _=>by
  have:=Yrg b
  simp[Yb8,this])
 have hi:Yr h=some (H.map hnD):=by rcases hh with rfl | rfl<;>rfl
 have hlen:lenC [h]=some (.int (H.length:Int)):=by rcases hh with rfl | rfl<;>simp
 have c1:=Ydu (fe:=Yb9) (r:=[some (.sh h)]) (enc:=nD) (fun _=>D.bl false) (l:=l) (fun b hb=>by
  have:b < H.length:=by
   obtain⟨r,hr,hx⟩:=(hm b).mp hb
   exact Yts (hR r hr).1.1 b hx
  simp[Yb9,hlen,nD]
  lia)
 have g1:¬((60:Int) < (H.length:Int)):=by lia
 have b0:=Yjr (fun _:Bool=>true) H
 have b1:=Yjr (fun _:Nat=>false) l
 rcases hh with rfl | rfl
 ·simp[Ydi,hlen,g1,capR,c0,c1,hb,hi,b0,b1]
 ·simp[Ydi,hlen,g1,capR,c0,c1,hb,hi,b0,b1]
end Lw
namespace Lw
open PySem L2 M Bk
theorem y0p(r:Rl):plB (rlD r)=true:=by
 have hs:∀l:List Say,plBL (l.map sayD)=true:=fun l=>by
  induction l with
  | nil=>rfl
  | cons a l ih=>rw[qy,plBL,ih];rfl
 have hn:∀l:List Nat,plBL (l.map nD)=true:=fun l=>by
  induction l with
  | nil=>rfl
  | cons a l ih=>rw[qy,plBL,ih];rfl
 cases r with
 | ei l=>exact hs l
 | su l o=>show(plBL (l.map nD)&&(plB (.bl o)&&plBL []))=true;rw[hn];rfl
 | im l h=>show(plBL (l.map nD)&&(plB (optD h)&&plBL []))=true;rw[hn];cases h<;>rfl
theorem Yzc(R:List Rl):plBL (R.map rlD)=true:=by
 induction R with
 | nil=>rfl
 | cons a l ih=>rw[qy,plBL,ih,y0p];rfl
theorem Ys5(k:Kd)(R:List Rl):plB (Yac k R)=true:=by
 show(plB (kdD k)&&(plBL (R.map rlD)&&plBL []))=true
 rw[Yzc]
 rfl
theorem Yzd(H:List Bool):plBL (H.map hnD)=true:=by
 induction H with
 | nil=>rfl
 | cons a l ih=>rw[qy,plBL,ih];rfl
theorem Yze(H:List Bool):plB (.tup (H.map hnD))=true:=Yzd H
theorem Yzf{k:Kd}{R:List Rl}{H ev:List Bool}{c:Bool}(l:Addr) :
 Ycw l [some (.sh (watD (Yac k R) (.tup (H.map hnD)) (.adr l)))] (ev++[c])=some (.rt (.bl c) ev):=by
 have th:∀t:List Bool,thw l 0 [some (.sh (watD (Yac k R) (.tup (H.map hnD)) (.adr l)))] t=some [some (.sh (watD (Yac k R) (.tup (H.map hnD)) (.lst (t.map D.bl))))]:=fun t=>Ynq rfl
 unfold Ycw
 rw[Ydn (ρ':=[some (.sh (watD (Yac k R) (.tup (H.map hnD)) (.adr l)))]) (t':=ev++[c])]
 ·unfold Yne
  show(if l=l/\("Watch":Str)="Watch"/\wks=wks then _ else none)=_
  rw[if_pos ⟨rfl,rfl,rfl⟩,List.getLast?_concat,List.dropLast_concat]
  rfl
 ·rw[Ywh]
  ·rfl
  ·unfold Yjt
   rw[th,qc]
   have:¬(((ev.length:Int)+1)=0):=by lia
   simp[this]
theorem Yoo{i:Nat}{is:List Nat}{f1:Ro->Option Out}{f2 f3 a1 a2:Ro->Option D}{g:Addr->Ro->List Bool->Option (OutW (List Bool))}{ρ:Ro}{b h d2 d3:D}(h1:a1 (frz is ρ)=some b)(h2:a2 (frz is ρ)=some h)
 (c1:∀x:Addr,f1 [some (.sh (.adr x)),some (.sh b),some (.sh h)]=some (.nx [some (.sh (.adr x)),some (.sh b),some (.sh h)])) (c2:∀x:Addr,f2 [some (.sh (.adr x)),some (.sh b),some (.sh h)]=some d2/\f3 [some (.sh (.adr x)),some (.sh b),some (.sh h)]=some d3) (p2:plB d2=true) (p3:plB d3=true)
 (c3:∀l,∃t,g l (ρ.set i (some (.sh (watD d2 d3 (.adr l))))) []=some (.rt (.bl true) t)):Yoh i is f1 f2 f3 a1 a2 g ρ=some (.rt (.bl true)):=by
 unfold Yoh
 rw[h1,qc,h2,qc]
 exact Yqz ⟨c1,d2,d3,c2,p2,p3,c3⟩
theorem Ywi(l:List D)(i:Nat)(h:i<=l.length):cutD l none (some (i:Int))=l.take i:=by
 unfold cutD
 rw[HT.sIx_nat,HT.sIx_none,Nat.min_eq_left h]
 simp
theorem Ys6(k:Kd)(c:Int)(n:Nat)(hn:n<=60):∃r:Rl,In k n r/\Srt r/\Yeg [kdD k,.int c,.int n]=some (rlD r):=by
 obtain⟨v,hv0,hv⟩:=Ymj c 1181783497276652981
 have hmx:(if (1:Int) > (n:Int)then (1:Int)else (n:Int))=((max n 1:Nat):Int):=by
  split<;>lia
 generalize hm1:max n 1=m at hmx
 have hm0:(0:Int) < (m:Int):=by lia
 have hdm:∀x:Int,divI (.int x) (.int (m:Int))=some (.int (x / m)):=fun x=>Ysj hm0 (by lia)
 have hst:Yx 11 [kdD k,.int c,.int n]=[some (.sh (kdD k)),some (.sh (.int c)),some (.sh (.int n)),none,none,none,none,none,none,none,none]:=rfl
 rw[Yeg,Yak (by rfl),hst]
 generalize hsz:v % 4=size
 have hs0:0<=size:=by lia
 have hs4:size < 4:=by lia
 generalize hod:decide (v / 4 % 2=1)=odd
 obtain⟨hd,hhd,hhn⟩:∃hd:Option Nat,(if 0 < v / 8 % 6/\0 < n then D.int (v / 8 / 6 % n)else .non)=optD hd/\∀x,hd=some x->x < n:=by
  by_cases h:0 < v / 8 % 6/\0 < n
  ·rw[if_pos h]
   have h0:(0:Int) < n:=by lia
   refine⟨some (v / 8 / 6 % n).toNat,?_,fun x hx=>?_⟩
   ·have:=Int.emod_nonneg (v / 8 / 6) (show(n:Int)≠0 by lia)
    show D.int _=D.int _
    congr 1
    lia
   ·cases hx
    have:=Int.emod_lt_of_pos (v / 8 / 6) h0
    have:=Int.emod_nonneg (v / 8 / 6) (show(n:Int)≠0 by lia)
    lia
  ·rw[if_neg h]
   exact⟨none,rfl,fun _ h=>nomatch h⟩
 obtain⟨ρ',e1,l,left,y,hl,hnd,hlt,rfl⟩:=Yff (gt:=gSet 8) (fb:=Ybm) (fun i:Nat=>D.int (0+(i:Nat))) (fun pre ρ=>∃(l:List Nat) (left:Int) (y:Option B),l.length<=pre.length/\l.Nodup/\(∀s∈l,s < n)/\
  ρ=[some (.sh (kdD k)),some (.sh (.int c)),some (.sh (.int n)),some (.sh (.int left)),some (.sh (.int size)),some (.sh (.bl odd)),some (.sh (optD hd)),some (.ow (l.map nD)),y,none,none]) (List.range (size - 0).toNat) []
  [some (.sh (kdD k)),some (.sh (.int c)),some (.sh (.int n)),some (.sh (.int (v / 8 / 6 / m))),some (.sh (.int size)),some (.sh (.bl odd)),some (.sh (optD hd)),some (.ow []),none,none,none] ⟨[],v / 8 / 6 / m,none,qs _,.nil,by simp,rfl⟩ (by
   rintro q a r ρ e ⟨l,left,y,hl,hnd,hlt,rfl⟩
   have hq:q.length < 1000:=by have:=congrArg List.length e;simp at this;lia
   have hcap:l.length < 1000000:=by lia
   by_cases h0:0 < n
   ·have hn0:(0:Int) < n:=by lia
    have hmod:∀x:Int,modI (.int x) (.int (n:Int))=some (.int (x % n)):=fun x=>Yhg hn0
    obtain⟨b,hb⟩:∃b:Nat,left % (n:Int)=(b:Int):=⟨(left % n).toNat,by have:=Int.emod_nonneg left (show(n:Int)≠0 by lia);lia⟩
    have hbn:b < n:=by have:=Int.emod_lt_of_pos left hn0;lia
    have hin:=in_n (c:=.lst (l.map nD)) b l true rfl
    simp only[nD]at hin
    by_cases hm:b∈l
    ·refine⟨_,_,rfl,?_,l,left / m,some (.sh (.int (0+(a:Int)))),by simp;lia,hnd,hlt,rfl⟩
     simp[Ybm,hmod,hmx,hdm,hb,hin,hm,nD,h0]
    ·refine⟨_,_,rfl,?_,l++[b],left / m,some (.sh (.int (0+(a:Int)))),by simp;lia,?_,?_,rfl⟩
     ·simp[Ybm,hmod,hmx,hdm,hb,hin,hm,appD,hcap,nD,h0]
     ·rw[List.nodup_append]
      refine⟨hnd,by simp,?_⟩
      intro x hx y hy z
      simp at hy
      subst hy
      exact hm (z ▸ hx)
     ·intro s hs
      rcases qt hs with hs | hs
      ·exact hlt s hs
      ·simp at hs
       subst hs
       exact hbn
   ·refine⟨_,_,rfl,?_,l,left / m,some (.sh (.int (0+(a:Int)))),by simp;lia,hnd,hlt,rfl⟩
    simp[Ybm,hmx,hdm,h0])
 have hl3:l.length<=3:=by simp at hl;lia
 have hr:=Yqq (n:=size) (by lia) (by lia)
 rw[Yqp]at hr
 have pre:Yf9 [some (.sh (kdD k)),some (.sh (.int c)),some (.sh (.int n)),none,none,none,none,none,none,none,none]=Ybd [some (.sh (kdD k)),some (.sh (.int c)),some (.sh (.int n)),some (.sh (.int left)),some (.sh (.int size)),some (.sh (.bl odd)),some (.sh (optD hd)),some (.ow (l.map nD)),y,none,none]:=by
  have q8:Ycv [some (.sh (kdD k)),some (.sh (.int c)),some (.sh (.int n)),some (.sh (.int (v / 8 / 6 / m))),some (.sh (.int size)),some (.sh (.bl odd)),some (.sh (optD hd)),some (.ow []),none,none,none]=Ybd [some (.sh (kdD k)),some (.sh (.int c)),some (.sh (.int n)),some (.sh (.int left)),some (.sh (.int size)),some (.sh (.bl odd)),some (.sh (optD hd)),some (.ow (l.map nD)),y,none,none]:=by
   rw[Ycv,Yb7]
   simp[hr,-Ybd]at e1 ⊢
   rw[e1]
   rfl
  have q6:Ybe [some (.sh (kdD k)),some (.sh (.int c)),some (.sh (.int n)),some (.sh (.int (v / 8))),some (.sh (.int size)),some (.sh (.bl odd)),some (.sh (optD hd)),none,none,none,none]=Ybd [some (.sh (kdD k)),some (.sh (.int c)),some (.sh (.int n)),some (.sh (.int left)),some (.sh (.int size)),some (.sh (.bl odd)),some (.sh (optD hd)),some (.ow (l.map nD)),y,none,none]:=by
   rw[<-q8,Ybe,Yb7]
   simp[hmx,hdm,-Ycv]
  rw[<-q6,Yf9,Yb7]
  by_cases h:0 < v / 8 % 6/\0 < n
  ·have h0:(0:Int) < n:=by lia
   have hmod:∀x:Int,modI (.int x) (.int (n:Int))=some (.int (x % n)):=fun x=>Yhg h0
   rw[if_pos h]at hhd
   simp[hv,hsz,hod,h.1,h.2,hmod,hhd,-Ybe]
  ·rw[if_neg h]at hhd
   by_cases h1:0 < v / 8 % 6
   ·have h2:¬0 < n:=fun z=>h ⟨h1,z⟩
    simp[hv,hsz,hod,h1,h2,<-hhd,-Ybe]
   ·simp[hv,hsz,hod,h1,<-hhd,-Ybe]
 rw[pre]
 clear e1 hr hv pre
 by_cases hk:k=.e
 ·subst hk
  have hcut:cutD (l.map nD) none (some 2)=(l.take 2).map nD:=by
   unfold cutD
   rw[HT.sIx_none]
   have:HT.sIx (l.map nD).length (l.map nD).length (some 2)=min 2 l.length:=by
    have:=HT.sIx_nat (l.map nD).length (l.map nD).length 2
    simpa using this
   rw[this,List.map_take,List.drop_zero,Nat.sub_zero]
   by_cases h:2<=l.length
   ·rw[Nat.min_eq_left h]
   ·rw[Nat.min_eq_right (by lia),List.take_of_length_le (by simp),List.take_of_length_le (by simp;lia)]
  obtain⟨S,hS2,hSn,hSl,hSr⟩:∃S:List Say,S.length<=2/\S.Nodup/\(∀s∈S,s.1 < n)/\Ybd [some (.sh (kdD .e)),some (.sh (.int c)),some (.sh (.int n)),some (.sh (.int left)),some (.sh (.int size)),some (.sh (.bl odd)),some (.sh (optD hd)),some (.ow (l.map nD)),y,none,none]=(Yjf [.lst (S.map sayD)]).map fun q=>Out.rt (.tup q):=by
   match l,hnd,hlt,hcut with
   | [],_,_,hcut=>
     refine⟨[],by simp,.nil,by simp,?_⟩
     simp[hcut]
     rfl
   | [a],_,hlt,hcut=>
     refine⟨[(a,odd)],by simp,by simp,fun s hs=>by simp at hs;subst hs;exact hlt a (.head _),?_⟩
     simp[hcut,M.forM,gSet,Ycd,appD,sayD]
     rfl
   | a::b::l,hnd,hlt,hcut=>
     have hab:a≠b:=by
      intro z
      subst z
      simp at hnd
     have hcut2:cutD (nD a::nD b::l.map nD) none (some 2)=[nD a,nD b]:=hcut
     by_cases h6:left / 2 % 6=1
     ·refine⟨[(a,odd),(a,!odd)],by simp,by cases odd<;>simp,fun s hs=>?_,?_⟩
      ·simp at hs
       rcases hs with rfl | rfl<;>exact hlt a (.head _)
      ·simp[hcut2,M.forM,gSet,Ycd,appD,sayD,h6,setD]
       rfl
     ·refine⟨[(a,odd),(b,decide (left % 2=1))],by simp,by simp[hab],fun s hs=>?_,?_⟩
      ·simp at hs
       rcases hs with rfl | rfl
       ·exact hlt a (.head _)
       ·exact hlt b (.tail _ (.head _))
      ·simp[hcut2,M.forM,gSet,Ycd,appD,sayD,h6]
       rfl
  obtain⟨l',hp,hpw,hs⟩:=Ysz S hS2 hSn
  refine⟨.ei l',⟨rfl,fun s hs=>hSl s (hp.mem_iff.mp hs)⟩,⟨by rw[hp.length_eq];exact hS2,hpw⟩,?_⟩
  rw[hSr,hs]
  rfl
 ·obtain⟨l',hp,hpw,hs⟩:=Ysy l hnd (by lia)
  by_cases hks:k=.s
  ·subst hks
   refine⟨.su l' odd,⟨rfl,fun s hs=>hlt s (hp.mem_iff.mp hs)⟩,hpw,?_⟩
   simp[hs,rlD]
  ·have hki:k=.i\/k=.n:=by cases k<;>simp at hk hks ⊢
   refine⟨.im l' hd,⟨hki,fun s hs=>hlt s (hp.mem_iff.mp hs),hhn⟩,hpw,?_⟩
   simp[hs,rlD,hk,hks]
def num(b:Nat):Str:=Str.ofString (toString (b:Int))
theorem Ygb:∀b,b < 60->(num b).length<=2:=by decide +kernel
theorem Ymm{b:Nat}(h:b < 60):strC [.int (b:Int)]=some (.str (num b)):=by
 rw[Ysq,if_pos (by lia)]
 rfl
theorem e_fs{b:Nat}(h:b < 60){x:Str}(hx:x.length<=10):fsD x (.int (b:Int))=some (.str (x++num b)):=by
 have:=Ygb b h
 have e:Str.ofString (toString (b:Int))=num b:=rfl
 rw[Ywd,e,if_pos ⟨by lia,by rw[Yq1];lia⟩]
theorem Ytv{a b:Str}(ha:a.length<=10)(hb:b.length<=10):addS (.str a) (.str b)=some (.str (a++b)):=by
 rw[Ysr,if_pos (by lia)]
theorem Ylm{sep:Str}{l:List D}{xs:List Str}(h:l=xs.map D.str)(hs:(xs.map fun x:Str=>sep.length+x.length).sum<=16000000):Yfh sep [.lst l]=some (.str (Txt.join sep xs)):=by
 rw[Yq3,h,Yk7,qc,if_pos (Yq2 hs)]
abbrev T(s:String):Str:=Str.ofString s
def sayW(s:Say):Str:=(if s.2=true then T "+" else T "-")++num s.1
def Ya2:Rl->List Str
 | .ei l=>T "rule"::l.map sayW
 | .su b o=>T "rule"::(if o=true then T "odd" else T "even")::b.map num
 | .im b h=>T "rule"::(b.map num++[T ">"]++h.toList.map num)
theorem lenPM:(T "+").length=1/\(T "-").length=1:=by decide +kernel
theorem Ys7{s:Say}(h:s.1 < 60):Ya4 [sayD s]=some (.str (sayW s)):=by
 rw[Ya4,Yak (by rfl)]
 have h1:=e_fs h (x:=T "+") (by rw[lenPM.1];decide)
 have h2:=e_fs h (x:=T "-") (by rw[lenPM.2];decide)
 obtain⟨b,o⟩:=s
 cases o<;>simp[Ydp,Yx,sayD,h1,h2,sayW]
theorem Ykb{s:Say}(h:s.1 < 60):Ya1 [sayD s]=some (.str (sayW s)):=by
 rw[Ya1,Yak (by rfl)]
 have h0:=Ymm h
 have hn:=Ygb s.1 h
 have h1:=Ytv (a:=T "+") (b:=num s.1) (by rw[lenPM.1];decide) (by lia)
 have h2:=Ytv (a:=T "-") (b:=num s.1) (by rw[lenPM.2];decide) (by lia)
 obtain⟨b,o⟩:=s
 cases o<;>simp[Yc9,Yx,sayD,h0,h1,h2,sayW]
theorem Yeo{a b:List D}(h:a.length+b.length<=1000000):catD (.lst a) (.lst b)=some (a++b):=if_pos h
theorem Yif{k:Kd}{r:Rl}(hr:In k 60 r)(hs:sz r<=1000):Ybz [kdD k,rlD r]=some (.lst ((Ya2 r).map D.str)):=by
 rw[Ybz,Yak (by rfl)]
 cases r with
 | ei l=>
   obtain⟨rfl,h60⟩:=hr
   have h:=Ydu (fe:=Ybs) (r:=[]) (enc:=sayD) (fun s=>D.str (sayW s)) (l:=l) (fun s hs=>by
    have:=Ys7 (h60 s hs)
    simp[Ybs,this])
   have hl:l.length<=1000:=by simpa [sz]using hs
   have hc:=Yeo (a:=[.str (T "rule")]) (b:=l.map fun s=>D.str (sayW s)) (by simp;lia)
   simp[Ya3,Yx,rlD,capR,h,hc,Ya2,Function.comp_def]
 | su b o=>
   obtain⟨rfl,h60⟩:=hr
   have h:=Ydu (fe:=Yah) (r:=[]) (enc:=nD) (fun x=>D.str (num x)) (l:=b) (fun x hx=>by
    have:=Ymm (h60 x hx)
    simp[Yah,nD,this])
   have hl:b.length<=1000:=by simpa [sz]using hs
   have hc:=fun w:Str=>Yeo (a:=[.str (T "rule"),.str w]) (b:=b.map fun x=>D.str (num x)) (by simp;lia)
   cases o<;>simp[Ya3,Yx,rlD,capR,h,hc,Ya2,Function.comp_def]
 | im b h=>
   obtain⟨hk,h60,hh⟩:=hr
   have hke:¬k=.e:=by rcases hk with rfl | rfl<;>decide
   have hks:¬k=.s:=by rcases hk with rfl | rfl<;>decide
   have hcm:=Ydu (fe:=Yah) (r:=[]) (enc:=nD) (fun x=>D.str (num x)) (l:=b) (fun x hx=>by
    have:=Ymm (h60 x hx)
    simp[Yah,nD,this])
   have hl:b.length<=1000:=by simp[sz]at hs;lia
   have hc1:=Yeo (a:=[.str (T "rule")]) (b:=b.map fun x=>D.str (num x)) (by simp;lia)
   have hc2:=Yeo (a:=[.str (T "rule")]++b.map fun x=>D.str (num x)) (b:=[.str (T ">")]) (by simp;lia)
   cases h with
   | none=>
     have hc3:=Yeo (a:=[.str (T "rule")]++(b.map fun x=>D.str (num x))++[.str (T ">")]) (b:=[]) (by simp;lia)
     simp only[List.append_assoc,List.cons_append,List.nil_append]at hc1 hc2 hc3
     simp[Ya3,Yx,rlD,capR,hcm,hc1,hc2,hc3,hke,hks,Ya2,optD,Function.comp_def]
   | some x=>
     have hx:=Ymm (hh x rfl)
     have hc3:=Yeo (a:=[.str (T "rule")]++(b.map fun x=>D.str (num x))++[.str (T ">")]) (b:=[.str (num x)]) (by simp;lia)
     simp only[List.append_assoc,List.cons_append,List.nil_append]at hc1 hc2 hc3
     simp[Ya3,Yx,rlD,capR,hcm,hc1,hc2,hc3,hke,hks,hx,Ya2,optD,Function.comp_def]
theorem Yln{k:Kd}{r:Rl}(hr:In k 60 r)(hs:sz r<=1000):Ya6 [kdD k,rlD r]=some (.lst ((Ya2 r).map D.str)):=by
 rw[Ya6,Yak (by rfl)]
 cases r with
 | ei l=>
   obtain⟨rfl,h60⟩:=hr
   have h:=Ydu (fe:=Yba) (r:=[]) (enc:=sayD) (fun s=>D.str (sayW s)) (l:=l) (fun s hs=>by
    have:=Ykb (h60 s hs)
    simp[Yba,this])
   have hl:l.length<=1000:=by simpa [sz]using hs
   have hc:=Yeo (a:=[.str (T "rule")]) (b:=l.map fun s=>D.str (sayW s)) (by simp;lia)
   simp[Yas,Yx,rlD,capR,h,hc,Ya2,Function.comp_def]
 | su b o=>
   obtain⟨rfl,h60⟩:=hr
   have h:=Ydu (fe:=Yab) (r:=[]) (enc:=nD) (fun x=>D.str (num x)) (l:=b) (fun x hx=>by
    have:=Ymm (h60 x hx)
    simp[Yab,nD,this])
   have hl:b.length<=1000:=by simpa [sz]using hs
   have hc:=fun w:Str=>Yeo (a:=[.str (T "rule"),.str w]) (b:=b.map fun x=>D.str (num x)) (by simp;lia)
   cases o<;>simp[Yas,Yx,rlD,capR,h,hc,Ya2,Function.comp_def]
 | im b h=>
   obtain⟨hk,h60,hh⟩:=hr
   have hke:¬k=.e:=by rcases hk with rfl | rfl<;>decide
   have hks:¬k=.s:=by rcases hk with rfl | rfl<;>decide
   have hcm:=Ydu (fe:=Yab) (r:=[]) (enc:=nD) (fun x=>D.str (num x)) (l:=b) (fun x hx=>by
    have:=Ymm (h60 x hx)
    simp[Yab,nD,this])
   have hl:b.length<=1000:=by simp[sz]at hs;lia
   have hc1:=Yeo (a:=[.str (T "rule")]) (b:=b.map fun x=>D.str (num x)) (by simp;lia)
   have hc2:=Yeo (a:=[.str (T "rule")]++b.map fun x=>D.str (num x)) (b:=[.str (T ">")]) (by simp;lia)
   simp only[List.append_assoc,List.cons_append,List.nil_append]at hc1 hc2
   cases h with
   | none=>simp[Yas,Yx,rlD,capR,hcm,hc1,hc2,hke,hks,Ya2,optD,Function.comp_def,frz,frz1]
   | some x=>
     have hx:=Ymm (hh x rfl)
     have hcap:b.length+2 < 1000000:=by lia
     simp[Yas,Yx,rlD,capR,hcm,hc1,hc2,hke,hks,hx,Ya2,optD,Function.comp_def,frz,frz1,appD,hcap]
theorem Ynr{s B:Nat}:∀{l:List Str},(∀x∈l,x.length<=B)->(l.map fun x:Str=>s+x.length).sum<=l.length * (s+B)
 | [],_=>by simp
 | x::l,h=>by
   have h1:=Ynr (s:=s) (l:=l) fun y hy=>h y (.tail _ hy)
   have h2:=h x (.head _)
   rw[qy,List.sum_cons,qq,Nat.add_mul,Nat.one_mul]
   lia
def Yay(b:Bool):Str:=if b=true then T "k" else T "s"
def Ydv(b:Bool):Str:=if b=true then T "1" else T "0"
def kS:Kd->Str
 | .e=>T "eithers" | .s=>T "sums" | .i=>T "ifs" | .n=>T "nots"
theorem Ytw(k:Kd):kdD k=.str (kS k):=by cases k<;>rfl
def Ybi(w:Str)(xs:List Str):List Str:=if xs=[]then [w]else [w,Txt.join (T "") xs]
def Ydw(k:Kd)(R:List Rl)(H ev:List Bool):List (List Str):=[T "kind",kS k]::Ybi (T "hands") (H.map Yay)::(R.map Ya2++if ev=[]then []else [Ybi (T "settled") (ev.map Ydv)])
def Yrh(L:List (List Str)):Str:=Txt.join (T "\n") (L.map (Txt.join (T " ")))
def Yop(w:List Str):Prop:=(∀x∈w,x.length<=100)/\w.length<=1010
theorem lens:(T "").length=0/\(T " ").length=1/\(T "\n").length=1/\(T "rule").length=4/\(T "odd").length=3/\(T "even").length=4/\(T ">").length=1/\(T "kind").length=4/\(T "hands").length=5/\(T "settled").length=7:=by decide +kernel
theorem Ygc(b:Bool):(Yay b).length=1:=by cases b<;>decide +kernel
theorem Yhz(b:Bool):(Ydv b).length=1:=by cases b<;>decide +kernel
theorem Yzg(k:Kd):(kS k).length<=10:=by cases k<;>decide +kernel
theorem Ymn{k:Kd}{r:Rl}(hr:In k 60 r)(hs:sz r<=1000):Yop (Ya2 r):=by
 obtain⟨_,_,_,l4,l5,l6,l7,_⟩:=lens
 cases r with
 | ei l=>
   obtain⟨rfl,h60⟩:=hr
   have hl:l.length<=1000:=by simpa [sz]using hs
   refine⟨fun x hx=>?_,by simp[Ya2];lia⟩
   rcases qr hx with rfl | hx
   ·lia
   ·obtain⟨s,hs,rfl⟩:=qv hx
    have:=Ygb s.1 (h60 s hs)
    obtain⟨p1,p2⟩:=lenPM
    unfold sayW
    rw[Yq1]
    split<;>lia
 | su b o=>
   obtain⟨rfl,h60⟩:=hr
   have hl:b.length<=1000:=by simpa [sz]using hs
   refine⟨fun x hx=>?_,by simp[Ya2];lia⟩
   rcases qr hx with rfl | hx
   ·lia
   ·rcases qr hx with rfl | hx
    ·split<;>lia
    ·obtain⟨s,hs,rfl⟩:=qv hx
     have:=Ygb s (h60 s hs)
     lia
 | im b h=>
   obtain⟨hk,h60,hh⟩:=hr
   have hl:b.length<=1000:=by simp[sz]at hs;lia
   have hol:h.toList.length<=1:=by cases h<;>simp
   refine⟨fun x hx=>?_,by simp[Ya2];lia⟩
   rcases qr hx with rfl | hx
   ·lia
   ·rcases qt hx with hx | hx
    ·rcases qt hx with hx | hx
     ·obtain⟨s,hs,rfl⟩:=qv hx
      have:=Ygb s (h60 s hs)
      lia
     ·have:x=T ">":=by simpa using hx
      rw[this]
      lia
    ·obtain⟨s,hs,rfl⟩:=qv hx
     have:=Ygb s (hh s (by simpa using hs))
     lia
theorem Yfs{α:Type}{f:α->Str}(hf:∀a,(f a).length=1)(l:List α):((l.map f).map fun x:Str=>(T "").length+x.length).sum<=l.length:=by
 have h:=Ynr (s:=(T "").length) (B:=1) (l:=l.map f) (fun x hx=>by
  obtain⟨a,_,rfl⟩:=qv hx
  rw[hf]
  exact qs _)
 rw[qe,lens.1]at h
 simpa [lens.1]using h
theorem Yh0{α:Type}{f:α->Str}(hf:∀a,(f a).length=1){l:List α}(hl:l.length<=60){w:Str}(hw:w.length<=100):Yop (Ybi w (l.map f)):=by
 unfold Ybi
 split
 ·exact⟨fun x hx=>by simp at hx;subst hx;exact hw,by simp⟩
 ·refine⟨fun x hx=>?_,by simp⟩
  rcases qr hx with rfl | hx
  ·exact hw
  ·have:x=Txt.join (T "") (l.map f):=by simpa using hx
   rw[this]
   have h1:=Ynh (T "") (l.map f)
   have h2:=Yfs hf l
   lia
theorem Yi1{k:Kd}{R:List Rl}{H ev:List Bool}(hR:∀r∈R,In k 60 r/\sz r<=1000)(hH:H.length<=60)(he:ev.length<=60):∀w∈Ydw k R H ev,Yop w:=by
 obtain⟨_,_,_,_,_,_,_,l8,l9,l10⟩:=lens
 intro w hw
 have hk:=Yzg k
 rcases qr hw with rfl | hw
 ·refine⟨fun x hx=>?_,by simp⟩
  simp at hx
  rcases hx with rfl | rfl<;>lia
 ·rcases qr hw with rfl | hw
  ·exact Yh0 Ygc hH (by lia)
  ·rcases qt hw with hw | hw
   ·obtain⟨r,hr,rfl⟩:=qv hw
    exact Ymn (hR r hr).1 (hR r hr).2
   ·split at hw
    ·cases hw
    ·have:w=Ybi (T "settled") (ev.map Ydv):=by simpa using hw
     rw[this]
     exact Yh0 Yhz he (by lia)
theorem Ykc{w:List Str}(h:Yop w):Yfh (T " ") [.lst (w.map D.str)]=some (.str (Txt.join (T " ") w))/\(Txt.join (T " ") w).length<=110000:=by
 have h1:=Ynr (s:=(T " ").length) h.1
 rw[lens.2.1]at h1
 have h2:=h.2
 have h3:w.length * (1+100)<=1010 * 101:=Nat.mul_le_mul_right _ h2
 have h4:=Ynh (T " ") w
 rw[lens.2.1]at h4
 exact⟨Ylm rfl (by rw[lens.2.1];lia),by lia⟩
theorem Ylo{L:List (List Str)}(hL:∀w∈L,Yop w)(hl:L.length<=100):Yfh (T "\n") [.lst (L.map fun w=>D.str (Txt.join (T " ") w))]=some (.str (Yrh L)):=by
 have e:(L.map fun w=>D.str (Txt.join (T " ") w))=(L.map (Txt.join (T " "))).map D.str:=by rw[List.map_map];rfl
 have h1:=Ynr (s:=(T "\n").length) (B:=110000) (l:=L.map (Txt.join (T " "))) (fun x hx=>by
  obtain⟨w,hw,rfl⟩:=qv hx
  exact(Ykc (hL w hw)).2)
 rw[qe]at h1
 have h2:L.length * ((T "\n").length+110000)<=100 * (1+110000):=by rw[lens.2.2.1];exact Nat.mul_le_mul_right _ hl
 exact Ylm e (qz h1 (qz h2 (by decide)))
abbrev wD(w:List Str):D:=.lst (w.map D.str)
theorem Yoq{L:List (List Str)}(hL:∀w∈L,Yop w)(hl:L.length<=100):Ybg [.lst (L.map wD)]=some (.str (Yrh L)):=by
 rw[Ybg,Yak (by rfl)]
 have hc:=Ydu (fe:=Ydm) (r:=[]) (enc:=wD) (fun w=>D.str (Txt.join (T " ") w)) (l:=L) (fun w hw=>by
  have:=(Ykc (hL w hw)).1
  simp[Ydm,this])
 have hj:=Ylo hL hl
 generalize L.map wD=LL at *
 generalize (L.map fun w=>D.str (Txt.join (T " ") w))=TT at *
 simp[Yix,Yx,capR,hc,hj]
theorem Yri{w:Str}{xs:List Str}(h:(xs.map fun x:Str=>(T "").length+x.length).sum<=1000):Yax [.str w,.lst (xs.map D.str)]=some (wD (Ybi w xs)):=by
 rw[Yax,Yak (by rfl)]
 have hj:=Ylm (sep:=T "") (l:=xs.map D.str) (xs:=xs) rfl (by lia)
 unfold Ybi
 cases xs with
 | nil=>simp[Ycl,Yx]
 | cons x xs=>
   rw[if_neg (by simp)]
   simp only[qy]at hj
   simp[Ycl,Yx,hj]
theorem Ys8(b:Bool):Yqd Yf6 (hnD b)=some (.str (Yay b)):=by cases b<;>rfl
theorem Yzh(b:Bool):ixS (hnD b) (.int 0)=some (.str (Yay b)):=by cases b<;>rfl
theorem Yig{k:Kd}{R:List Rl}{H ev:List Bool}(hR:∀r∈R,In k 60 r/\sz r<=1000)(hl:R.length<=60)(hH:H.length<=60)(he:ev.length<=60):Yaa [wtD k R H ev]=some (.str (Yrh (Ydw k R H ev))):=by
 rw[Yaa,Yak (by rfl)]
 have c0:=Ydu (fe:=Ybt) (r:=[]) (enc:=hnD) (fun b=>D.str (Yay b)) (l:=H) (fun b _=>by
  have:=Ys8 b
  simp[Ybt,this])
 have c1:=Ydu (fe:=Ybu) (r:=[some (.sh (kdD k))]) (enc:=rlD) (fun r=>wD (Ya2 r)) (l:=R) (fun r hr=>by
  have:=Yif (hR r hr).1 (hR r hr).2
  simp[Ybu,this])
 have c2:=Ydu (fe:=Yc8) (r:=[]) (enc:=D.bl) (fun b=>D.str (Ydv b)) (l:=ev) (fun b _=>by cases b<;>rfl)
 have hsm:=Yi1 hR hH he
 have c3:=Ydu (fe:=Ybv) (r:=[]) (enc:=wD) (fun w=>D.str (Txt.join (T " ") w)) (l:=Ydw k R H ev) (fun w hw=>by
  have:=(Ykc (hsm w hw)).1
  simp[Ybv,this])
 have hj:=Ylo hsm (by unfold Ydw;simp;split<;>simp<;>lia)
 have s1:=Yri (w:=T "hands") (xs:=H.map Yay) (qz (Yfs Ygc H) (by lia))
 have s2:=Yri (w:=T "settled") (xs:=ev.map Ydv) (qz (Yfs Yhz ev) (by lia))
 rw[List.map_map]at s1 s2
 have m2:=Ys0 "evening" (by decide) Yai (Yac k R) (.tup (H.map hnD)) (.lst (ev.map D.bl))
 rw[Yrf]at m2
 have hst:Yx 3 [wtD k R H ev]=[some (.sh (wtD k R H ev)),none,none]:=rfl
 rw[hst]
 have e1:(D.str ∘ Yay)=fun b=>D.str (Yay b):=rfl
 have e2:(D.str ∘ Ydv)=fun b=>D.str (Ydv b):=rfl
 rw[e1]at s1
 rw[e2]at s2
 have q4:Yar [some (.sh (wtD k R H ev)),some (.sh (kdD k)),some (.ow ((Ydw k R H ev).map wD))]=some (.rt (.str (Yrh (Ydw k R H ev)))):=by
  generalize (Ydw k R H ev).map wD=LL at *
  generalize ((Ydw k R H ev).map fun w=>D.str (Txt.join (T " ") w))=TT at *
  simp[Yar,frz,frz1,capR,c3,hj]
 have q3:Ya5 [some (.sh (wtD k R H ev)),some (.sh (kdD k)),some (.ow (wD [T "kind",kS k]::wD (Ybi (T "hands") (H.map Yay))::R.map fun r=>wD (Ya2 r)))]=some (.rt (.str (Yrh (Ydw k R H ev)))):=by
  rw[Ya5,Yb7]
  by_cases hev:ev=[]
  ·subst hev
   have hr:(Ydw k R H []).map wD=wD [T "kind",kS k]::wD (Ybi (T "hands") (H.map Yay))::R.map fun r=>wD (Ya2 r):=by
    simp[Ydw,List.map_map,Function.comp_def]
   rw[hr]at q4
   simp only[List.map_nil]at m2
   simp[m2,-Yar]
   exact q4
  ·have hr:(Ydw k R H ev).map wD=(wD [T "kind",kS k]::wD (Ybi (T "hands") (H.map Yay))::R.map fun r=>wD (Ya2 r))++[wD (Ybi (T "settled") (ev.map Ydv))]:=by
    simp[Ydw,hev,List.map_map,Function.comp_def]
   rw[hr]at q4
   have hne:(ev.map D.bl).isEmpty=false:=by cases ev<;>simp at hev ⊢
   have hcap:R.length+2 < 1000000:=by lia
   generalize (ev.map fun b=>D.str (Ydv b))=LD at *
   generalize wD (Ybi (T "settled") (ev.map Ydv))=WS' at *
   generalize wD (Ybi (T "hands") (H.map Yay))=WH at *
   generalize wD [T "kind",kS k]=WK at *
   simp[m2,hne,capR,c2,s2,appD,hcap,-Yar]
   exact q4
 have hcapx:2+R.length<=1000000:=by lia
 have hk:D.lst [D.str (T "kind"),kdD k]=wD [T "kind",kS k]:=by rw[Ytw];rfl
 rw[Yen,Yb7]
 generalize (H.map fun b=>D.str (Yay b))=LH at *
 generalize wD (Ybi (T "hands") (H.map Yay))=WH at *
 generalize wD [T "kind",kS k]=WK at *
 simp[Ydt,Yds,capR,c0,s1,hk,c1,extD,hcapx,-Ya5]
 rw[q3]
 rfl
theorem Yns{l:List D}(hd:depL l<=50)(neg:Bool):eqM neg (.lst l) (.lst [])=some (if neg then !l.isEmpty else l.isEmpty):=by
 rw[Yk2 (by simp only[dep];lia) (by simp only[dep,depL];lia)]
 cases l<;>simp
theorem Ywj(H:List Bool):depL (H.map hnD)<=50:=qz (Yjs (n:=0) fun d hd=>by
 obtain⟨x,_,rfl⟩:=qv hd
 exact qs _) (by lia)
theorem Ymo(H:List Bool):depL (H.map D.bl)<=50:=qz (Yjs (n:=0) fun d hd=>by
 obtain⟨x,_,rfl⟩:=qv hd
 exact qs _) (by lia)
theorem Yor{k:Kd}{R:List Rl}{H ev:List Bool}(hR:∀r∈R,In k 60 r/\sz r<=1000)(hl:R.length<=60)(hH:H.length<=60)(he:ev.length<=60):Ybf [kdD k,.tup (R.map rlD),.lst (H.map hnD),.lst (ev.map D.bl)]=some (.lst ((Ydw k R H ev).map wD)):=by
 rw[Ybf,Yak (by rfl)]
 have hst:Yx 6 [kdD k,.tup (R.map rlD),.lst (H.map hnD),.lst (ev.map D.bl)]=[some (.sh (kdD k)),some (.sh (.tup (R.map rlD))),some (.sh (.lst (H.map hnD))),some (.sh (.lst (ev.map D.bl))),none,none]:=rfl
 rw[hst]
 have c0:=Ydu (fe:=Ydk) (r:=[]) (enc:=hnD) (fun b=>D.str (Yay b)) (l:=H) (fun b _=>by
  have:=Yzh b
  simp[Ydk,this])
 have c1:=Ydu (fe:=Yfq) (r:=[]) (enc:=D.bl) (fun b=>D.str (Ydv b)) (l:=ev) (fun b _=>by cases b<;>rfl)
 have j0:=Ylm (sep:=T "") (l:=H.map fun b=>D.str (Yay b)) (xs:=H.map Yay) (by rw[List.map_map];rfl) (qz (Yfs Ygc H) (by lia))
 have j1:=Ylm (sep:=T "") (l:=ev.map fun b=>D.str (Ydv b)) (xs:=ev.map Ydv) (by rw[List.map_map];rfl) (qz (Yfs Yhz ev) (by lia))
 have n0:=Yns (Ywj H) true
 have n1:=Yns (Ymo ev) true
 have q0:∀WH:D,Yb6 [some (.sh (kdD k)),some (.sh (.tup (R.map rlD))),some (.sh (.lst (H.map hnD))),some (.sh (.lst (ev.map D.bl))),some (.ow [wD [T "kind",kS k],WH]),none]=some (.rt (.lst (wD [T "kind",kS k]::WH::((R.map fun r=>wD (Ya2 r))++if ev=[]then []else [wD (Ybi (T "settled") (ev.map Ydv))])))):=by
  intro WH
  obtain⟨ρ',e1,y,rfl⟩:=Yff (gt:=gSet 5) (fb:=Ydl) rlD (fun pre ρ=>∃y:Option B,ρ=[some (.sh (kdD k)),some (.sh (.tup (R.map rlD))),some (.sh (.lst (H.map hnD))),some (.sh (.lst (ev.map D.bl))),some (.ow (wD [T "kind",kS k]::WH::pre.map fun r=>wD (Ya2 r))),y]) R []
   [some (.sh (kdD k)),some (.sh (.tup (R.map rlD))),some (.sh (.lst (H.map hnD))),some (.sh (.lst (ev.map D.bl))),some (.ow [wD [T "kind",kS k],WH]),none] ⟨none,rfl⟩ (by
    rintro q a r ρ e ⟨y,rfl⟩
    rw[List.nil_append]at e
    have ha:a∈R:=by rw[e];simp
    have hq:q.length < R.length:=by rw[e];simp
    have hw:=Yln (hR a ha).1 (hR a ha).2
    have hcap:q.length+2 < 1000000:=by lia
    refine⟨_,_,rfl,?_,some (.sh (rlD a)),rfl⟩
    generalize wD [T "kind",kS k]=WK at *
    simp[Ydl,hw,appD,hcap])
  rw[List.nil_append]at e1
  rw[Yb6,Yb7]
  generalize wD [T "kind",kS k]=WK at *
  simp[e1,-Yd6]
  rw[Yd6,Yb7]
  by_cases hev:ev=[]
  ·subst hev
   simp only[List.map_nil]at n1
   simp[n1,frz,frz1]
  ·have hne:(ev.map D.bl).isEmpty=false:=by cases ev<;>simp at hev ⊢
   have hsg:Ybi (T "settled") (ev.map Ydv)=[T "settled",Txt.join (T "") (ev.map Ydv)]:=if_neg (by simpa using hev)
   have hcap:R.length+2 < 1000000:=by lia
   rw[hne]at n1
   generalize (ev.map fun b=>D.str (Ydv b))=LD at *
   generalize ev.map D.bl=LE at *
   simp[n1,capR,c1,j1,appD,hcap,frz,frz1,hev,hsg]
 have hk:D.lst [D.str (T "kind"),kdD k]=wD [T "kind",kS k]:=by rw[Ytw];rfl
 have hrow:(Ydw k R H ev).map wD=wD [T "kind",kS k]::wD (Ybi (T "hands") (H.map Yay))::((R.map fun r=>wD (Ya2 r))++if ev=[]then []else [wD (Ybi (T "settled") (ev.map Ydv))]):=by
  unfold Ydw
  rw[qy,qy,List.map_append,List.map_map]
  by_cases hev:ev=[]
  ·simp[hev,Function.comp_def]
  ·simp[hev,Function.comp_def]
 rw[hrow]
 unfold Yiw Yst
 rw[if_pos (by simp)]
 by_cases hHe:H=[]
 ·subst hHe
  have q:=q0 (wD [T "hands"])
  have hsg:Ybi (T "hands") (([]:List Bool).map Yay)=[T "hands"]:=if_pos rfl
  rw[hsg]
  simp only[List.map_nil]at n0 q
  simp[n0,hk,-Yb6]
  exact(congrArg (fun o:Option Out=>o.bind endB) q).trans rfl
 ·have q:=q0 (wD [T "hands",Txt.join (T "") (H.map Yay)])
  have hne:(H.map hnD).isEmpty=false:=by cases H<;>simp at hHe ⊢
  have hsg:Ybi (T "hands") (H.map Yay)=[T "hands",Txt.join (T "") (H.map Yay)]:=if_neg (by simpa using hHe)
  rw[hsg]
  rw[hne]at n0
  generalize (H.map fun b=>D.str (Yay b))=LD at *
  generalize H.map hnD=LE at *
  simp[n0,hk,capR,c0,j0,-Yb6]
  exact(congrArg (fun o:Option Out=>o.bind endB) q).trans rfl
theorem Yzi(x:Str):Ybh [.str x,.str x]=some (.bl true):=by
 rw[Ybh,Yak (by rfl)]
 have h1:isiD "str" (D.str x)=some true:=rfl
 have h2:eqM false (D.str x) (D.str x)=some true:=by
  rw[Yk2 (by simp[dep]) (by simp[dep])]
  simp
 simp[Yiy,Yx,h1,h2]
theorem Ys9(k:Kd)(R:List Rl)(H ev:List Bool):(Ydw k R H ev).length<=R.length+3:=by
 unfold Ydw
 simp
 split<;>simp
theorem Ywk{k:Kd}{R:List Rl}{H ev:List Bool}(hR:∀r∈R,In k 60 r/\sz r<=1000)(hl:R.length<=60)(hH:H.length<=60)(he:ev.length<=60) :
 ∃x L,Yaa [wtD k R H ev]=some (.str x)/\Ybf [kdD k,.tup (R.map rlD),.lst (H.map hnD),.lst (ev.map D.bl)]=some (.lst L)/\Ybg [.lst L]=some (.str x)/\Ybh [.str x,.str x]=some (.bl true):=
 ⟨_,_,Yig hR hl hH he,Yor hR hl hH he,Yoq (Yi1 hR hH he) (by have:=Ys9 k R H ev;lia),Yzi _⟩
theorem y0q(x:Int):∃k:Kd,atI [D.str "eithers",D.str "sums",D.str "ifs",D.str "nots"] (x % 4)=some (kdD k):=by
 have e:x % 4=0\/x % 4=1\/x % 4=2\/x % 4=3:=by lia
 rcases e with e | e | e | e<;>rw[e]
 ·exact⟨.e,rfl⟩
 ·exact⟨.s,rfl⟩
 ·exact⟨.i,rfl⟩
 ·exact⟨.n,rfl⟩
theorem y0r(x:Int):atI [D.str "keeper",D.str "storm"] (x % 2)=some (hnD (decide (x % 2=0))):=by
 have e:x % 2=0\/x % 2=1:=by lia
 rcases e with e | e<;>rw[e]<;>rfl
theorem Ywl(ns:List Int)(hns:ns.length<=63):∃(k:Kd) (n:Nat) (R:List Rl) (H EV:List Bool),n<=60/\H.length=n/\EV.length<=n/\R.length<=20/\(∀r∈R,In k n r/\Srt r)/\
 Ydj [.scr ns]=some (.lst [kdD k,.tup (R.map rlD),.lst (H.map hnD),.lst (EV.map D.bl)]):=by
 have c0:=Ynn ns 0
 have c1:=Ynn ns 1
 have c2:=Ynn ns 2
 have cc:=fun i:Nat=>Ynn ns (2+i)
 generalize ns.getD 0 0=x0 at c0
 generalize ns.getD 1 0=x1 at c1
 generalize ns.getD 2 0=x2 at c2
 obtain⟨k,hk⟩:=y0q x0
 obtain⟨n,hn60,hn⟩:∃n:Nat,n<=60/\(if x0 / 244 % 2=1 then x0 / 4 % 61 % 9 else x0 / 4 % 61)=(n:Int):=by
  by_cases h:x0 / 244 % 2=1
  ·rw[if_pos h]
   exact⟨(x0 / 4 % 61 % 9).toNat,by lia,by lia⟩
  ·rw[if_neg h]
   exact⟨(x0 / 4 % 61).toNat,by lia,by lia⟩
 have k1:=Ywe ns 3 (3+(x1 % 21).toNat)
 have e21:((3+(x1 % 21).toNat:Nat):Int)=3+x1 % 21:=by lia
 rw[e21]at k1
 generalize hcl:(ns.drop (min 3 ns.length)).take (min (3+(x1 % 21).toNat) ns.length - min 3 ns.length)=cells at k1
 have hcl':cells.length<=20:=by
  rw[<-hcl,List.length_take,List.length_drop]
  lia
 obtain⟨R,hRl,hR,hRc⟩:=drawn (fe:=Yc2) (r:=[some (.sh (kdD k)),some (.sh (.int (n:Int)))]) (P:=fun r=>In k n r/\Srt r) (fun c=>by
  obtain⟨r,hin,hs,hr⟩:=Ys6 k c n hn60
  exact⟨r,⟨hin,hs⟩,by simp[Yc2,hr]⟩) cells
 obtain⟨ρ',e1,H,L,y,hH,hL,rfl⟩:=Yff (gt:=gSet 6) (fb:=Yc3) (fun i:Nat=>D.int (0+(i:Nat))) (fun pre ρ=>∃(H L:List Bool) (y:Option B),H.length=pre.length/\L.length=pre.length/\
  ρ=[some (.sh (.scr ns)),some (.sh (kdD k)),some (.sh (.int (n:Int))),some (.ow (R.map rlD)),some (.ow (H.map hnD)),some (.ow (L.map D.bl)),y]) (List.range n) []
  [some (.sh (.scr ns)),some (.sh (kdD k)),some (.sh (.int (n:Int))),some (.ow (R.map rlD)),some (.ow []),some (.ow []),none] ⟨[],[],none,rfl,rfl,rfl⟩ (by
   rintro q a r ρ e ⟨H,L,y,hH,hL,rfl⟩
   rw[List.nil_append]at e
   have hq:q.length < n:=by have:=congrArg List.length e;simp at this;lia
   have hc:=cc a
   push_cast at hc
   generalize ns.getD (2+a) 0=xa at hc
   obtain⟨v,_,hv⟩:=Ymj xa 1442695040888963407
   obtain⟨u,_,hu⟩:=Ymj xa 2049848353892358983
   have ha:=y0r v
   have cap1:H.length < 1000000:=by lia
   have cap2:L.length < 1000000:=by lia
   refine⟨_,_,rfl,?_,H++[decide (v % 2=0)],L++[decide (u % 2=1)],some (.sh (.int (0+(a:Int)))),by simp[hH],by simp[hL],rfl⟩
   simp[Yc3,hc,hv,hu,ha,appD,cap1,cap2])
 simp only[List.nil_append,List.length_range]at hH hL
 obtain⟨j,hj⟩:∃j:Nat,x2 % ((n:Int)+1)=(j:Int):=⟨(x2 % ((n:Int)+1)).toNat,by
  have:=Int.emod_nonneg x2 (show(n:Int)+1≠0 by lia)
  lia⟩
 have hjn:j<=n:=by
  have:=Int.emod_lt_of_pos x2 (show(0:Int) < (n:Int)+1 by lia)
  lia
 have hmod:modI (.int x2) (.int ((n:Int)+1))=some (.int (j:Int)):=by rw[Yhg (by lia),hj]
 have hcut:=Ywi (L.map D.bl) j (by rw[qe];lia)
 rw[<-List.map_take]at hcut
 have hr:=Yqq (n:=(n:Int)) (by lia) (by lia)
 rw[Yqp]at hr
 have hn':((n:Int) - 0).toNat=n:=by lia
 rw[hn']at hr
 refine⟨k,n,R,H,L.take j,hn60,hH,by rw[List.length_take];lia,by lia,hR,?_⟩
 rw[Ydj,Yak (by rfl)]
 have hst:Yx 7 [D.scr ns]=[some (.sh (.scr ns)),none,none,none,none,none,none]:=rfl
 rw[hst]
 simp at c0 c1 c2 k1
 have q6:Ycf [some (.sh (.scr ns)),some (.sh (kdD k)),some (.sh (.int (n:Int))),some (.ow (R.map rlD)),some (.ow []),some (.ow []),none]=some (.rt (.lst [kdD k,.tup (R.map rlD),.lst (H.map hnD),.lst ((L.take j).map D.bl)])):=by
  have q7:Yce [some (.sh (.scr ns)),some (.sh (kdD k)),some (.sh (.int (n:Int))),some (.ow (R.map rlD)),some (.ow (H.map hnD)),some (.ow (L.map D.bl)),y]=some (.rt (.lst [kdD k,.tup (R.map rlD),.lst (H.map hnD),.lst ((L.take j).map D.bl)])):=by
   generalize (L.take j).map D.bl=LT at *
   generalize L.map D.bl=LL at *
   generalize H.map hnD=HH at *
   generalize R.map rlD=RR at *
   simp[Yce,frz,frz1,optI,c2,hmod,hcut]
  clear hcut
  generalize (L.take j).map D.bl=LT at *
  rw[Ycf,Yb7]
  simp[hr,-Yce]at e1 ⊢
  rw[e1]
  exact q7
 have q3:Ybn [some (.sh (.scr ns)),some (.sh (kdD k)),some (.sh (.int (n:Int))),none,none,none,none]=some (.rt (.lst [kdD k,.tup (R.map rlD),.lst (H.map hnD),.lst ((L.take j).map D.bl)])):=by
  rw[Ybn,Yb7]
  generalize (L.take j).map D.bl=LT at *
  generalize H.map hnD=HH at *
  simp[optI,c1,k1,capR,hRc,-Ycf]
  exact q6
 have q2:Ycg [some (.sh (.scr ns)),some (.sh (kdD k)),none,none,none,none,none]=some (.rt (.lst [kdD k,.tup (R.map rlD),.lst (H.map hnD),.lst ((L.take j).map D.bl)])):=by
  clear q6 e1
  generalize (L.take j).map D.bl=LT at *
  generalize H.map hnD=HH at *
  generalize R.map rlD=RR at *
  rw[Ycg,Yb7]
  by_cases h:x0 / 244 % 2=1
  ·rw[if_pos h]at hn
   simp[c0,h,hn,-Ybn]
   exact q3
  ·rw[if_neg h]at hn
   simp[c0,h,hn,-Ybn]
   exact q3
 rw[Yhs,Yb7]
 clear q6 q3 e1
 generalize (L.take j).map D.bl=LT at *
 generalize H.map hnD=HH at *
 generalize R.map rlD=RR at *
 simp[c0,hk,-Ycg]
 rw[q2]
 rfl
theorem Yta{l:Addr}{ρ:Ro}{t t':List Bool}{b h d:D}{g:Addr->Wm}(h8:ρ[5]?=some (some (.sh (watD b h (.adr l)))))(hg:g l [some (.sh (watD b h (.adr l)))] t=some (.rt d t')):Yq5 l 5 g ρ t=some (.nx ρ t'):=by
 unfold Yq5
 rw[h8]
 show(if l=l/\("Watch":Str)="Watch"/\wks=wks then (g l [some (.sh (watD b h (.adr l)))] t).bind _ else none)=_
 rw[if_pos ⟨rfl,rfl,rfl⟩,hg]
 rfl
theorem Yrj{l:Addr}{ρ:Ro}{t:List Bool}{b h d:D}{c:Bool}{f:Ro->Option D}{g:Addr->Wm}(h8:ρ[5]?=some (some (.sh (watD b h (.adr l)))))(hf:f ρ=some (.bl c))(hg:g l [some (.sh (watD b h (.adr l))),some (.sh (.bl c))] t=some (.rt d (t++[c]))):Yoj l 5 f g ρ t=some (.nx ρ (t++[c])):=by
 unfold Yoj
 rw[h8]
 show(if l=l/\("Watch":Str)="Watch"/\wks=wks then _ else none)=_
 rw[if_pos ⟨rfl,rfl,rfl⟩,hf]
 show(g l [some (.sh (watD b h (.adr l))),some (.sh (.bl c))] t).bind _=_
 rw[hg]
 show(if t++[c]=t++[c]then _ else none)=_
 rw[if_pos rfl]
section
variable (ns:List Int) (k:Kd) (R:List Rl) (H EV:List Bool) (l:Addr)
abbrev roV(y6:Option B):Ro:=[some (.sh (.scr ns)),some (.sh (kdD k)),some (.sh (.tup (R.map rlD))),some (.sh (.lst (H.map hnD))),some (.sh (.lst (EV.map D.bl))),some (.sh (watD (Yac k R) (.tup (H.map hnD)) (.adr l))),y6]
abbrev askF(f4:Ro->Option D):Ro->Option D:=cC (Ye (cC (Ye (getV 5) aNil) Yaa) (Ye (cC (Ye (cC (Ye (getV 1) (Ye (getV 2) (Ye (getV 3) (Ye f4 aNil)))) Ybf) aNil) Ybg) aNil)) Ybh
theorem Ykd(hR:∀r∈R,In k 60 r/\sz r<=1000)(hl:R.length<=60)(hH:H.length<=60){t:List Bool}(ht:t.length<=60){f4:Ro->Option D}{y6:Option B}
 (h4:f4 ((roV ns k R H EV l y6).set 5 (some (.sh (watD (Yac k R) (.tup (H.map hnD)) (.lst (t.map D.bl))))))=some (.lst (t.map D.bl))) :
 askF f4 ((roV ns k R H EV l y6).set 5 (some (.sh (watD (Yac k R) (.tup (H.map hnD)) (.lst (t.map D.bl))))))=some (.bl true):=by
 obtain⟨x,L,w1,w2,w3,w4⟩:=Ywk (k:=k) (R:=R) (H:=H) (ev:=t) hR hl hH ht
 have g5:getV 5 ((roV ns k R H EV l y6).set 5 (some (.sh (watD (Yac k R) (.tup (H.map hnD)) (.lst (t.map D.bl))))))=some (wtD k R H t):=rfl
 have g1:getV 1 ((roV ns k R H EV l y6).set 5 (some (.sh (watD (Yac k R) (.tup (H.map hnD)) (.lst (t.map D.bl))))))=some (kdD k):=rfl
 have g2:getV 2 ((roV ns k R H EV l y6).set 5 (some (.sh (watD (Yac k R) (.tup (H.map hnD)) (.lst (t.map D.bl))))))=some (.tup (R.map rlD)):=rfl
 have g3:getV 3 ((roV ns k R H EV l y6).set 5 (some (.sh (watD (Yac k R) (.tup (H.map hnD)) (.lst (t.map D.bl))))))=some (.lst (H.map hnD)):=rfl
 generalize (roV ns k R H EV l y6).set 5 (some (.sh (watD (Yac k R) (.tup (H.map hnD)) (.lst (t.map D.bl)))))=ρ at *
 generalize t.map D.bl=LT at *
 generalize H.map hnD=HH at *
 generalize R.map rlD=RR at *
 simp[g5,g1,g2,g3,h4,w1,w2,w3,w4]
theorem Ytx{t:List Bool}{f4:Ro->Option D}{y6:Option B}(h:askF f4 ((roV ns k R H EV l y6).set 5 (some (.sh (watD (Yac k R) (.tup (H.map hnD)) (.lst (t.map D.bl))))))=some (.bl true)) :
 ifW (Yjt l 5 (notT (b1 (askF f4) truD))) (Yf5 (sRet (kD (.bl false)))) nilW (roV ns k R H EV l y6) t=some (.nx (roV ns k R H EV l y6) t):=by
 rw[Ywh]
 ·rfl
 ·unfold Yjt
  rw[Ynq (b:=Yac k R) (h:=.tup (H.map hnD)) rfl,qc]
  generalize (roV ns k R H EV l y6).set 5 (some (.sh (watD (Yac k R) (.tup (H.map hnD)) (.lst (t.map D.bl)))))=ρ at *
  show(notT (b1 (askF f4) truD)) ρ=_
  have e:b1 (askF f4) truD ρ=some true:=by
   show(askF f4 ρ).bind truD=_
   rw[h]
   rfl
  show(b1 (askF f4) truD ρ).map (!·)=_
  rw[e]
  rfl
theorem Ywm(hR:∀r∈R,OkR k H.length r/\sz r<=1000)(hl:R.length<=60)(hH:H.length<=60)(hE:EV.length<=H.length):∃t,Ymg l (roV ns k R H EV l none) []=some (.rt (.bl true) t):=by
 have hR6:∀r∈R,In k 60 r/\sz r<=1000:=fun r hr=>by
  refine⟨?_,(hR r hr).2⟩
  have h:=(hR r hr).1.1
  cases r with
  | ei q=>exact⟨h.1,fun s hs=>Qb (h.2 s hs) hH⟩
  | su b o=>exact⟨h.1,fun s hs=>Qb (h.2 s hs) hH⟩
  | im b o=>exact⟨h.1,fun s hs=>Qb (h.2.1 s hs) hH,fun x hx=>Qb (h.2.2 x hx) hH⟩
 have hR9:∀r∈R,OkR k H.length r/\sz r<=9999:=fun r hr=>⟨(hR r hr).1,qz (hR r hr).2 (by lia)⟩
 obtain⟨ρ',t',e1,y6,ht',rfl⟩:=Ynp (gt:=gSet 6) (fb:=Ynl l) D.bl (fun pre ρ t=>∃y6,t=pre/\ρ=roV ns k R H EV l y6) EV [] (roV ns k R H EV l none) [] ⟨none,rfl,rfl⟩ (by
  rintro q a r ρ t e ⟨y6,rfl,rfl⟩
  rw[List.nil_append]at e
  have hq:t.length < EV.length:=by rw[e];simp
  refine⟨_,_,_,rfl,Yrj (c:=a) rfl rfl (Ys3 (k:=k) (R:=R) (H:=H) (ev:=t) (by lia) hH hR9 l a),some (.sh (.bl a)),rfl,rfl⟩)
 rw[List.nil_append]at ht'
 rw[ht']at e1
 have hfin:∃t,Yj9 l (roV ns k R H EV l y6) EV=some (.rt (.bl true) t):=by
  by_cases he:EV=[]
  ·refine⟨EV,?_⟩
   unfold Yj9 seqW
   rw[Ys2 (d:=.bl true)]
   ·rfl
   ·subst he
    have n1:=Yns (Ymo []) false
    simp only[List.map_nil]at n1
    simp[n1]
  ·obtain⟨ev,c,rfl⟩:∃ev c,EV=ev++[c]:=⟨EV.dropLast,EV.getLast he,(List.dropLast_concat_getLast he).symm⟩
   refine⟨ev,?_⟩
   have n1:=Yns (Ymo (ev++[c])) false
   have hne:((ev++[c]).map D.bl).isEmpty=false:=by simp
   rw[hne]at n1
   unfold Yj9
   rw[Ydn (ρ':=roV ns k R H (ev++[c]) l y6) (t':=ev++[c]) (Yno (by
    have g4:getC 4 (roV ns k R H (ev++[c]) l y6)=some (.lst ((ev++[c]).map D.bl)):=rfl
    clear e1
    generalize roV ns k R H (ev++[c]) l y6=ρ at *
    generalize (ev++[c]).map D.bl=LE at *
    simp[g4,n1]))]
   unfold Yra
   rw[Ydn (Yta (b:=Yac k R) (h:=.tup (H.map hnD)) rfl (Yzf (k:=k) (R:=R) (H:=H) (ev:=ev) (c:=c) l))]
   unfold Yq9 retL
   rw[Ynq (b:=Yac k R) (h:=.tup (H.map hnD)) rfl,qc]
   have hlen:ev.length<=60:=by rw[qw]at hE;simp at hE;lia
   have ha:=Ykd ns k R H (ev++[c]) l hR6 hl hH hlen (f4:=lF (slF (getC 4) none (some (b1 (kD (.int 1)) negI)))) (y6:=y6) (by
    have hcut:cutD ((ev++[c]).map D.bl) none (some (-1))=ev.map D.bl:=by
     unfold cutD
     have h1:HT.sIx ((ev++[c]).map D.bl).length ((ev++[c]).map D.bl).length (some (-1))=ev.length:=by
      unfold HT.sIx
      simp
      lia
     rw[h1,HT.sIx_none,List.map_append]
     simp
    have g4:getC 4 ((roV ns k R H (ev++[c]) l y6).set 5 (some (.sh (watD (Yac k R) (.tup (H.map hnD)) (.lst (ev.map D.bl))))))=some (.lst ((ev++[c]).map D.bl)):=rfl
    generalize (roV ns k R H (ev++[c]) l y6).set 5 (some (.sh (watD (Yac k R) (.tup (H.map hnD)) (.lst (ev.map D.bl)))))=ρ at *
    generalize (ev++[c]).map D.bl=LE at *
    generalize ev.map D.bl=LT at *
    simp[g4,optI,hcut])
   show(askF _ _).bind _=_
   rw[ha]
   rfl
 obtain⟨t,ht⟩:=hfin
 refine⟨t,?_⟩
 unfold Ymg
 rw[Ydn (Ytx ns k R H EV l (t:=[]) (f4:=lF (dLst aNil)) (y6:=none) (Ykd ns k R H EV l hR6 hl hH (by simp) rfl))]
 unfold Yrc
 rw[Ydn (f:=Yog _ _ _) (ρ':=roV ns k R H EV l y6) (t':=EV)]
 ·unfold Yrb
  rw[Ydn (Ytx ns k R H EV l (t:=EV) (f4:=getV 4) (y6:=y6) (Ykd ns k R H EV l hR6 hl hH (by lia) rfl))]
  exact ht
 ·unfold Yog
  show(some (EV.map D.bl)).bind _=_
  exact e1
end
theorem law_true(ns:List Int)(hns:ns.length<=63):Ymi [.scr ns]=some (.bl true):=by
 rw[Ymi,Yak (by rfl)]
 obtain⟨k,n,R,H,EV,hn,hH,hE,hRl,hR,hd⟩:=Ywl ns hns
 have hz:∀r∈R,sz r<=62:=fun r hr=>by
  have:=y0j (hR r hr).1 (hR r hr).2
  lia
 have hOk:∀r∈R,OkR k H.length r/\sz r<=1000:=fun r hr=>⟨⟨by rw[hH];exact(hR r hr).1,(hR r hr).2⟩,qz (hz r hr) (by lia)⟩
 have hck:=Ys4 (k:=k) (m:=63) (R:=R) (H:=H) (by lia) (by lia) (fun r hr=>⟨(hOk r hr).1,by have:=hz r hr;lia⟩) (h:=.lst (H.map hnD)) (.inl rfl)
 have hst:Yx 7 [D.scr ns]=[some (.sh (.scr ns)),none,none,none,none,none,none]:=rfl
 rw[hst]
 have q1:Ymh [some (.sh (.scr ns)),some (.sh (kdD k)),some (.sh (.tup (R.map rlD))),some (.sh (.lst (H.map hnD))),some (.sh (.lst (EV.map D.bl))),none,none]=some (.rt (.bl true)):=by
  unfold Ymh
  refine Yoo (b:=Yac k R) (h:=.lst (H.map hnD)) (d2:=Yac k R) (d3:=.tup (H.map hnD)) rfl rfl (fun x=>?_) (fun x=>⟨rfl,rfl⟩) (Ys5 k R) (Yze H) fun l=>?_
  ·unfold Ycn sExp
   show(Ybl [Yac k R,.lst (H.map hnD)]).map _=_
   rw[hck]
   rfl
  ·exact Ywm ns k R H EV l hOk (by lia) (by lia) (by lia)
 rw[Yy9,Yb7]
 generalize EV.map D.bl=LE at *
 generalize H.map hnD=HH at *
 generalize R.map rlD=RR at *
 simp[hd,q1]
end Lw
end
namespace Op
open PySem PySem.W PyProof.Rows PySem.Calls
set_option maxRecDepth 100000
noncomputable abbrev pg:Program:=PySem.Challenge.pw_duskbook_k55_pages_written
noncomputable def topm(i j:Nat):Stmt:=L2.inClass (Lw.top i) j
noncomputable abbrev en(P:Params)(x:Str)(t:Nat)(v:Value):DictEntry:=⟨PyData.keyHash P x,.str x t,v⟩
noncomputable abbrev fn(name qual:Str)(s:Stmt)(dV kV doc pm:Value)(an:Option Addr)(cdv ct:Value)(g b:Nat):Data:=.func ⟨name,qual,L2.defArgs s,.stmts (L2.defBody s),L2.defScope s,g,[],dV,kV,doc,pm,an,cdv,ct,b⟩
noncomputable abbrev tu(l:List Value):Obj:=⟨.type "tuple",none,.seq ⟨l⟩ 0,#[]⟩
noncomputable abbrev fl:Obj:=⟨.none,none,.fields #[],#[]⟩
noncomputable abbrev oZ(x:Str)(i:Nat):Obj:=⟨.none,none,fn x x (Lw.top i) .none .none .none .none none .none .none 0 0,#[]⟩
noncomputable abbrev oF(x:Str)(i:Nat)(pm:Value)(c:Nat):Obj:=⟨.type "function",none,.func (fnOf x x (L2.defArgs (Lw.top i)) (L2.defBody (Lw.top i)) (L2.defScope (Lw.top i)) .none .none .none pm none (.ref c) .none),#[]⟩
noncomputable abbrev oM(x q:Str)(i j:Nat)(pm:Value)(c:Nat):Obj:=⟨.type "function",none,.func (fnOf x q (L2.defArgs (L2.inClass (Lw.top i) j)) (L2.defBody (L2.inClass (Lw.top i) j)) (L2.defScope (L2.inClass (Lw.top i) j)) .none .none .none pm none (.ref c) .none),#[]⟩
noncomputable abbrev oC(x:Str)(t l n b:Nat)(u v:Value)(c k e:Nat):Obj:=⟨.type "code",none,.fields #[.str x t,.str x (t+1),.str "/claim/cut.py" (t+2),.int (.ofNat l) 0,.int (.ofNat n) 0,.int 0 0,.int 0 0,.int 3 0,.ref b,.bool true,.int (.ofNat k) 0,.ref (b+1),.none,u,v,.ref c,.int (.ofNat e) 0,.int (.ofNat l) 0,.str "/claim/cut.py" (e+1)],#[]⟩
noncomputable abbrev p0:Value:=(.str "duskbook.books" 271)
noncomputable abbrev p1:Value:=(.str "duskbook.watches" 383)
noncomputable abbrev p2:Value:=(.str "duskbook.pages" 476)
noncomputable abbrev p3:Value:=(.str "law_duskbook_k55_pages_written" 513)
noncomputable def et0(P:Params):List DictEntry:=[en P "__doc__" 166 .none,en P "__package__" 167 .none,en P "__loader__" 168 (.builtin "__main__.__loader__#opaque"),en P "__spec__" 169 .none,en P "__annotations__" 170 (.ref 6),en P "__builtins__" 171 (.ref 4),en P "__file__" 173 (.str "/claim/cut.py" 172),en P "__cached__" 174 .none,en P "DuskError" 206 (.ref 24),en P "NoHands" 222 (.ref 37),en P "Over" 238 (.ref 49),en P "NoLight" 254 (.ref 61),en P "NoneSettled" 270 (.ref 73),en P "BEACON_COUNT" 274 (.int (60) 273),en P "either_holds" 280 (.ref 80),en P "sum_holds" 286 (.ref 85),en P "if_holds" 292 (.ref 90),en P "rule_holds" 301 (.ref 97),en P "broken_rules" 307 (.ref 102),en P "holds" 315 (.ref 109),en P "beacons_in" 321 (.ref 114),en P "beacons_of" 330 (.ref 121),en P "without" 336 (.ref 126),en P "either_left" 342 (.ref 131),en P "sum_left" 353 (.ref 138),en P "if_left" 363 (.ref 145),en P "rule_left" 373 (.ref 152),en P "left_behind" 379 (.ref 157),en P "HANDS" 382 (.ref 158),en P "is_hand" 391 (.ref 165),en P "check_hands" 397 (.ref 170),en P "Watch" 475 (.ref 229),en P "LETTERS" 484 (.ref 234),en P "saying_written" 492 (.ref 241),en P "rule_written" 498 (.ref 246),en P "signs_written" 506 (.ref 253),en P "page_written" 512 (.ref 258),en P "_law_cell" 522 (.ref 265),en P "_law_mixed" 530 (.ref 272),en P "_law_rule" 547 (.ref 279)]
noncomputable def et1(P:Params):List DictEntry:=[en P "_law_drawn" 553 (.ref 284),en P "_law_saying_word" 560 (.ref 291),en P "_law_rule_words" 566 (.ref 296),en P "_law_rows" 572 (.ref 301),en P "_law_page" 578 (.ref 306),en P "_law_text" 586 (.ref 313),en P "law" 599 (.ref 320)]
noncomputable def et(P:Params):List DictEntry:=et0 P++et1 P
noncomputable abbrev ns(P:Params)(x:DictEntry)(n k:Nat):Obj:=⟨.type "dict",none,.dict ⟨x::(et P).take n⟩ k,#[]⟩
noncomputable def ff0:List Value:=[(.int (2) 0),(.int (0) 0),(.ref 20),(.int (4) 0),(.int (0) 0),(.ref 33),(.int (6) 0),(.int (0) 0),(.ref 45),(.int (8) 0),(.int (0) 0),(.ref 57),(.int (10) 0),(.int (0) 0),(.ref 69),(.int (14) 0),(.int (0) 0),(.ref 79),(.int (16) 0),(.int (0) 0),(.ref 84),(.int (19) 0),(.int (0) 0),(.ref 89),(.int (23) 0),(.int (0) 0),(.ref 96),(.int (29) 0),(.int (0) 0),(.ref 101),(.int (31) 0),(.int (0) 0),(.ref 108),(.int (33) 0),(.int (0) 0),(.ref 113),(.int (39) 0),(.int (0) 0),(.ref 120),(.int (44) 0)]
noncomputable def ff1:List Value:=[(.int (0) 0),(.ref 125),(.int (46) 0),(.int (0) 0),(.ref 130),(.int (50) 0),(.int (0) 0),(.ref 137),(.int (56) 0),(.int (0) 0),(.ref 144),(.int (63) 0),(.int (0) 0),(.ref 151),(.int (71) 0),(.int (0) 0),(.ref 156),(.int (76) 0),(.int (0) 0),(.ref 164),(.int (78) 0),(.int (0) 0),(.ref 169),(.int (85) 0),(.int (0) 0),(.ref 176),(.int (126) 0),(.int (0) 0),(.ref 240),(.int (129) 0),(.int (0) 0),(.ref 245),(.int (136) 0),(.int (0) 0),(.ref 252),(.int (138) 0),(.int (0) 0),(.ref 257),(.int (146) 0),(.int (0) 0)]
noncomputable def ff2:List Value:=[(.ref 264),(.int (150) 0),(.int (0) 0),(.ref 271),(.int (152) 0),(.int (0) 0),(.ref 278),(.int (177) 0),(.int (0) 0),(.ref 283),(.int (189) 0),(.int (0) 0),(.ref 290),(.int (191) 0),(.int (0) 0),(.ref 295),(.int (201) 0),(.int (0) 0),(.ref 300),(.int (210) 0),(.int (0) 0),(.ref 305),(.int (212) 0),(.int (0) 0),(.ref 312),(.int (214) 0),(.int (0) 0),(.ref 319)]
noncomputable def ff:List Value:=ff0++ff1++ff2
noncomputable abbrev ft(n:Nat):Obj:=⟨.none,none,.fields ⟨ff.take n⟩,#[]⟩
noncomputable abbrev dF(x:Str)(i l n t b:Nat)(pm:Value)(k:Nat):List Obj:=[tu [],fl,oZ x i,oC x t l n b .none .none (b+2) k (t+3),oF x i pm (b+3)]
noncomputable abbrev dG(x:Str)(i l n t b:Nat)(pm:Value)(k:Nat)(u:List Value):List Obj:=[tu [],fl,tu u,tu [],oZ x i,oC x t l n b (.ref (b+2)) (.ref (b+3)) (b+4) k (t+3+u.length),oF x i pm (b+5)]
noncomputable def al0(P:Params):List Obj:=[boot_o_0 P,boot_o_1 P,boot_o_2 P,ns P (en P "__name__" 165 (.str "law_duskbook_k55_pages_written" 513)) 47 48,boot_o_4 P,boot_o_5 P,boot_o_6 P,boot_o_7 P,boot_o_8 P,boot_o_9 P,boot_o_10 P,tu [],ft 108,⟨(.type "code"),none,(.fields #[(.str "<module>" 182),(.str "<module>" 183),(.str "/claim/cut.py" 184),(.int (1) 0),(.int (0) 0),(.int (0) 0),(.int (0) 0),(.int (0) 0),(.ref 11),(.bool false),(.int (181) 0),(.ref 12),.none,.none,.none,.none,(.int (185) 0),(.int (1) 0),(.str "/claim/cut.py" 186)]),#[]⟩,⟨(.type "frame"),none,.plain,#[(some (.ref 13)),(some (.ref 3)),(some (.ref 3)),none,(some (.str "__main__" 164)),none,(some (.ref 0))]⟩,tu [(.type "ValueError")],⟨(.type "builtin_function_or_method"),none,(.fields #[(.builtin "type.__prepare__"),(.type "type")]),#[]⟩,⟨(.type "dict"),none,(.dict #[en P "__module__" 196 (.str "duskbook.errors" 187),en P "__qualname__" 198 (.str "DuskError" 197),en P "__firstlineno__" 200 (.int (2) 199),en P "__static_attributes__" 201 (.ref 22)] 4),#[]⟩,tu [],fl,⟨(.type "code"),none,(.fields #[(.str "DuskError" 191),(.str "DuskError" 192),(.str "/claim/cut.py" 193),(.int (2) 0),(.int (0) 0),(.int (0) 0),(.int (0) 0),(.int (0) 0),(.ref 18),(.bool false),(.int (181) 0),(.ref 19),.none,.none,.none,.none,(.int (194) 0),(.int (2) 0),(.str "/claim/cut.py" 195)]),#[]⟩,⟨(.type "frame"),none,.plain,#[(some (.ref 20)),(some (.ref 3)),(some (.ref 17)),none,(some (.str "duskbook.errors" 187)),none,(some (.ref 0))]⟩,tu [],⟨(.type "dict"),none,(.dict #[en P "__module__" 196 (.str "duskbook.errors" 187),en P "__firstlineno__" 200 (.int (2) 199),en P "__static_attributes__" 201 (.ref 22),en P "__weakref__" 203 (.ref 25),en P "__doc__" 204 .none] 3),#[]⟩,⟨(.type "type"),none,(.cls ⟨"DuskError",[(.type "ValueError")],[(.ref 24),(.type "ValueError"),(.type "Exception"),(.type "BaseException"),(.type "object")],23,"DuskError",true,[],[(.ref 37),(.ref 49),(.ref 61),(.ref 73)],false,none,false⟩),#[(some (.ref 15)),none,(some (.str "DuskError" 189)),(some (.str "DuskError" 197)),(some (.builtin "ValueError.__new__")),(some (.bool true))]⟩,⟨(.type "getset_descriptor"),none,(.fields #[(.str "__weakref__" 202),(.ref 24),(.builtin "ExceptionGroup.__weakref__"),.none]),#[]⟩,⟨(.type "super"),none,(.fields #[(.ref 24),(.ref 24),(.ref 24)]),#[]⟩,⟨(.type "builtin_function_or_method"),none,(.fields #[(.builtin "object.__init_subclass__"),(.ref 24)]),#[]⟩,tu [(.ref 24)],⟨(.type "builtin_function_or_method"),none,(.fields #[(.builtin "type.__prepare__"),(.type "type")]),#[]⟩,⟨(.type "dict"),none,(.dict #[en P "__module__" 214 (.str "duskbook.errors" 187),en P "__qualname__" 216 (.str "NoHands" 215),en P "__firstlineno__" 218 (.int (4) 217),en P "__static_attributes__" 219 (.ref 35)] 4),#[]⟩,tu [],fl,⟨(.type "code"),none,(.fields #[(.str "NoHands" 209),(.str "NoHands" 210),(.str "/claim/cut.py" 211),(.int (4) 0),(.int (0) 0),(.int (0) 0),(.int (0) 0),(.int (0) 0),(.ref 31),(.bool false),(.int (181) 0),(.ref 32),.none,.none,.none,.none,(.int (212) 0),(.int (4) 0),(.str "/claim/cut.py" 213)]),#[]⟩,⟨(.type "frame"),none,.plain,#[(some (.ref 33)),(some (.ref 3)),(some (.ref 30)),none,(some (.str "duskbook.errors" 187)),none,(some (.ref 0))]⟩,tu [],⟨(.type "dict"),none,(.dict #[en P "__module__" 214 (.str "duskbook.errors" 187),en P "__firstlineno__" 218 (.int (4) 217),en P "__static_attributes__" 219 (.ref 35),en P "__doc__" 220 .none] 2),#[]⟩,⟨(.type "type"),none,(.cls ⟨"NoHands",[(.ref 24)],[(.ref 37),(.ref 24),(.type "ValueError"),(.type "Exception"),(.type "BaseException"),(.type "object")],36,"NoHands",true,[],[],false,none,false⟩),#[(some (.ref 28)),none,(some (.str "NoHands" 207)),(some (.str "NoHands" 215)),(some (.builtin "ValueError.__new__")),(some (.bool true))]⟩,⟨(.type "super"),none,(.fields #[(.ref 37),(.ref 37),(.ref 37)]),#[]⟩,⟨(.type "builtin_function_or_method"),none,(.fields #[(.builtin "object.__init_subclass__"),(.ref 37)]),#[]⟩]++([tu [(.ref 24)],⟨(.type "builtin_function_or_method"),none,(.fields #[(.builtin "type.__prepare__"),(.type "type")]),#[]⟩,⟨(.type "dict"),none,(.dict #[en P "__module__" 230 (.str "duskbook.errors" 187),en P "__qualname__" 232 (.str "Over" 231),en P "__firstlineno__" 234 (.int (6) 233),en P "__static_attributes__" 235 (.ref 47)] 4),#[]⟩,tu [],fl,⟨(.type "code"),none,(.fields #[(.str "Over" 225),(.str "Over" 226),(.str "/claim/cut.py" 227),(.int (6) 0),(.int (0) 0),(.int (0) 0),(.int (0) 0),(.int (0) 0),(.ref 43),(.bool false),(.int (181) 0),(.ref 44),.none,.none,.none,.none,(.int (228) 0),(.int (6) 0),(.str "/claim/cut.py" 229)]),#[]⟩,⟨(.type "frame"),none,.plain,#[(some (.ref 45)),(some (.ref 3)),(some (.ref 42)),none,(some (.str "duskbook.errors" 187)),none,(some (.ref 0))]⟩,tu [],⟨(.type "dict"),none,(.dict #[en P "__module__" 230 (.str "duskbook.errors" 187),en P "__firstlineno__" 234 (.int (6) 233),en P "__static_attributes__" 235 (.ref 47),en P "__doc__" 236 .none] 2),#[]⟩,⟨(.type "type"),none,(.cls ⟨"Over",[(.ref 24)],[(.ref 49),(.ref 24),(.type "ValueError"),(.type "Exception"),(.type "BaseException"),(.type "object")],48,"Over",true,[],[],false,none,false⟩),#[(some (.ref 40)),none,(some (.str "Over" 223)),(some (.str "Over" 231)),(some (.builtin "ValueError.__new__")),(some (.bool true))]⟩,⟨(.type "super"),none,(.fields #[(.ref 49),(.ref 49),(.ref 49)]),#[]⟩,⟨(.type "builtin_function_or_method"),none,(.fields #[(.builtin "object.__init_subclass__"),(.ref 49)]),#[]⟩,tu [(.ref 24)],⟨(.type "builtin_function_or_method"),none,(.fields #[(.builtin "type.__prepare__"),(.type "type")]),#[]⟩,⟨(.type "dict"),none,(.dict #[en P "__module__" 246 (.str "duskbook.errors" 187),en P "__qualname__" 248 (.str "NoLight" 247),en P "__firstlineno__" 250 (.int (8) 249),en P "__static_attributes__" 251 (.ref 59)] 4),#[]⟩,tu [],fl,⟨(.type "code"),none,(.fields #[(.str "NoLight" 241),(.str "NoLight" 242),(.str "/claim/cut.py" 243),(.int (8) 0),(.int (0) 0),(.int (0) 0),(.int (0) 0),(.int (0) 0),(.ref 55),(.bool false),(.int (181) 0),(.ref 56),.none,.none,.none,.none,(.int (244) 0),(.int (8) 0),(.str "/claim/cut.py" 245)]),#[]⟩,⟨(.type "frame"),none,.plain,#[(some (.ref 57)),(some (.ref 3)),(some (.ref 54)),none,(some (.str "duskbook.errors" 187)),none,(some (.ref 0))]⟩,tu [],⟨(.type "dict"),none,(.dict #[en P "__module__" 246 (.str "duskbook.errors" 187),en P "__firstlineno__" 250 (.int (8) 249),en P "__static_attributes__" 251 (.ref 59),en P "__doc__" 252 .none] 2),#[]⟩,⟨(.type "type"),none,(.cls ⟨"NoLight",[(.ref 24)],[(.ref 61),(.ref 24),(.type "ValueError"),(.type "Exception"),(.type "BaseException"),(.type "object")],60,"NoLight",true,[],[],false,none,false⟩),#[(some (.ref 52)),none,(some (.str "NoLight" 239)),(some (.str "NoLight" 247)),(some (.builtin "ValueError.__new__")),(some (.bool true))]⟩,⟨(.type "super"),none,(.fields #[(.ref 61),(.ref 61),(.ref 61)]),#[]⟩,⟨(.type "builtin_function_or_method"),none,(.fields #[(.builtin "object.__init_subclass__"),(.ref 61)]),#[]⟩,tu [(.ref 24)],⟨(.type "builtin_function_or_method"),none,(.fields #[(.builtin "type.__prepare__"),(.type "type")]),#[]⟩,⟨(.type "dict"),none,(.dict #[en P "__module__" 262 (.str "duskbook.errors" 187),en P "__qualname__" 264 (.str "NoneSettled" 263),en P "__firstlineno__" 266 (.int (10) 265),en P "__static_attributes__" 267 (.ref 71)] 4),#[]⟩,tu [],fl,⟨(.type "code"),none,(.fields #[(.str "NoneSettled" 257),(.str "NoneSettled" 258),(.str "/claim/cut.py" 259),(.int (10) 0),(.int (0) 0),(.int (0) 0),(.int (0) 0),(.int (0) 0),(.ref 67),(.bool false),(.int (181) 0),(.ref 68),.none,.none,.none,.none,(.int (260) 0),(.int (10) 0),(.str "/claim/cut.py" 261)]),#[]⟩,⟨(.type "frame"),none,.plain,#[(some (.ref 69)),(some (.ref 3)),(some (.ref 66)),none,(some (.str "duskbook.errors" 187)),none,(some (.ref 0))]⟩,tu [],⟨(.type "dict"),none,(.dict #[en P "__module__" 262 (.str "duskbook.errors" 187),en P "__firstlineno__" 266 (.int (10) 265),en P "__static_attributes__" 267 (.ref 71),en P "__doc__" 268 .none] 2),#[]⟩,⟨(.type "type"),none,(.cls ⟨"NoneSettled",[(.ref 24)],[(.ref 73),(.ref 24),(.type "ValueError"),(.type "Exception"),(.type "BaseException"),(.type "object")],72,"NoneSettled",true,[],[],false,none,false⟩),#[(some (.ref 64)),none,(some (.str "NoneSettled" 255)),(some (.str "NoneSettled" 263)),(some (.builtin "ValueError.__new__")),(some (.bool true))]⟩,⟨(.type "super"),none,(.fields #[(.ref 73),(.ref 73),(.ref 73)]),#[]⟩,⟨(.type "builtin_function_or_method"),none,(.fields #[(.builtin "object.__init_subclass__"),(.ref 73)]),#[]⟩]++(dF "either_holds" 8 14 2 275 76 p0 181++(dF "sum_holds" 9 16 2 281 81 p0 181++(dF "if_holds" 10 19 3 287 86 p0 181++(dG "rule_holds" 11 23 3 293 91 p0 181 [(.str "kind" 296),(.str "rule" 297),(.str "evening" 298)]++(dF "broken_rules" 12 29 2 302 98 p0 181++(dG "holds" 13 31 2 308 103 p0 181 [(.str "book" 311),(.str "evening" 312)]++(dF "beacons_in" 14 33 2 316 110 p0 181++(dG "beacons_of" 15 39 1 322 115 p0 181 [(.str "book" 325),(.str "found" 326),(.str "rule" 327)]++(dF "without" 16 44 2 331 122 p0 181++(dF "either_left" 17 46 3 337 127 p0 181++(dG "sum_left" 18 50 3 343 132 p0 181 [(.str "rule" 346),(.str "beacon" 347),(.str "lit" 348),(.str "beacons" 349),(.str "odd" 350)]++(dG "if_left" 19 56 3 354 139 p0 181 [(.str "rule" 357),(.str "beacon" 358),(.str "so" 359),(.str "head" 360)]++(dG "rule_left" 20 63 4 364 146 p0 181 [(.str "kind" 367),(.str "rule" 368),(.str "beacon" 369),(.str "lit" 370)]++(dF "left_behind" 21 71 3 374 153 p0 181++([tu [(.str "keeper" 380),(.str "storm" 381)]]++(dG "is_hand" 24 76 1 385 159 p1 181 [(.str "thing" 388)]++(dF "check_hands" 25 78 2 392 166 p1 181++([tu [],⟨(.type "builtin_function_or_method"),none,(.fields #[(.builtin "type.__prepare__"),(.type "type")]),#[]⟩,⟨(.type "dict"),none,(.dict #[en P "__module__" 405 (.str "duskbook.watches" 383),en P "__qualname__" 407 (.str "Watch" 406),en P "__firstlineno__" 409 (.int (85) 408),en P "__init__" 418 (.ref 184),en P "turn" 425 (.ref 191),en P "evening" 432 (.ref 198),en P "left" 442 (.ref 205),en P "winner" 449 (.ref 212),en P "settle" 457 (.ref 219),en P "back" 464 (.ref 226),en P "__static_attributes__" 468 (.ref 227)] 11),#[]⟩,tu [],⟨.none,none,(.fields #[(.int (87) 0),(.int (4) 0),(.ref 183),(.int (93) 0),(.int (4) 0),(.ref 190),(.int (98) 0),(.int (4) 0),(.ref 197),(.int (101) 0),(.int (4) 0),(.ref 204),(.int (107) 0),(.int (4) 0),(.ref 211),(.int (112) 0),(.int (4) 0),(.ref 218),(.int (120) 0),(.int (4) 0),(.ref 225)]),#[]⟩,⟨(.type "code"),none,(.fields #[(.str "Watch" 400),(.str "Watch" 401),(.str "/claim/cut.py" 402),(.int (85) 0),(.int (0) 0),(.int (0) 0),(.int (0) 0),(.int (0) 0),(.ref 174),(.bool false),(.int (181) 0),(.ref 175),.none,.none,.none,.none,(.int (403) 0),(.int (85) 0),(.str "/claim/cut.py" 404)]),#[]⟩,⟨(.type "frame"),none,.plain,#[(some (.ref 176)),(some (.ref 3)),(some (.ref 173)),none,(some (.str "duskbook.watches" 383)),none,(some (.ref 0))]⟩,tu [],fl,tu [(.str "self" 413),(.str "book" 414),(.str "hands" 415)],tu [],⟨.none,none,(fn "__init__" "Watch.__init__" (topm 26 0) .none .none .none .none none .none .none 0 0),#[]⟩,⟨(.type "code"),none,(.fields #[(.str "__init__" 410),(.str "Watch.__init__" 411),(.str "/claim/cut.py" 412),(.int (87) 0),(.int (3) 0),(.int (0) 0),(.int (0) 0),(.int (3) 0),(.ref 178),(.bool true),(.int (181) 0),(.ref 179),.none,(.ref 180),(.ref 181),(.ref 182),(.int (416) 0),(.int (87) 0),(.str "/claim/cut.py" 417)]),#[]⟩,oM "__init__" "Watch.__init__" 26 0 p1 183,tu [],fl,tu [(.str "self" 422)],tu [],⟨.none,none,(fn "turn" "Watch.turn" (topm 26 1) .none .none .none .none none .none .none 0 0),#[]⟩,⟨(.type "code"),none,(.fields #[(.str "turn" 419),(.str "Watch.turn" 420),(.str "/claim/cut.py" 421),(.int (93) 0),(.int (1) 0),(.int (0) 0),(.int (0) 0),(.int (3) 0),(.ref 185),(.bool true),(.int (181) 0),(.ref 186),.none,(.ref 187),(.ref 188),(.ref 189),(.int (423) 0),(.int (93) 0),(.str "/claim/cut.py" 424)]),#[]⟩,oM "turn" "Watch.turn" 26 1 p1 190,tu [],fl,tu [(.str "self" 429)],tu [],⟨.none,none,(fn "evening" "Watch.evening" (topm 26 2) .none .none .none .none none .none .none 0 0),#[]⟩,⟨(.type "code"),none,(.fields #[(.str "evening" 426),(.str "Watch.evening" 427),(.str "/claim/cut.py" 428),(.int (98) 0),(.int (1) 0),(.int (0) 0),(.int (0) 0),(.int (3) 0),(.ref 192),(.bool true),(.int (181) 0),(.ref 193),.none,(.ref 194),(.ref 195),(.ref 196),(.int (430) 0),(.int (98) 0),(.str "/claim/cut.py" 431)]),#[]⟩,oM "evening" "Watch.evening" 26 2 p1 197,tu [],fl,tu [(.str "self" 436),(.str "book" 437),(.str "beacon" 438),(.str "lit" 439)],tu [],⟨.none,none,(fn "left" "Watch.left" (topm 26 3) .none .none .none .none none .none .none 0 0),#[]⟩,⟨(.type "code"),none,(.fields #[(.str "left" 433),(.str "Watch.left" 434),(.str "/claim/cut.py" 435),(.int (101) 0),(.int (1) 0),(.int (0) 0),(.int (0) 0),(.int (3) 0),(.ref 199),(.bool true),(.int (181) 0),(.ref 200),.none,(.ref 201),(.ref 202),(.ref 203),(.int (440) 0),(.int (101) 0),(.str "/claim/cut.py" 441)]),#[]⟩,oM "left" "Watch.left" 26 3 p1 204,tu [],fl,tu [(.str "self" 446)],tu [],⟨.none,none,(fn "winner" "Watch.winner" (topm 26 4) .none .none .none .none none .none .none 0 0),#[]⟩]++([⟨(.type "code"),none,(.fields #[(.str "winner" 443),(.str "Watch.winner" 444),(.str "/claim/cut.py" 445),(.int (107) 0),(.int (1) 0),(.int (0) 0),(.int (0) 0),(.int (3) 0),(.ref 206),(.bool true),(.int (181) 0),(.ref 207),.none,(.ref 208),(.ref 209),(.ref 210),(.int (447) 0),(.int (107) 0),(.str "/claim/cut.py" 448)]),#[]⟩,oM "winner" "Watch.winner" 26 4 p1 211,tu [],fl,tu [(.str "self" 453),(.str "lit" 454)],tu [],⟨.none,none,(fn "settle" "Watch.settle" (topm 26 5) .none .none .none .none none .none .none 0 0),#[]⟩,⟨(.type "code"),none,(.fields #[(.str "settle" 450),(.str "Watch.settle" 451),(.str "/claim/cut.py" 452),(.int (112) 0),(.int (2) 0),(.int (0) 0),(.int (0) 0),(.int (3) 0),(.ref 213),(.bool true),(.int (181) 0),(.ref 214),.none,(.ref 215),(.ref 216),(.ref 217),(.int (455) 0),(.int (112) 0),(.str "/claim/cut.py" 456)]),#[]⟩,oM "settle" "Watch.settle" 26 5 p1 218,tu [],fl,tu [(.str "self" 461)],tu [],⟨.none,none,(fn "back" "Watch.back" (topm 26 6) .none .none .none .none none .none .none 0 0),#[]⟩,⟨(.type "code"),none,(.fields #[(.str "back" 458),(.str "Watch.back" 459),(.str "/claim/cut.py" 460),(.int (120) 0),(.int (1) 0),(.int (0) 0),(.int (0) 0),(.int (3) 0),(.ref 220),(.bool true),(.int (181) 0),(.ref 221),.none,(.ref 222),(.ref 223),(.ref 224),(.int (462) 0),(.int (120) 0),(.str "/claim/cut.py" 463)]),#[]⟩,oM "back" "Watch.back" 26 6 p1 225,tu [(.str "book" 465),(.str "hands" 466),(.str "truths" 467)],⟨(.type "dict"),none,(.dict #[en P "__module__" 405 (.str "duskbook.watches" 383),en P "__firstlineno__" 409 (.int (85) 408),en P "__init__" 418 (.ref 184),en P "turn" 425 (.ref 191),en P "evening" 432 (.ref 198),en P "left" 442 (.ref 205),en P "winner" 449 (.ref 212),en P "settle" 457 (.ref 219),en P "back" 464 (.ref 226),en P "__static_attributes__" 468 (.ref 227),en P "__dict__" 470 (.ref 230),en P "__weakref__" 472 (.ref 231),en P "__doc__" 473 .none] 4),#[]⟩,⟨(.type "type"),none,(.cls ⟨"Watch",[(.type "object")],[(.ref 229),(.type "object")],228,"Watch",true,[],[],false,none,false⟩),#[none,none,(some (.str "Watch" 398)),(some (.str "Watch" 406)),(some (.builtin "object.__new__")),(some (.bool true))]⟩,⟨(.type "getset_descriptor"),none,(.fields #[(.str "__dict__" 469),(.ref 229),(.builtin "function.__dict__"),(.builtin "function.__dict__#set")]),#[]⟩,⟨(.type "getset_descriptor"),none,(.fields #[(.str "__weakref__" 471),(.ref 229),(.builtin "ExceptionGroup.__weakref__"),.none]),#[]⟩,⟨(.type "super"),none,(.fields #[(.ref 229),(.ref 229),(.ref 229)]),#[]⟩,⟨(.type "builtin_function_or_method"),none,(.fields #[(.builtin "object.__init_subclass__"),(.ref 229)]),#[]⟩,⟨(.type "dict"),none,(.dict #[en P "keeper" 478 (.str "k" 479),en P "storm" 480 (.str "s" 481)] 2),#[]⟩]++(dG "saying_written" 29 126 1 485 235 p2 181 [(.str "saying" 488),(.str "beacon" 489)]++(dF "rule_written" 30 129 2 493 242 p2 181++(dG "signs_written" 31 136 2 499 247 p2 181 [(.str "word" 502),(.str "signs" 503)]++(dF "page_written" 32 138 1 507 254 p2 181))))))))))))))))))))))))
noncomputable def al1(P:Params):List Obj:=dG "_law_cell" 34 146 2 515 259 p3 181 [(.str "script" 518),(.str "k" 519)]++(dG "_law_mixed" 35 150 2 523 266 p3 181 [(.str "cell" 526),(.str "by" 527)]++(dG "_law_rule" 36 152 3 531 273 p3 181 [(.str "kind" 534),(.str "cell" 535),(.str "many" 536),(.str "left" 537),(.str "size" 538),(.str "odd" 539),(.str "head" 540),(.str "some" 541),(.str "k" 542),(.str "sayings" 543),(.str "beacon" 544)]++(dF "_law_drawn" 37 177 1 548 280 p3 181++(dG "_law_saying_word" 38 189 1 554 285 p3 181 [(.str "saying" 557)]++(dF "_law_rule_words" 39 191 2 561 292 p3 181++(dF "_law_rows" 40 201 4 567 297 p3 181++(dF "_law_page" 41 210 1 573 302 p3 181++(dG "_law_text" 42 212 2 579 307 p3 181 [(.str "found" 582),(.str "due" 583)]++(dG "law" 43 214 1 587 314 p3 181 [(.str "script" 590),(.str "kind" 591),(.str "rules" 592),(.str "hands" 593),(.str "lights" 594),(.str "watch" 595),(.str "lit" 596)])))))))))
noncomputable def al(P:Params):List Obj:=al0 P++al1 P
noncomputable def upd(l:List (Nat × Obj))(xs:List Obj):List Obj:=l.foldl (fun xs p=>xs.set p.1 p.2) xs
noncomputable def ev:List Obj->List Obj
 | []=>[]
 | [x]=>[x]
 | x::_::r=>x::ev r
noncomputable def bt:Nat->List Obj->BT
 | 0,_=>.nil
 | _+1,[]=>.nil
 | n+1,x::xs=>.node x (bt n (ev xs)) (bt n (ev xs.tail))
noncomputable abbrev bd:List Stmt:=behindTheImports pg
noncomputable abbrev sl(i n:Nat):List Stmt:=(bd.drop i).take n
noncomputable abbrev env:Env:={ scope:=pg.main.scope,locals:=mainNs,globals:=mainNs,cells:=[],code:=(.ref 13),frame:=some 14 }
noncomputable abbrev cE:Code:=.body bd env
noncomputable abbrev B:List Frame:=[topFrame ⟨0,0,0,0⟩]
noncomputable abbrev ss(n:Nat)(l:Params->List (Nat × Obj))(t:Nat)(w:World)(os:OsState):SharedT:=⟨bt 12 (upd (l w.params) ((al w.params).take n)),n,{},.mk [],boot_drawn,t,os⟩
noncomputable def h0(P:Params):Heap:=⟨⟨upd [(3,boot_o_3 P),(12,fl)] ((al P).take 15)⟩,{}⟩
noncomputable abbrev s0(w:World)(os:OsState):Shared:=⟨h0 w.params,.mk [],boot_drawn,187,os⟩
noncomputable abbrev s1:World->OsState->SharedT:=ss 15 (fun P=>[(3,boot_o_3 P),(12,fl)]) 187
noncomputable abbrev s2:World->OsState->SharedT:=ss 28 (fun P=>[(3,ns P (en P "__name__" 165 (.str "duskbook.errors" 187)) 9 10),(12,ft 3),(24,⟨(.type "type"),none,(.cls ⟨"DuskError",[(.type "ValueError")],[(.ref 24),(.type "ValueError"),(.type "Exception"),(.type "BaseException"),(.type "object")],23,"DuskError",true,[],[],false,none,false⟩),#[(some (.ref 15)),none,(some (.str "DuskError" 189)),(some (.str "DuskError" 197)),(some (.builtin "ValueError.__new__")),(some (.bool true))]⟩)]) 207
noncomputable abbrev s3:World->OsState->SharedT:=ss 40 (fun P=>[(3,ns P (en P "__name__" 165 (.str "duskbook.errors" 187)) 10 11),(12,ft 6),(24,⟨(.type "type"),none,(.cls ⟨"DuskError",[(.type "ValueError")],[(.ref 24),(.type "ValueError"),(.type "Exception"),(.type "BaseException"),(.type "object")],23,"DuskError",true,[],[(.ref 37)],false,none,false⟩),#[(some (.ref 15)),none,(some (.str "DuskError" 189)),(some (.str "DuskError" 197)),(some (.builtin "ValueError.__new__")),(some (.bool true))]⟩)]) 223
noncomputable abbrev s4:World->OsState->SharedT:=ss 52 (fun P=>[(3,ns P (en P "__name__" 165 (.str "duskbook.errors" 187)) 11 12),(12,ft 9),(24,⟨(.type "type"),none,(.cls ⟨"DuskError",[(.type "ValueError")],[(.ref 24),(.type "ValueError"),(.type "Exception"),(.type "BaseException"),(.type "object")],23,"DuskError",true,[],[(.ref 37),(.ref 49)],false,none,false⟩),#[(some (.ref 15)),none,(some (.str "DuskError" 189)),(some (.str "DuskError" 197)),(some (.builtin "ValueError.__new__")),(some (.bool true))]⟩)]) 239
noncomputable abbrev s5:World->OsState->SharedT:=ss 64 (fun P=>[(3,ns P (en P "__name__" 165 (.str "duskbook.errors" 187)) 12 13),(12,ft 12),(24,⟨(.type "type"),none,(.cls ⟨"DuskError",[(.type "ValueError")],[(.ref 24),(.type "ValueError"),(.type "Exception"),(.type "BaseException"),(.type "object")],23,"DuskError",true,[],[(.ref 37),(.ref 49),(.ref 61)],false,none,false⟩),#[(some (.ref 15)),none,(some (.str "DuskError" 189)),(some (.str "DuskError" 197)),(some (.builtin "ValueError.__new__")),(some (.bool true))]⟩)]) 255
noncomputable abbrev s6:World->OsState->SharedT:=ss 110 (fun P=>[(3,ns P (en P "__name__" 165 (.str "duskbook.books" 271)) 20 21),(12,ft 33)]) 316
noncomputable abbrev s7:World->OsState->SharedT:=ss 171 (fun P=>[(3,ns P (en P "__name__" 165 (.str "duskbook.watches" 383)) 31 32),(12,ft 63)]) 398
noncomputable abbrev s8:World->OsState->SharedT:=ss 234 (fun P=>[(3,ns P (en P "__name__" 165 (.str "duskbook.watches" 383)) 32 33),(12,ft 66)]) 476
noncomputable abbrev s9:World->OsState->SharedT:=ss 302 (fun P=>[(3,ns P (en P "__name__" 165 (.str "law_duskbook_k55_pages_written" 513)) 44 45),(12,ft 99)]) 573
noncomputable abbrev s10:World->OsState->SharedT:=ss 321 (fun P=>[]) 600
noncomputable def h11(P:Params):Heap:=⟨⟨upd [] ((al P).take 321)⟩,{}⟩
noncomputable abbrev s11(w:World)(os:OsState):Shared:=⟨h11 w.params,.mk [],boot_drawn,600,os⟩
noncomputable abbrev sz(w:World)(os:OsState):Shared:=⟨boot_heap w.params,.mk [],boot_drawn,boot_toks,os⟩
theorem e0:∀w:World,(fun os=>topGo treeTable pg w 11 (some (.ref 6)) 12 (sz w os) (topStub pg))=fun os=>some (s0 w os,⟨denote treeTable cE,cE,⟨0,0,0,0⟩,B⟩):=by
 rw[W.Fast.te15667345088766844465,W.Fast.te14364793385576792824,W.Fast.te11892475500146522536];intro w;kernel_rfl
theorem e1:∀w:World,(fun os=>segRun treeTable pg w 11 (some (.ref 6)) 1 1 (s0 w os) (blockOf bd env cE ⟨0,0,0,0⟩ B))=fun os=>some (.next,(s1 w os).abs,cE,⟨0,0,0,0⟩):=by
 rw[W.Fast.te14374325043358763698,W.Fast.te14364793385576792824];intro w;kernel_rfl
theorem e2:∀w:World,(fun os=>segRunT treeTable pg w 11 (some (.ref 6)) 1 196 (s1 w os) (piecesOf (sl 0 2) env cE ⟨0,0,0,0⟩ B))=fun os=>some (.next,s2 w os,cE,⟨2,0,3,8⟩):=by
 rw[W.Fast.te10110043849684766642,W.Fast.te14364793385576792824];intro w;kernel_rfl
theorem e3:∀w:World,(fun os=>segRunT treeTable pg w 11 (some (.ref 6)) 1 214 (s2 w os) (piecesOf (sl 2 1) env cE ⟨2,0,3,8⟩ B))=fun os=>some (.next,s3 w os,cE,⟨4,0,5,8⟩):=by
 rw[W.Fast.te10110043849684766642,W.Fast.te14364793385576792824];intro w;kernel_rfl
theorem e4:∀w:World,(fun os=>segRunT treeTable pg w 11 (some (.ref 6)) 1 214 (s3 w os) (piecesOf (sl 3 1) env cE ⟨4,0,5,8⟩ B))=fun os=>some (.next,s4 w os,cE,⟨6,0,7,8⟩):=by
 rw[W.Fast.te10110043849684766642,W.Fast.te14364793385576792824];intro w;kernel_rfl
theorem e5:∀w:World,(fun os=>segRunT treeTable pg w 11 (some (.ref 6)) 1 214 (s4 w os) (piecesOf (sl 4 1) env cE ⟨6,0,7,8⟩ B))=fun os=>some (.next,s5 w os,cE,⟨8,0,9,8⟩):=by
 rw[W.Fast.te10110043849684766642,W.Fast.te14364793385576792824];intro w;kernel_rfl
theorem e6:∀w:World,(fun os=>segRunT treeTable pg w 11 (some (.ref 6)) 1 397 (s5 w os) (piecesOf (sl 5 9) env cE ⟨8,0,9,8⟩ B))=fun os=>some (.next,s6 w os,cE,⟨31,0,32,48⟩):=by
 rw[W.Fast.te10110043849684766642,W.Fast.te14364793385576792824];intro w;kernel_rfl
theorem e7:∀w:World,(fun os=>segRunT treeTable pg w 11 (some (.ref 6)) 1 309 (s6 w os) (piecesOf (sl 14 12) env cE ⟨31,0,32,48⟩ B))=fun os=>some (.next,s7 w os,cE,⟨78,0,84,69⟩):=by
 rw[W.Fast.te10110043849684766642,W.Fast.te14364793385576792824];intro w;kernel_rfl
theorem e8:∀w:World,(fun os=>segRunT treeTable pg w 11 (some (.ref 6)) 1 416 (s7 w os) (piecesOf (sl 26 1) env cE ⟨78,0,84,69⟩ B))=fun os=>some (.next,s8 w os,cE,⟨85,0,123,32⟩):=by
 rw[W.Fast.te10110043849684766642,W.Fast.te14364793385576792824];intro w;kernel_rfl
theorem e9:∀w:World,(fun os=>segRunT treeTable pg w 11 (some (.ref 6)) 1 377 (s8 w os) (piecesOf (sl 27 14) env cE ⟨85,0,123,32⟩ B))=fun os=>some (.next,s9 w os,cE,⟨201,0,209,15⟩):=by
 rw[W.Fast.te10110043849684766642,W.Fast.te14364793385576792824];refine byRow2 "special-get-raises" ?_ ?_<;>(intro w;kernel_rfl)
theorem e10:∀w:World,(fun os=>segRunT treeTable pg w 11 (some (.ref 6)) 1 92 (s9 w os) (piecesOf (sl 41 3) env cE ⟨201,0,209,15⟩ B))=fun os=>some (.next,s10 w os,cE,⟨214,0,226,96⟩):=by
 rw[W.Fast.te10110043849684766642,W.Fast.te14364793385576792824];intro w;kernel_rfl
theorem e11:∀w:World,(fun os=>topRun treeTable pg w 11 (some (.ref 6)) 2 (s10 w os).abs ⟨doneF .next,cE,⟨214,0,226,96⟩,B⟩)=fun os=>some (s11 w os):=by
 rw[W.Fast.te14082659384304107361,W.Fast.te14364793385576792824];intro w;kernel_rfl
noncomputable abbrev m11:Nat:=2
noncomputable abbrev t11:List Stmt:=[]
noncomputable abbrev R(w:World)(os:OsState)(m:Nat)(s:Shared)(t:List Stmt)(p:Pos):Prop:=topRun treeTable pg w 11 (some (.ref 6)) m s (restOf t env cE p B)=some (s11 w os)
theorem r11(w:World)(os:OsState):R w os m11 (s10 w os).abs t11 ⟨214,0,226,96⟩:=congrFun (e11 w) os
noncomputable abbrev m10:Nat:=92+m11
noncomputable abbrev t10:List Stmt:=sl 41 3++t11
theorem r10(w:World)(os:OsState):R w os m10 (s9 w os).abs t10 ⟨201,0,209,15⟩:=piece_app (segRun_of (congrFun (e10 w) os)) (r11 w os)
noncomputable abbrev m9:Nat:=377+m10
noncomputable abbrev t9:List Stmt:=sl 27 14++t10
theorem r9(w:World)(os:OsState):R w os m9 (s8 w os).abs t9 ⟨85,0,123,32⟩:=piece_app (segRun_of (congrFun (e9 w) os)) (r10 w os)
noncomputable abbrev m8:Nat:=416+m9
noncomputable abbrev t8:List Stmt:=sl 26 1++t9
theorem r8(w:World)(os:OsState):R w os m8 (s7 w os).abs t8 ⟨78,0,84,69⟩:=piece_app (segRun_of (congrFun (e8 w) os)) (r9 w os)
noncomputable abbrev m7:Nat:=309+m8
noncomputable abbrev t7:List Stmt:=sl 14 12++t8
theorem r7(w:World)(os:OsState):R w os m7 (s6 w os).abs t7 ⟨31,0,32,48⟩:=piece_app (segRun_of (congrFun (e7 w) os)) (r8 w os)
noncomputable abbrev m6:Nat:=397+m7
noncomputable abbrev t6:List Stmt:=sl 5 9++t7
theorem r6(w:World)(os:OsState):R w os m6 (s5 w os).abs t6 ⟨8,0,9,8⟩:=piece_app (segRun_of (congrFun (e6 w) os)) (r7 w os)
noncomputable abbrev m5:Nat:=214+m6
noncomputable abbrev t5:List Stmt:=sl 4 1++t6
theorem r5(w:World)(os:OsState):R w os m5 (s4 w os).abs t5 ⟨6,0,7,8⟩:=piece_app (segRun_of (congrFun (e5 w) os)) (r6 w os)
noncomputable abbrev m4:Nat:=214+m5
noncomputable abbrev t4:List Stmt:=sl 3 1++t5
theorem r4(w:World)(os:OsState):R w os m4 (s3 w os).abs t4 ⟨4,0,5,8⟩:=piece_app (segRun_of (congrFun (e4 w) os)) (r5 w os)
noncomputable abbrev m3:Nat:=214+m4
noncomputable abbrev t3:List Stmt:=sl 2 1++t4
theorem r3(w:World)(os:OsState):R w os m3 (s2 w os).abs t3 ⟨2,0,3,8⟩:=piece_app (segRun_of (congrFun (e3 w) os)) (r4 w os)
noncomputable abbrev m2:Nat:=196+m3
noncomputable abbrev t2:List Stmt:=sl 0 2++t3
theorem r2(w:World)(os:OsState):R w os m2 (s1 w os).abs t2 ⟨0,0,0,0⟩:=piece_app (segRun_of (congrFun (e2 w) os)) (r3 w os)
theorem tb:bd=t2:=by kernel_rfl
theorem run(w:World)(os:OsState):topRun treeTable pg w 11 (some (.ref 6)) (12+(1+m2)) (sz w os) (topStub pg)=some (s11 w os):=by
 have r:=r2 w os
 unfold R at r
 rw[<-congrArg (fun x=>restOf x env cE ⟨0,0,0,0⟩ B) tb]at r
 exact go_top (congrFun (e0 w) os) (piece_block (congrFun (e1 w) os) r)
theorem op:∀w:World,(fencedOpening treeTable pg w 4966).map (fun s=>(s.heap,s.gens,s.drawn,s.toks))=some (boot_heap w.params,Array.mk [],boot_drawn,boot_toks):=
 boot_open (by kernel_rfl) (by decide) (fun s=>by kernel_rfl)
theorem size:∀w:World,((boot_heap w.params).isNs mainGlobals&&(Array.mk []:Array GenState).size==0,(boot_heap w.params).objs.size,(boot_heap w.params).nsMap mainGlobals "__annotations__")=(true,11,(some (.ref 6))):=by
 rw[W.Fast.te8920871248978507458];intro w;kernel_rfl
noncomputable def K(P:Params):Frag:=(nat_lit 3,ns P (en P "__name__" 165 (.str "law_duskbook_k55_pages_written" 513)) 47 48)::(nat_lit 79,oC "either_holds" 275 14 2 76 .none .none 78 181 278)::(nat_lit 80,oF "either_holds" 8 p0 79)::(nat_lit 84,oC "sum_holds" 281 16 2 81 .none .none 83 181 284)::(nat_lit 85,oF "sum_holds" 9 p0 84)::(nat_lit 89,oC "if_holds" 287 19 3 86 .none .none 88 181 290)::(nat_lit 90,oF "if_holds" 10 p0 89)::(nat_lit 96,oC "rule_holds" 293 23 3 91 (.ref 93) (.ref 94) 95 181 299)::(nat_lit 97,oF "rule_holds" 11 p0 96)::(nat_lit 101,oC "broken_rules" 302 29 2 98 .none .none 100 181 305)::(nat_lit 102,oF "broken_rules" 12 p0 101)::(nat_lit 108,oC "holds" 308 31 2 103 (.ref 105) (.ref 106) 107 181 313)::(nat_lit 109,oF "holds" 13 p0 108)::(nat_lit 113,oC "beacons_in" 316 33 2 110 .none .none 112 181 319)::(nat_lit 114,oF "beacons_in" 14 p0 113)::(nat_lit 120,oC "beacons_of" 322 39 1 115 (.ref 117) (.ref 118) 119 181 328)::(nat_lit 121,oF "beacons_of" 15 p0 120)::(nat_lit 158,tu [(.str "keeper" 380),(.str "storm" 381)])::(nat_lit 164,oC "is_hand" 385 76 1 159 (.ref 161) (.ref 162) 163 181 389)::(nat_lit 165,oF "is_hand" 24 p1 164)::(nat_lit 169,oC "check_hands" 392 78 2 166 .none .none 168 181 395)::(nat_lit 170,oF "check_hands" 25 p1 169)::(nat_lit 183,⟨(.type "code"),none,(.fields #[(.str "__init__" 410),(.str "Watch.__init__" 411),(.str "/claim/cut.py" 412),(.int (87) 0),(.int (3) 0),(.int (0) 0),(.int (0) 0),(.int (3) 0),(.ref 178),(.bool true),(.int (181) 0),(.ref 179),.none,(.ref 180),(.ref 181),(.ref 182),(.int (416) 0),(.int (87) 0),(.str "/claim/cut.py" 417)]),#[]⟩)::(nat_lit 184,oM "__init__" "Watch.__init__" 26 0 p1 183)::(nat_lit 190,⟨(.type "code"),none,(.fields #[(.str "turn" 419),(.str "Watch.turn" 420),(.str "/claim/cut.py" 421),(.int (93) 0),(.int (1) 0),(.int (0) 0),(.int (0) 0),(.int (3) 0),(.ref 185),(.bool true),(.int (181) 0),(.ref 186),.none,(.ref 187),(.ref 188),(.ref 189),(.int (423) 0),(.int (93) 0),(.str "/claim/cut.py" 424)]),#[]⟩)::(nat_lit 191,oM "turn" "Watch.turn" 26 1 p1 190)::(nat_lit 197,⟨(.type "code"),none,(.fields #[(.str "evening" 426),(.str "Watch.evening" 427),(.str "/claim/cut.py" 428),(.int (98) 0),(.int (1) 0),(.int (0) 0),(.int (0) 0),(.int (3) 0),(.ref 192),(.bool true),(.int (181) 0),(.ref 193),.none,(.ref 194),(.ref 195),(.ref 196),(.int (430) 0),(.int (98) 0),(.str "/claim/cut.py" 431)]),#[]⟩)::(nat_lit 198,oM "evening" "Watch.evening" 26 2 p1 197)::(nat_lit 204,⟨(.type "code"),none,(.fields #[(.str "left" 433),(.str "Watch.left" 434),(.str "/claim/cut.py" 435),(.int (101) 0),(.int (1) 0),(.int (0) 0),(.int (0) 0),(.int (3) 0),(.ref 199),(.bool true),(.int (181) 0),(.ref 200),.none,(.ref 201),(.ref 202),(.ref 203),(.int (440) 0),(.int (101) 0),(.str "/claim/cut.py" 441)]),#[]⟩)::(nat_lit 205,oM "left" "Watch.left" 26 3 p1 204)::(nat_lit 211,⟨(.type "code"),none,(.fields #[(.str "winner" 443),(.str "Watch.winner" 444),(.str "/claim/cut.py" 445),(.int (107) 0),(.int (1) 0),(.int (0) 0),(.int (0) 0),(.int (3) 0),(.ref 206),(.bool true),(.int (181) 0),(.ref 207),.none,(.ref 208),(.ref 209),(.ref 210),(.int (447) 0),(.int (107) 0),(.str "/claim/cut.py" 448)]),#[]⟩)::(nat_lit 212,oM "winner" "Watch.winner" 26 4 p1 211)::(nat_lit 218,⟨(.type "code"),none,(.fields #[(.str "settle" 450),(.str "Watch.settle" 451),(.str "/claim/cut.py" 452),(.int (112) 0),(.int (2) 0),(.int (0) 0),(.int (0) 0),(.int (3) 0),(.ref 213),(.bool true),(.int (181) 0),(.ref 214),.none,(.ref 215),(.ref 216),(.ref 217),(.int (455) 0),(.int (112) 0),(.str "/claim/cut.py" 456)]),#[]⟩)::(nat_lit 219,oM "settle" "Watch.settle" 26 5 p1 218)::(nat_lit 225,⟨(.type "code"),none,(.fields #[(.str "back" 458),(.str "Watch.back" 459),(.str "/claim/cut.py" 460),(.int (120) 0),(.int (1) 0),(.int (0) 0),(.int (0) 0),(.int (3) 0),(.ref 220),(.bool true),(.int (181) 0),(.ref 221),.none,(.ref 222),(.ref 223),(.ref 224),(.int (462) 0),(.int (120) 0),(.str "/claim/cut.py" 463)]),#[]⟩)::(nat_lit 226,oM "back" "Watch.back" 26 6 p1 225)::(nat_lit 228,⟨(.type "dict"),none,(.dict #[en P "__module__" 405 (.str "duskbook.watches" 383),en P "__firstlineno__" 409 (.int (85) 408),en P "__init__" 418 (.ref 184),en P "turn" 425 (.ref 191),en P "evening" 432 (.ref 198),en P "left" 442 (.ref 205),en P "winner" 449 (.ref 212),en P "settle" 457 (.ref 219),en P "back" 464 (.ref 226),en P "__static_attributes__" 468 (.ref 227),en P "__dict__" 470 (.ref 230),en P "__weakref__" 472 (.ref 231),en P "__doc__" 473 .none] 4),#[]⟩)::(nat_lit 229,⟨(.type "type"),none,(.cls ⟨"Watch",[(.type "object")],[(.ref 229),(.type "object")],228,"Watch",true,[],[],false,none,false⟩),#[none,none,(some (.str "Watch" 398)),(some (.str "Watch" 406)),(some (.builtin "object.__new__")),(some (.bool true))]⟩)::(nat_lit 234,⟨(.type "dict"),none,(.dict #[en P "keeper" 478 (.str "k" 479),en P "storm" 480 (.str "s" 481)] 2),#[]⟩)::(nat_lit 240,oC "saying_written" 485 126 1 235 (.ref 237) (.ref 238) 239 181 490)::(nat_lit 241,oF "saying_written" 29 p2 240)::(nat_lit 245,oC "rule_written" 493 129 2 242 .none .none 244 181 496)::(nat_lit 246,oF "rule_written" 30 p2 245)::(nat_lit 252,oC "signs_written" 499 136 2 247 (.ref 249) (.ref 250) 251 181 504)::(nat_lit 253,oF "signs_written" 31 p2 252)::(nat_lit 257,oC "page_written" 507 138 1 254 .none .none 256 181 510)::(nat_lit 258,oF "page_written" 32 p2 257)::(nat_lit 264,oC "_law_cell" 515 146 2 259 (.ref 261) (.ref 262) 263 181 520)::(nat_lit 265,oF "_law_cell" 34 p3 264)::(nat_lit 271,oC "_law_mixed" 523 150 2 266 (.ref 268) (.ref 269) 270 181 528)::(nat_lit 272,oF "_law_mixed" 35 p3 271)::(nat_lit 278,oC "_law_rule" 531 152 3 273 (.ref 275) (.ref 276) 277 181 545)::(nat_lit 279,oF "_law_rule" 36 p3 278)::(nat_lit 283,oC "_law_drawn" 548 177 1 280 .none .none 282 181 551)::(nat_lit 284,oF "_law_drawn" 37 p3 283)::(nat_lit 290,oC "_law_saying_word" 554 189 1 285 (.ref 287) (.ref 288) 289 181 558)::(nat_lit 291,oF "_law_saying_word" 38 p3 290)::(nat_lit 295,oC "_law_rule_words" 561 191 2 292 .none .none 294 181 564)::(nat_lit 296,oF "_law_rule_words" 39 p3 295)::(nat_lit 300,oC "_law_rows" 567 201 4 297 .none .none 299 181 570)::(nat_lit 301,oF "_law_rows" 40 p3 300)::(nat_lit 305,oC "_law_page" 573 210 1 302 .none .none 304 181 576)::(nat_lit 306,oF "_law_page" 41 p3 305)::(nat_lit 312,oC "_law_text" 579 212 2 307 (.ref 309) (.ref 310) 311 181 584)::(nat_lit 313,oF "_law_text" 42 p3 312)::(nat_lit 319,oC "law" 587 214 1 314 (.ref 316) (.ref 317) 318 181 597)::(nat_lit 320,oF "law" 43 p3 319)::[]
noncomputable def hk:Hook:=kHook K (3::79::80::84::85::89::90::96::97::101::102::108::109::113::114::120::121::158::164::165::169::170::183::184::190::191::197::198::204::205::211::212::218::219::225::226::228::229::234::240::241::245::246::252::253::257::258::264::265::271::272::278::279::283::284::290::291::295::296::300::301::305::306::312::313::319::320::[]) (fun _=>by kernel_rfl)
noncomputable def Q:Program:={ pg with main:={ pg.main with body:=[Lw.top 43] } }
noncomputable def ls:List Str:=(["DuskError","NoHands","Over","NoLight","NoneSettled","BEACON_COUNT","either_holds","sum_holds","if_holds","rule_holds","broken_rules","holds","beacons_in","beacons_of","without","either_left","sum_left","if_left","rule_left","left_behind","HANDS","is_hand","check_hands","Watch","LETTERS","saying_written","rule_written","signs_written","page_written","_law_cell","_law_mixed","_law_rule","_law_drawn","_law_saying_word","_law_rule_words","_law_rows","_law_page","_law_text"]).map Str.ofString
noncomputable abbrev Xt(s:Shared):Bool:=xlAt Q [] s&&recOk (RowW.records (OpenRow.toRowW PySem.Challenge.rw_duskbook_k55_pages_written.row)) s
theorem y0s:∀w:World,(fun os=>((staticsOk (importedModules pg.main.body) (boot_heap w.params) (h11 w.params)&&namesBound pg (h11 w.params)&&gensDone (s11 w os)&&laidKept (boot_heap w.params) (h11 w.params)),openSeen Q ls (importedModules pg.main.body) Xt true (s11 w os),Hook.obs hk (s11 w os)))=fun _=>(true,openGood Q ls,Hook.val hk w):=by
 rw[W.Fast.te5923862056798008813,W.Fast.te4187177175401517315];intro w;kernel_rfl
theorem left:LeftO pg Q ls Xt (Hook.obs hk) (Hook.val hk) 4966:=LeftO.of_pieces (H₁:=h11) (M:=12+(1+m2)) op size run (by decide) y0s
end Op
open PySem PySem.W PyProof.Rows
set_option maxRecDepth 100000 in
theorem PySem.Challenge.cw_duskbook_k55_pages_written_holds : PySem.Challenge.rw_duskbook_k55_pages_written.Holds := by
 w_on;o_law
 refine holds_open (q:=Op.Q) (loose:=Op.ls) (Xt:=Op.Xt) (XP:=XL Op.Q []) (Yf:=Hook.obs Op.hk) (Ya:=Hook.val Op.hk) (YP:=InK Op.K) (N:=4966) Op.left (Hook.of Op.hk) (Hook.keeps Op.hk) (fun s e=>xl_of s (Bool.and_eq_true_iff.mp e).1) XL.keeps (by rfl) (by rfl) (by rfl) (fun s e=>recFacts_of (Bool.and_eq_true_iff.mp e).2) (by rfl) (by assumption) (by decide +kernel) ⟨rfl,rfl,rfl,rfl,rfl,by decide +kernel⟩ ?hw ?hc
 (case hw=>w_witness2)
 k_fill
 refine Lw.walk Lw.law_true (l:=PySem.Challenge.rw_duskbook_k55_pages_written) rfl rfl (K:=Op.K) (fun w h Y=>Y) ?F
 case F=>
  intro w mg fa h KX G hmg
  refine' Lw.all_mk KX G hmg ?_ ?_ ?_ ?_ ?_ ?_ ?_ ?_ ?_ ?_ ?_ ?_ ?_ ?_ ?_ ?_ ?_ ?_ ?_ ?_ ?_ ?_ ?_ ?_ ?_ ?_ ?_ ?_ ?_ ?_ ?_ ?_ ?_ ?_ ?_ ?_ ?_ ?_ ?_ ?_ ?_ ?_ ?_ ?_ ?_ ?_ ?_ ?_ ?_ ?_ ?_ ?_ ?_ ?_
  all_goals (try (first | (refine' M.mq_mk ?a ?pg ?hd ?po ?sa ?i ?n ?l ?cd ?k;(case a=>k_is);(case pg=>k_is);(case hd=>k_is);(case po=>k_is);(case sa=>k_is);(case i=>k_is);(case n=>k_is);(case l=>k_is);(case cd=>k_is);(case k=>k_is)) | (refine' M.nq_mk ?a ?pg ?hd ?po ?sa ?n;(case a=>k_is);(case pg=>k_is);(case hd=>k_is);(case po=>k_is);(case sa=>k_is);(case n=>k_is)) | (refine' M.iq_mk ?a ?mk ?kc ?i ?n ?l ?cd ?k;(case a=>k_is);(case mk=>k_is);(case kc=>k_is);(case i=>k_is);(case n=>k_is);(case l=>k_is);(case cd=>k_is);(case k=>k_is)) | k_is | (refine' Lw.fk_mk ?a ?l ?c ?k;(case a=>k_is);(case l=>k_is);(case c=>k_is);(case k=>k_is))))
