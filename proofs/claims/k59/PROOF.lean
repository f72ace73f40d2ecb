import PyProof.Rows.All
import Wide.All
import OpenK.AllK
import Wide.FinOn
import Lean
import PyProof.EqAt
import PyProof.EqKinds
import PyProof.TupleCall
import PySem.Challenge.RW_duskbook_k59_papers_read
set_option Elab.async false
set_option linter.all false
set_option maxRecDepth 100000
abbrev fsc(l:List (PySem.Str × PySem.NameKind)):PySem.Scope:={ kind:=.function,names:=l,isGenerator:=false,isCoroutine:=false,more:=[] }
theorem qa{α β:Type _}{o:Option α}{f:α->Option β}{b:β}(h:o.bind f=some b):∃a,o=some a/\f a=some b:=Option.bind_eq_some_iff.mp h
theorem qc{α β:Type _}{o:Option α}{f:α->β}{b:β}(h:o.map f=some b):∃a,o=some a/\f a=b:=Option.map_eq_some_iff.mp h
def qd:=@Option.bind_some
def qe:=@PySem.Heap.get?_push_of_some
def qf:=@List.length_map
def qg:=@List.mem_cons_of_mem
def qh:=@List.mem_cons_self
def qi:=@Bool.false_ne_true
def qj:=@Array.length_toList
def qk:=@List.size_toArray
def ql:=@PySem.Heap.lt_size
def qm:=@Nat.ne_of_lt
theorem qo{α:Type _}{l:List α}{i:Nat}{a:α}(h:l[i]?=some a):∃h:i < l.length,l[i]=a:=List.getElem?_eq_some_iff.mp h
def qp:=@PySem.Heap.get?_push_size
def qr:=@List.getElem?_eq_getElem
def qs:=@List.length_cons
theorem qt{α:Type _}{a b:α}{l:List α}(h:a∈b::l):a=b\/a∈l:=List.mem_cons.mp h
def qu:=@Nat.le_refl
theorem qv{α:Type _}{a:α}{s t:List α}(h:a∈s++t):a∈s\/a∈t:=List.mem_append.mp h
def qw:=@List.length_append
def qx:=@Nat.le_trans
def qy:=@List.map_cons
def qz:=@List.getElem?_map
def Qa:=@List.getElem?_set_ne
def Qb:=@List.lookup_cons
def Qc:=@List.append_assoc
def Qd:=@List.nil_append
def Qe:=@Nat.lt_of_lt_of_le
def Qf:=@List.cons_append
def Qg:=@Bool.and_eq_true
def Qh:=@List.mem_append_right
set_option maxHeartbeats 4000000
noncomputable section
namespace L2
open PySem PySem.Spec PyProof.Rows
abbrev Key:=Sum Int Str
def Yxu:Key->Value->Bool
 | .inl k,v=>Value.isInt k v
 | .inr x,v=>Value.isStrOf x v
def keyH(w:World):Key->Int
 | .inl k=>hashInt k
 | .inr x=>hashStr w x
theorem Ya1:∀{k:Key} {v:Value},Yxu k v=true->(∃i t,k=Sum.inl i/\v=Value.int i t)\/(∃x t,k=Sum.inr x/\v=Value.str x t)
 | .inl i,v,h=>by
   obtain⟨t,e⟩:=Value.isInt_shape (k:=i) (v:=v) h
   exact .inl ⟨i,t,rfl,e⟩
 | .inr x,v,h=>by
   obtain⟨t,e⟩:=Value.isStrOf_shape (x:=x) (v:=v) h
   exact .inr ⟨x,t,rfl,e⟩
theorem Yxv(a b:Int):decide ((Sum.inl a:Key)=Sum.inl b)=(a==b):=by
 by_cases e:a=b
 ·subst e;simp
 ·have h:¬(Sum.inl a:Key)=Sum.inl b:=fun q=>e (Sum.inl.inj q)
  rw[decide_eq_false h]
  exact(beq_eq_false_iff_ne.mpr e).symm
theorem Yxw(a b:Str):decide ((Sum.inr a:Key)=Sum.inr b)=decide (a=b):=by
 by_cases e:a=b
 ·subst e;simp
 ·have h:¬(Sum.inr a:Key)=Sum.inr b:=fun q=>e (Sum.inr.inj q)
  rw[decide_eq_false h,decide_eq_false e]
theorem Yxx(a:Int)(b:Str):decide ((Sum.inl a:Key)=Sum.inr b)=false:=decide_eq_false (fun q=>nomatch q)
theorem Yxy(a:Str)(b:Int):decide ((Sum.inr a:Key)=Sum.inl b)=false:=decide_eq_false (fun q=>nomatch q)
def Yml(prog:Program)(w:World):KeyKind prog w Key where
 is:=Yxu
 hash:=keyH w
 inj:=fun v a b ha hb=>by
  rcases Ya1 ha with⟨i,t,rfl,rfl⟩ | ⟨x,t,rfl,rfl⟩
  ·rcases Ya1 hb with⟨j,u,rfl,e⟩ | ⟨y,u,rfl,e⟩
   ·injection e with e1 _;rw[e1]
   ·exact nomatch e
  ·rcases Ya1 hb with⟨j,u,rfl,e⟩ | ⟨y,u,rfl,e⟩
   ·exact nomatch e
   ·injection e with e1 _;rw[e1]
 byValue:=fun k v h=>by
  rcases Ya1 h with⟨i,t,rfl,rfl⟩ | ⟨x,t,rfl,rfl⟩<;>rfl
 pyHash:=fun hv h=>by
  rcases Ya1 hv with⟨i,t,rfl,rfl⟩ | ⟨x,t,rfl,rfl⟩
  ·exact wpAny_pyHash_int h
  ·exact wpAny_pyHash_str h
 eqBool:=fun hu hv h=>by
  rcases Ya1 hu with⟨i,t,rfl,rfl⟩ | ⟨x,t,rfl,rfl⟩
  ·rcases Ya1 hv with⟨j,u,rfl,rfl⟩ | ⟨y,u,rfl,rfl⟩
   ·rw[Yxv]at h;exact wpAny_eqBool_int h
   ·rw[Yxx]at h;exact SeqAt.EqAt.int_str i t y u _ _ _ _ h
  ·rcases Ya1 hv with⟨j,u,rfl,rfl⟩ | ⟨y,u,rfl,rfl⟩
   ·rw[Yxy]at h;exact SeqAt.EqAt.str_int x t j u _ _ _ _ h
   ·rw[Yxw]at h;exact wpAny_eqBool_str h
 «strs»:=fun k x t v h=>by
  rcases Ya1 h with⟨i,u,rfl,e⟩ | ⟨y,u,rfl,e⟩
  ·exact nomatch e
  ·injection e with e1 _
   subst e1
   cases v<;>rfl
end L2
namespace L2
open PySem PySem.Spec PyProof.Rows
inductive V where
 | non | bl (b:Bool) | int (i:Int) | str (x:Str) | byt (b:Array UInt8) | flt (b:UInt64) | ref (a:Addr) | ty (n:String)
 deriving DecidableEq
def RelV:V->Value->Prop
 | .non,u=>u=Value.none
 | .bl b,u=>u=Value.bool b
 | .int i,u=>∃t,u=Value.int i t
 | .str x,u=>∃t,u=Value.str x t
 | .byt b,u=>∃t,u=Value.bytes b t
 | .flt b,u=>∃t,u=Value.float b t
 | .ref a,u=>u=Value.ref a
 | .ty n,u=>u=Value.type n
abbrev Vals:List V->List Value->Prop:=Paired RelV
theorem Vals.length{xs:List V}{us:List Value}(r:Vals xs us):xs.length=us.length:=Paired.length r
theorem Vals.get:∀{xs:List V} {us:List Value} {i:Nat} {x:V},Vals xs us->xs[i]?=some x->∃u,us[i]?=some u/\RelV x u
 | _,_,_,_,.nil,e=>by simp at e
 | _,_,0,_,.cons r _,e=>by simp at e;subst e;exact⟨_,rfl,r⟩
 | _,_,i+1,x,.cons _ t,e=>by
   obtain⟨u,h1,h2⟩:=Vals.get (i:=i) (x:=x) t (by simpa using e)
   exact⟨u,by simpa using h1,h2⟩
theorem Vals.append:∀{xs ys:List V} {us ws:List Value},Vals xs us->Vals ys ws->Vals (xs++ys) (us++ws)
 | _,_,_,_,.nil,s=>s
 | _,_,_,_,.cons r t,s=>.cons r (Vals.append t s)
theorem Vals.take:∀{xs:List V} {us:List Value} (n:Nat),Vals xs us->Vals (xs.take n) (us.take n)
 | _,_,0,_=>.nil
 | _,_,_+1,.nil=>.nil
 | _,_,n+1,.cons r t=>.cons r (Vals.take n t)
theorem Vals.drop:∀{xs:List V} {us:List Value} (n:Nat),Vals xs us->Vals (xs.drop n) (us.drop n)
 | _,_,0,r=>r
 | _,_,_+1,.nil=>.nil
 | _,_,n+1,.cons _ t=>Vals.drop n t
def RelO:Option V->Option Value->Prop
 | some v,some u=>RelV v u
 | none,none=>True
 | _,_=>False
def KV{κ:Type}:List (κ × V)->List (κ × Value)->Prop:=Paired fun(p:κ × V) (q:κ × Value)=>p.1=q.1/\RelV p.2 q.2
def kV:Key->V
 | .inl i=>.int i
 | .inr x=>.str x
inductive HO where
 | lst (xs:List V)
 | tup (xs:List V)
 | dK (kvs:List (Key × V)) | dT (kvs:List (List Key × V))
 | set (S:Int->Bool) (n:Nat)
 | ins (C dx:Addr) (fs:List (Str × V))
 | own (x:Addr)
 | xd (fs:List (Str × V))
 | met (f x:Addr)
 | rng (lo hi:Int)
 | frz (o:Obj) (u:HO)
 | tbl (ps:Array Value)
 | ext (φ:Heap->Prop)
abbrev Hp:=Addr->Option HO
def upd(H:Hp)(a:Addr)(o:HO):Hp:=fun b=>if b=a then some o else H b
theorem Ym{H:Hp}{a:Addr}{o:HO}:upd H a o a=some o:=by unfold upd;rw[if_pos rfl]
theorem Yk{H:Hp}{a b:Addr}{o:HO}(h:b≠a):upd H a o b=H b:=by unfold upd;rw[if_neg h]
theorem Yv{H:Hp}{a b:Addr}{o:HO}(h:H a=some o)(h':H b=none):a≠b:=by
 intro e;subst e;rw[h]at h';cases h'
section
variable (P:Program) (w:World)
def ObjOk(H:Hp)(h:Heap)(a:Addr):HO->Prop
 | .lst xs=>xs.length<=sizeLine/\∃(its:List Value) (n:Nat),Vals xs its/\h.get? a=some { cls:=.type "list",data:=.seq its.toArray n }
 | .tup xs=>xs.length<=sizeLine/\∃its:List Value,Vals xs its/\IsTup h a its.toArray
 | .dK kvs=>kvs.length<=sizeLine/\(a==sysModules)=false/\∃vs,KV kvs vs/\h.DictOf (Yml P w) a vs
 | .dT kvs=>kvs.length<=sizeLine/\(a==sysModules)=false/\∃xs:List (List Key × Addr × Value),
  Paired (fun(p:List Key × V) (q:List Key × Addr × Value)=>p.1=q.1/\H q.2.1=some (.tup (p.1.map kV))/\RelV p.2 q.2.2) kvs xs/\
  ∃o es ep,h.get? a=some o/\o.ExactDict/\o.data=.dict es ep/\es.toList=xs.map (entryOfKey (tupleKind (Yml P w)))/\(xs.map (·.1)).Nodup
 | .set S n=>h.SetOf (intKind P w) a S n
 | .ins C dx fs=>H dx=some (.own a)/\fs.length<=1000/\dx≠a/\h.get? a=some (W.instObj C dx)/\
  ∃mA,h.Ns1 dx mA/\(∀f,RelO (fs.lookup f) (mA f))/\PySem.Within mA (fs.map (·.1))
 | .own _=>∃o,h.get? a=some o
 | .xd fs=>∃mA,h.Ns1 a mA/\∀f,RelO (fs.lookup f) (mA f)
 | .rng lo hi=>∃t u v,h.get? a=some { cls:=.type "range",data:=.fields #[.int lo t,.int hi u,.int 1 v] }
 | .frz o u=>h.get? a=some o/\ObjOk H h a u
 | .tbl ps=>h.get? a=some { cls:=.none,data:=.fields ps }
 | .met f x=>h.get? a=some (W.methodObj (.ref f) (.ref x))
 | .ext φ=>φ h/\(∃o,h.get? a=some o)/\∀h1 h2:Heap,φ h1->(∀o,h1.get? a=some o->h2.get? a=some o)->φ h2
def HOk(H:Hp)(h:Heap):Prop:=∀a o,H a=some o->ObjOk P w H h a o
end
section
variable {P:Program} {w:World} {H H':Hp} {h h':Heap} {a:Addr} {o:HO}
theorem ObjOk.lt(x:ObjOk P w H h a o):a < h.objs.size:=by
 cases o with
 | lst xs=>obtain⟨_,_,_,_,e⟩:=x;exact ql e
 | tup xs=>obtain⟨_,_,_,p⟩:=x;exact p.lt
 | dK kvs=>obtain⟨_,_,_,_,o,_,_,e,_⟩:=x;exact ql e
 | dT kvs=>obtain⟨_,_,_,_,o,_,_,e,_⟩:=x;exact ql e
 | set S n=>obtain⟨o,_,_,_,e,_⟩:=x;exact ql e
 | ins C dx fs=>obtain⟨_,_,_,e,_⟩:=x;exact ql e
 | own y=>obtain⟨_,e⟩:=x;exact ql e
 | xd fs=>obtain⟨_,⟨_,_,_,e,_⟩,_⟩:=x;exact ql e
 | rng lo hi=>obtain⟨_,_,_,e⟩:=x;exact ql e
 | frz ob u=>obtain⟨e,_⟩:=x;exact ql e
 | tbl ps=>exact ql (show h.get? a=some _ from x)
 | met f y=>exact ql (show h.get? a=some _ from x)
 | ext φ=>obtain⟨_,⟨_,e⟩,_⟩:=x;exact ql e
theorem Paired.mapP{α β:Type}{F G:α->β->Prop}:∀{l₁:List α} {l₂:List β},Paired F l₁ l₂->(∀a b,F a b->G a b)->Paired G l₁ l₂
 | _,_,.nil,_=>.nil
 | _,_,.cons r t,f=>.cons (f _ _ r) (Paired.mapP t f)
theorem ObjOk.stay(x:ObjOk P w H h a o)(k:∀b u,(b=a\/H b=some (.own a))->h.get? b=some u->h'.get? b=some u)
 (ho:∀b,H b=some (.own a)->H' b=some (.own a)) (ht:∀b xs,H b=some (.tup xs)->H' b=some (.tup xs)):ObjOk P w H' h' a o:=by
 induction o with
 | lst xs=>obtain⟨z,its,n,r,e⟩:=x;exact⟨z,its,n,r,k _ _ (.inl rfl) e⟩
 | tup xs=>obtain⟨z,its,r,ob,e,c⟩:=x;exact⟨z,its,r,ob,k _ _ (.inl rfl) e,c⟩
 | dK kvs=>obtain⟨z,y,vs,r,ob,es,ep,e,c⟩:=x;exact⟨z,y,vs,r,ob,es,ep,k _ _ (.inl rfl) e,c⟩
 | dT kvs=>
   obtain⟨z,y,xs,r,ob,es,ep,e,c⟩:=x
   exact⟨z,y,xs,Paired.mapP r fun p q z=>⟨z.1,ht _ _ z.2.1,z.2.2⟩,ob,es,ep,k _ _ (.inl rfl) e,c⟩
 | set S n=>obtain⟨ob,es,ep,t,e,c⟩:=x;exact⟨ob,es,ep,t,k _ _ (.inl rfl) e,c⟩
 | ins C dx fs=>
   obtain⟨d,z,ne,e,mA,⟨od,es,ep,e2,c⟩,r⟩:=x
   exact⟨ho _ d,z,ne,k _ _ (.inl rfl) e,mA,⟨od,es,ep,k _ _ (.inr d) e2,c⟩,r⟩
 | own y=>obtain⟨ob,e⟩:=x;exact⟨ob,k _ _ (.inl rfl) e⟩
 | xd fs=>obtain⟨mA,⟨od,es,ep,e,c⟩,r⟩:=x;exact⟨mA,⟨od,es,ep,k _ _ (.inl rfl) e,c⟩,r⟩
 | rng lo hi=>obtain⟨t,u,v,e⟩:=x;exact⟨t,u,v,k _ _ (.inl rfl) e⟩
 | frz ob u ih=>obtain⟨e,q⟩:=x;exact⟨k _ _ (.inl rfl) e,ih q⟩
 | tbl ps=>
   have e:h.get? a=some { cls:=.none,data:=.fields ps }:=x
   show h'.get? a=some { cls:=.none,data:=.fields ps }
   exact k a _ (.inl rfl) e
 | met f y=>
   have e:h.get? a=some (W.methodObj (.ref f) (.ref y)):=x
   show h'.get? a=some (W.methodObj (.ref f) (.ref y))
   exact k a _ (.inl rfl) e
 | ext φ=>obtain⟨p,⟨o,e⟩,st⟩:=x;exact⟨st _ _ p fun o q=>k _ _ (.inl rfl) q,⟨o,k _ _ (.inl rfl) e⟩,st⟩
theorem HOk.lt(x:HOk P w H h)(e:H a=some o):a < h.objs.size:=(x a o e).lt
theorem HOk.fresh(x:HOk P w H h)(e:h.objs.size<=a):H a=none:=by
 cases q:H a with
 | none=>rfl
 | some u=>exact absurd (Qe (x.lt q) e) (Nat.lt_irrefl _)
theorem HOk.kept(x:HOk P w H h)(k:∀b u,h.get? b=some u->h'.get? b=some u):HOk P w H h':=fun a o e=>
 (x a o e).stay (fun b u _ q=>k b u q) (fun _ q=>q) fun _ _ q=>q
theorem HOk.laid(x:HOk P w H h)(k:∀b u,h.get? b=some u->h'.get? b=some u)(hp:h.objs.size<=a)(new:ObjOk P w (upd H a o) h' a o):HOk P w (upd H a o) h':=fun b u e=>by
 have hn:=x.fresh hp
 by_cases hb:b=a
 ·subst hb;rw[Ym]at e;cases e;exact new
 ·rw[Yk hb]at e
  exact(x b u e).stay (fun c v _ q=>k c v q) (fun c q=>by rw[Yk (Yv q hn)];exact q) fun c xs q=>by rw[Yk (Yv q hn)];exact q
end
def Rd(H:Hp)(a:Addr)(u:HO):Prop:=H a=some u\/∃o,H a=some (.frz o u)
theorem Rd.ok{P:Program}{w:World}{H:Hp}{h:Heap}{a:Addr}{u:HO}(r:Rd H a u)(x:HOk P w H h):ObjOk P w H h a u:=by
 rcases r with r | ⟨o,r⟩
 ·exact x a u r
 ·obtain⟨_,q⟩:=x a _ r
  exact q
def Mut:Option HO->Prop
 | some (.lst _)=>True
 | some (.dK _)=>True
 | some (.dT _)=>True
 | some (.set _ _)=>True
 | some (.ins _ _ _)=>True
 | some (.ext _)=>True
 | _=>False
section
variable {P:Program} {w:World} {H:Hp} {h h':Heap} {x e:Addr} {o':HO}
theorem HOk.write(ok:HOk P w H h)(mu:Mut (H x))(he:e=x\/H e=some (.own x))(k:∀b u,b≠e->h.get? b=some u->h'.get? b=some u)(heo:∃u,h'.get? e=some u)
 (new:ObjOk P w (upd H x o') h' x o'):HOk P w (upd H x o') h':=fun b u q=>by
 have nown:∀c y,H c=some (.own y)->c≠x:=fun c y r z=>by subst z;rw[r]at mu;exact mu
 have ntup:∀c xs,H c=some (.tup xs)->c≠x:=fun c xs r z=>by subst z;rw[r]at mu;exact mu
 by_cases hb:b=x
 ·subst hb;rw[Ym]at q;cases q;exact new
 ·rw[Yk hb]at q
  by_cases hbe:b=e
  ·have q':H b=some (.own x):=by
    rcases he with z | z
    ·exact absurd (hbe.trans z) hb
    ·rw[hbe];exact z
   rw[q]at q';cases q'
   obtain⟨v,hv⟩:=heo
   exact⟨v,by rw[hbe];exact hv⟩
  ·refine(ok b u q).stay (fun c v hc r=>k c v ?_ r) (fun c r=>by rw[Yk (nown c b r)];exact r) fun c xs r=>by rw[Yk (ntup c xs r)];exact r
   rcases hc with rfl | hc
   ·exact hbe
   ·rintro rfl
    rcases he with z | z
    ·exact nown c b hc z
    ·rw[hc]at z;cases z;exact hb rfl
end
structure Un(fs ex:List Addr)(H H':Hp)(h h':Heap):Prop where
 keep:∀b o,h.get? b=some o->H b=none->b∉fs->b∉ex->h'.get? b=some o
 slot:∀b o,h.get? b=some o->H b=none->b∈fs->b∉ex->∃sl,h'.get? b=some { o with slots:=sl }
 free:∀b o,h.get? b=some o->H b=none->b∉ex->H' b=none
 there:∀b o,h.get? b=some o->b∉ex->∃o',h'.get? b=some o'
 tups:∀b xs,H b=some (.tup xs)->H' b=some (.tup xs)
 frzs:∀b o u,H b=some (.frz o u)->H' b=some (.frz o u)
 tbls:∀b ps,H b=some (.tbl ps)->∃more,H' b=some (.tbl (ps++more))
section
variable {fs fs' ex ex':List Addr} {H H1 H2:Hp} {h h1 h2 h':Heap} {a x e:Addr} {o:HO}
theorem Un.any(u:Un fs ex H H1 h h1){b:Addr}{ob:Obj}(q:h.get? b=some ob)(n:H b=none)(hx:b∉ex):∃sl,h1.get? b=some { ob with slots:=sl }:=by
 by_cases hb:b∈fs
 ·exact u.slot b ob q n hb hx
 ·exact⟨ob.slots,u.keep b ob q n hb hx⟩
theorem Un.kept(k:∀b u,h.get? b=some u->h'.get? b=some u):Un fs ex H H h h':=
 ⟨fun b ob q _ _ _=>k b ob q,fun b ob q _ _ _=>⟨ob.slots,k b ob q⟩,fun _ _ _ n _=>n,fun b ob q _=>⟨ob,k b ob q⟩,fun _ _ q=>q,fun _ _ _ q=>q,fun _ ps q=>⟨#[],by rw[q];simp⟩⟩
theorem Un.refl:Un fs ex H H h h:=Un.kept fun _ _ q=>q
theorem Un.laid(k:∀b u,h.get? b=some u->h'.get? b=some u)(hp:h.objs.size<=a)(hn:H a=none):Un fs ex H (upd H a o) h h' where
 keep:=fun b u q _ _ _=>k b u q
 slot:=fun b u q _ _ _=>⟨u.slots,k b u q⟩
 free:=fun b u q n _=>by rw[Yk (qm (Qe (ql q) hp))];exact n
 there:=fun b u q _=>⟨u,k b u q⟩
 tups:=fun b xs q=>by rw[Yk (Yv q hn)];exact q
 frzs:=fun b u xs q=>by rw[Yk (Yv q hn)];exact q
 tbls:=fun b ps q=>⟨#[],by rw[Yk (Yv q hn),q];simp⟩
theorem Un.write(mu:Mut (H x))(he:e=x\/H e=some (.own x))(k:∀b u,b≠e->h.get? b=some u->h'.get? b=some u)(heo:∃u,h'.get? e=some u):Un fs ex H (upd H x o) h h':=by
 have hx:∀b,H b=none->b≠x:=fun b n z=>by subst z;rw[n]at mu;exact mu
 have hb:∀b,H b=none->b≠e:=fun b n z=>by
  subst z
  rcases he with r | r
  ·exact hx b n r
  ·rw[n]at r;cases r
 have hm:∀b u,H b=some u->¬Mut (some u)->b≠x:=fun b u q nm z=>by subst z;rw[q]at mu;exact nm mu
 refine⟨fun b u q n _ _=>k b u (hb b n) q,fun b u q n _ _=>⟨u.slots,k b u (hb b n) q⟩,fun b u q n _=>by rw[Yk (hx b n)];exact n,fun b u q _=>?_,
  fun b xs q=>by rw[Yk (hm b _ q fun z=>z)];exact q,fun b u xs q=>by rw[Yk (hm b _ q fun z=>z)];exact q,fun b ps q=>⟨#[],by rw[Yk (hm b _ q fun z=>z),q];simp⟩⟩
 by_cases hbe:b=e
 ·subst hbe;exact heo
 ·exact⟨u,k b u hbe q⟩
end
def trk(h:Heap)(H:Hp):List Addr:=(List.range h.objs.size).filter fun a=>(H a).isSome
def hidT(h:Heap)(H:Hp):Heap:=W.hideAll h (trk h H)
theorem Ypf(h:Heap)(H:Hp):(hidT h H).objs.size=h.objs.size:=W.hideAll_size _ _
theorem Ysj{h:Heap}{H:Hp}{b:Addr}{o:Obj}(e:h.get? b=some o)(n:H b=none):(hidT h H).get? b=some o:=
 W.hideAll_get _ e fun hm=>by
  have q:(H b).isSome=true:=(List.mem_filter.mp hm).2
  rw[n]at q;simp at q
theorem Yvl{h:Heap}{H:Hp}{b:Addr}{o:Obj}(e:(hidT h H).get? b=some o):h.get? b=some o/\H b=none:=by
 have e':h.get? b=some o:=W.of_hideAll (trk h H) e
 refine⟨e',?_⟩
 cases q:H b with
 | none=>rfl
 | some x=>
   have hm:b∈trk h H:=List.mem_filter.mpr ⟨List.mem_range.mpr (ql e'),by simp[q]⟩
   have z:(hidT h H).get? b=none:=W.hideAll_none (trk h H) hm
   rw[z]at e;cases e
end L2
namespace L2
open PySem PySem.Spec PyProof.Rows
structure Mod(K:W.Frag)(mg:Str->Option Value)(base:Heap):Prop where
 kin:K.In base
 glob:base.Ns mainGlobals mg
 blt:∃mb,base.Ns builtinsNs mb/\∀x:Str,x≠"__name__"->mb x=bootBuiltins x
 nolimit:base.NoLimit
structure Cx where
 prog:Program
 w:World
 K:W.Frag
 mg:Str->Option Value
 base:Heap
 A:Around
 N:List Str
 s₀:Shared
 H₀:Hp
 env:Env
 outer:List Env
 stack:List Env
 ex:List Addr
 fn:Str->Bool
 calm:Bool
 pn:List (Addr × Obj)
 xe:Value->Shared->Prop
def frs(l:List Env):List Addr:=l.filterMap (·.frame)
abbrev Cx.fs(X:Cx):List Addr:=frs X.outer
def Vis(sc:Scope)(x:Str):Prop:=sc.names.lookup x=some .local\/sc.names.lookup x=some .cell\/sc.names.lookup x=some .free
def Loc(sc:Scope)(x:Str):Prop:=sc.names.lookup x=some .local\/sc.names.lookup x=some .cell
def Look(env:Env)(h:Heap)(m:Str->Option Value)(x:Str)(u:Value):Prop:=
 (env.kindOf x=some .local/\m x=some u)\/((env.kindOf x=some .cell\/env.kindOf x=some .free)/\∃c,env.cells.lookup x=some c/\h.IsCell c (some u))
structure Cx.Ok(X:Cx):Prop where
 mod:Mod X.K X.mg X.base
 kind:X.env.scope.kind=.function
 glob:X.env.globals=mainGlobals
 blt:X.env.builtins=builtinsNs
 above:X.s₀.heap.objs.size<=X.env.locals
 inj:∀x y c,X.env.cells.lookup x=some c->X.env.cells.lookup y=some c->x=y
 has:∀x,(X.env.kindOf x=some .cell\/X.env.kindOf x=some .free)->∃c,X.env.cells.lookup x=some c
 cab:∀x c,X.fn x=true->X.env.cells.lookup x=some c->X.s₀.heap.objs.size<=c
 hd:X.calm=true->X.A.handled=none
 frames:X.A.frames=some X.stack
 stk:X.stack=X.outer\/(X.stack=X.env::X.outer/\X.env.frame=some X.env.locals)
 exf:∀b∈X.ex,b≠X.env.locals/\∀x c,X.env.cells.lookup x=some c->c≠b
 bs:∀b o,X.base.get? b=some o->X.s₀.heap.get? b=some o/\X.H₀ b=none
 bsz:X.base.objs.size<=X.s₀.heap.objs.size
 noex:∀b o,X.base.get? b=some o->b∉X.ex
 exfs:∀b∈X.ex,b∉X.fs
 funs:X.s₀.heap.FunFrames X.base X.outer
 frf:∀b∈X.fs,X.H₀ b=none
structure Inv(X:Cx)(pins:List (Addr × Obj))(σ:List (Option V))(H:Hp)(s:Shared):Prop where
 ok:X.Ok
 os:s.os=X.s₀.os
 bare:AllBare s.gens
 base:Un X.fs X.ex X.H₀ H X.s₀.heap s.heap
 loc:∃m,s.heap.Ns X.env.locals m/\∀(i:Nat) (x:Str) (v:V),X.N[i]?=some x->σ[i]?=some (some v)->Vis X.env.scope x->∃u,RelV v u/\Look X.env s.heap m x u
 cell:∀x c,X.env.cells.lookup x=some c->∃v,s.heap.IsCell c v
 free:H X.env.locals=none
 freeC:∀x c,X.env.cells.lookup x=some c->H c=none
 pin:∀p∈X.pn++pins,s.heap.get? p.1=some p.2/\H p.1=none/\p.1≠X.env.locals/\p.1∉X.fs/\∀v,p.2.data≠.cell v
 hok:HOk X.prog X.w H s.heap
 len:σ.length=X.N.length
section
variable {X:Cx} {pins:List (Addr × Obj)} {σ:List (Option V)} {H H':Hp} {s:Shared} {h':Heap}
theorem Cx.Ok.nofr(ok:X.Ok){b:Addr}{o:Obj}(e:X.base.get? b=some o):b∉X.fs:=fun hb=>by
 have:=(ok.funs.mem hb).1
 rw[e]at this;cases this
theorem Inv.bs(I:Inv X pins σ H s):∀b o,X.base.get? b=some o->s.heap.get? b=some o/\H b=none:=fun b o e=>
 ⟨I.base.keep b o (I.ok.bs b o e).1 (I.ok.bs b o e).2 (I.ok.nofr e) (I.ok.noex b o e),I.base.free b o (I.ok.bs b o e).1 (I.ok.bs b o e).2 (I.ok.noex b o e)⟩
theorem Inv.bk(I:Inv X pins σ H s):∀b o,X.base.get? b=some o->s.heap.get? b=some o:=fun b o e=>(I.bs b o e).1
theorem Inv.mod(I:Inv X pins σ H s):Mod X.K X.mg X.base:=I.ok.mod
theorem Inv.kIn(I:Inv X pins σ H s):X.K.In s.heap:=I.ok.mod.kin.keeps I.bk
theorem Inv.lt(I:Inv X pins σ H s):X.env.locals < s.heap.objs.size:=let ⟨_,hn,_⟩:=I.loc;hn.lt
theorem Inv.sz(I:Inv X pins σ H s):X.s₀.heap.objs.size<=s.heap.objs.size:=qx I.ok.above (Nat.le_of_lt I.lt)
theorem Inv.nofs(I:Inv X pins σ H s){a:Addr}(h:s.heap.objs.size<=a):a∉X.fs:=fun hb=>by
 obtain⟨_,o,ho,_⟩:=I.ok.funs.mem hb
 exact absurd (Qe (ql ho) (qx I.sz h)) (Nat.lt_irrefl _)
theorem Inv.cne(I:Inv X pins σ H s):∀x c,X.env.cells.lookup x=some c->c≠X.env.locals:=fun x c e z=>by
 obtain⟨v,o,ho,hd⟩:=I.cell x c e
 obtain⟨m,⟨o',es,ep,ho',hd',_⟩,_⟩:=I.loc
 rw[z,ho']at ho;cases ho;rw[hd']at hd;cases hd
theorem Inv.funs(I:Inv X pins σ H s):s.heap.FunFrames X.base X.outer:=by
 have all:∀(l:List Env),(∀b∈frs l,b∈X.fs)->X.s₀.heap.FunFrames X.base l->s.heap.FunFrames X.base l:=by
  intro l
  induction l with
  | nil=>intro _ _;trivial
  | cons env r ih=>
    intro hs hl
    obtain⟨hk,⟨L,o,hf,hn,ho,hd⟩,hr⟩:=hl
    have hL:L∈X.fs:=hs L (by unfold frs;rw[List.filterMap_cons,hf];exact qh)
    obtain⟨sl,e⟩:=I.base.slot L o ho (I.ok.frf L hL) hL fun z=>I.ok.exfs L z hL
    exact⟨hk,⟨L,_,hf,hn,e,hd⟩,ih (fun b hb=>hs b (by unfold frs;rw[List.filterMap_cons,hf];exact qg _ hb)) hr⟩
 exact all X.outer (fun _ hb=>hb) I.ok.funs
theorem Inv.stack(I:Inv X pins σ H s):s.heap.FunFrames X.base X.stack:=by
 rcases I.ok.stk with e | ⟨e,hf⟩
 ·rw[e];exact I.funs
 ·rw[e]
  obtain⟨m,hn,_⟩:=I.loc
  refine .cons (by rw[I.ok.kind];decide) hf hn ?_ I.funs
  exact Heap.get?_none_of_le (qx I.ok.bsz I.ok.above)
theorem Inv.stkSub(I:Inv X pins σ H s):∀b∈frs X.stack,b∈X.env.locals::X.fs:=fun b hb=>by
 rcases I.ok.stk with e | ⟨e,hf⟩
 ·rw[e]at hb;exact qg _ hb
 ·rw[e]at hb
  unfold frs at hb
  rw[List.filterMap_cons,hf]at hb
  exact hb
theorem Inv.stkFree(I:Inv X pins σ H s):∀b∈frs X.stack,H b=none:=fun b hb=>by
 rcases qt (I.stkSub b hb)with e | hb
 ·rw[e];exact I.free
 ·obtain⟨_,o,ho,_⟩:=I.ok.funs.mem hb
  exact I.base.free b o ho (I.ok.frf b hb) fun z=>I.ok.exfs b z hb
theorem Inv.step{g':Array GenState}{t':Nat}{d':Drawn}{ch:List Addr}(I:Inv X pins σ H s)
 (hch:∀b∈ch,(b∈X.ex\/X.s₀.heap.objs.size<=b)/\b≠X.env.locals/\(∀x c,X.env.cells.lookup x=some c->c≠b)/\∀p∈X.pn++pins,p.1≠b)
 (keep:∀b o,b≠X.env.locals->b∉X.fs->b∉ch->s.heap.get? b=some o->H b=none->h'.get? b=some o)
 (slot:∀b o,b≠X.env.locals->b∈X.fs->b∉ch->s.heap.get? b=some o->H b=none->∃sl,h'.get? b=some { o with slots:=sl }) (free:∀b o,b∉ch->s.heap.get? b=some o->H b=none->H' b=none)
 (there:∀b o,b∉ch->s.heap.get? b=some o->∃o',h'.get? b=some o')
 (tups:∀b xs,H b=some (.tup xs)->H' b=some (.tup xs)) (frzs:∀b o u,H b=some (.frz o u)->H' b=some (.frz o u)) (tbls:∀b ps,H b=some (.tbl ps)->∃more,H' b=some (.tbl (ps++more)))
 (ns:∀m,s.heap.Ns X.env.locals m->h'.Ns X.env.locals m) (hok:HOk X.prog X.w H' h') (hg:AllBare g') :
 Inv X pins σ H' { s with heap:=h',gens:=g',drawn:=d',toks:=t' }:=by
 have neL:∀b o,X.s₀.heap.get? b=some o->b≠X.env.locals:=fun b o e=>qm (Qe (ql e) I.ok.above)
 have neC:∀b o,X.s₀.heap.get? b=some o->b∉X.ex->b∉ch:=fun b o e hx hb=>by
  rcases(hch b hb).1 with z | z
  ·exact hx z
  ·exact absurd (Qe (ql e) z) (Nat.lt_irrefl _)
 have cellK:∀x c,X.env.cells.lookup x=some c->∀v,s.heap.IsCell c v->h'.IsCell c v:=fun x c e v hx_=>by
  obtain⟨o,ho,hd⟩:=hx_
  have nch:c∉ch:=fun z=>(hch c z).2.2.1 x c e rfl
  by_cases hc:c∈X.fs
  ·obtain⟨sl,q⟩:=slot c o (I.cne x c e) hc nch ho (I.freeC x c e)
   exact⟨_,q,hd⟩
  ·exact⟨o,keep c o (I.cne x c e) hc nch ho (I.freeC x c e),hd⟩
 refine⟨I.ok,I.os,hg,⟨fun b o e n hb hx=>?_,fun b o e n hb hx=>?_,fun b o e n hx=>?_,fun b o e hx=>?_,fun b xs e=>tups b xs (I.base.tups b xs e),fun b o xs e=>frzs b o xs (I.base.frzs b o xs e),fun b ps e=>?_⟩,?_,fun x c e=>?_,?_,fun x c e=>?_,fun p hp=>?_,hok,I.len⟩
 ·exact keep b o (neL b o e) hb (neC b o e hx) (I.base.keep b o e n hb hx) (I.base.free b o e n hx)
 ·obtain⟨sl,e1⟩:=I.base.slot b o e n hb hx
  obtain⟨sl',e2⟩:=slot b _ (neL b o e) hb (neC b o e hx) e1 (I.base.free b o e n hx)
  exact⟨sl',e2⟩
 ·obtain⟨o',e1⟩:=I.base.there b o e hx
  exact free b o' (neC b o e hx) e1 (I.base.free b o e n hx)
 ·obtain⟨o',e1⟩:=I.base.there b o e hx
  exact there b o' (neC b o e hx) e1
 ·obtain⟨m1,e1⟩:=I.base.tbls b ps e
  obtain⟨m2,e2⟩:=tbls b _ e1
  exact⟨m1++m2,by rw[e2,Array.append_assoc]⟩
 ·obtain⟨m,hn,hl⟩:=I.loc
  refine⟨m,ns m hn,fun i x v e1 e2 e3=>?_⟩
  obtain⟨u,r,l⟩:=hl i x v e1 e2 e3
  refine⟨u,r,?_⟩
  rcases l with l | ⟨k,c,e,z⟩
  ·exact .inl l
  ·exact .inr ⟨k,c,e,cellK x c e _ z⟩
 ·obtain⟨v,z⟩:=I.cell x c e
  exact⟨v,cellK x c e v z⟩
 ·obtain⟨m,⟨o,_,_,ho,_⟩,_⟩:=I.loc
  exact free _ o (fun z=>(hch _ z).2.1 rfl) ho I.free
 ·obtain⟨v,o,ho,hd⟩:=I.cell x c e
  exact free c o (fun z=>(hch c z).2.2.1 x c e rfl) ho (I.freeC x c e)
 ·obtain⟨e,n,ne,nf,d⟩:=I.pin p hp
  have nch:p.1∉ch:=fun z=>(hch p.1 z).2.2.2 p hp rfl
  exact⟨keep p.1 p.2 ne nf nch e n,free p.1 p.2 nch e n,ne,nf,d⟩
theorem Inv.un{t':Nat}(I:Inv X pins σ H s)(u:Un X.fs [] H H' s.heap h')(hok:HOk X.prog X.w H' h'):Inv X pins σ H' { s with heap:=h',toks:=t' }:=by
 obtain⟨m,⟨o,es,ep,ho,r⟩,_⟩:=id I.loc
 obtain⟨sl,hL⟩:=u.any ho I.free (by simp)
 exact I.step (g':=s.gens) (d':=s.drawn) (ch:=[]) (fun _ z=>nomatch z) (fun b o _ hb _ e n=>u.keep b o e n hb (by simp)) (fun b o _ hb _ e n=>u.slot b o e n hb (by simp)) (fun b o _ e n=>u.free b o e n (by simp)) (fun b o _ e=>u.there b o e (by simp)) u.tups u.frzs u.tbls (fun m' hm=>by
  obtain⟨o',es',ep',ho',r'⟩:=hm
  rw[ho]at ho';cases ho'
  exact⟨_,es',ep',hL,r'⟩) hok I.bare
theorem Inv.call{g':Array GenState}{t':Nat}{d':Drawn}{ch:List Addr}(I:Inv X pins σ H s)(u:Un (frs X.stack) ch H H' s.heap h')(hok:HOk X.prog X.w H' h')(hg:AllBare g')
 (hch:∀b∈ch,(b∈X.ex\/X.s₀.heap.objs.size<=b)/\b≠X.env.locals/\(∀x c,X.env.cells.lookup x=some c->c≠b)/\∀p∈X.pn++pins,p.1≠b) :
 Inv X pins σ H' { s with heap:=h',gens:=g',drawn:=d',toks:=t' }:=by
 obtain⟨m,⟨o,es,ep,ho,r⟩,_⟩:=id I.loc
 obtain⟨sl,hL⟩:=u.any ho I.free fun z=>(hch _ z).2.1 rfl
 exact I.step (ch:=ch) hch (fun b o hL hb hc e n=>u.keep b o e n (fun z=>(qt (I.stkSub b z)).elim hL hb) hc) (fun b o _ _ hc e n=>u.any e n hc) (fun b o hc e n=>u.free b o e n hc) (fun b o hc e=>u.there b o e hc) u.tups u.frzs u.tbls (fun m' hm=>by
  obtain⟨o',es',ep',ho',r'⟩:=hm
  rw[ho]at ho';cases ho'
  exact⟨_,es',ep',hL,r'⟩) hok hg
theorem Inv.turned{t':Nat}{it:Addr}(I:Inv X pins σ H s)(k:∀b o,b≠it->s.heap.get? b=some o->h'.get? b=some o)(hn:H it=none)(hL:it≠X.env.locals)
 (h1:it∈X.ex\/X.s₀.heap.objs.size<=it) (h2:∀x c,X.env.cells.lookup x=some c->c≠it) (h3:∀p∈X.pn++pins,p.1≠it):Inv X pins σ H { s with heap:=h',toks:=t' }:=by
 have nit:∀b u,H b=some u->b≠it:=fun b u e z=>by rw[z,hn]at e;cases e
 refine I.step (g':=s.gens) (d':=s.drawn) (ch:=[it]) (fun b hb=>?_) (fun b o _ _ hc e _=>k b o (fun z=>hc (by simp[z])) e) (fun b o _ _ hc e _=>⟨o.slots,k b o (fun z=>hc (by simp[z])) e⟩) (fun _ _ _ _ n=>n)
  (fun b o hc e=>⟨o,k b o (fun z=>hc (by simp[z])) e⟩) (fun _ _ e=>e) (fun _ _ _ e=>e) (fun b ps e=>⟨#[],by rw[e];simp⟩) (fun m hm=>?_) (fun b u e=>?_) I.bare
 ·have e:b=it:=by simpa using hb
  subst e
  exact⟨h1,hL,h2,h3⟩
 ·obtain⟨o,es,ep,ho,r⟩:=hm
  exact⟨o,es,ep,k _ o (Ne.symm hL) ho,r⟩
 ·refine(I.hok b u e).stay (fun c v hc q=>k c v ?_ q) (fun _ q=>q) fun _ _ q=>q
  rcases hc with z | z
  ·rw[z];exact nit b u e
  ·exact nit c _ z
theorem Inv.tok(I:Inv X pins σ H s)(t:Nat):Inv X pins σ H { s with toks:=t }:=I.un (h':=s.heap) (t':=t) Un.refl I.hok
theorem Inv.kept{t':Nat}(I:Inv X pins σ H s)(k:∀b u,s.heap.get? b=some u->h'.get? b=some u):Inv X pins σ H { s with heap:=h',toks:=t' }:=I.un (Un.kept k) (I.hok.kept k)
theorem Inv.laid{a:Addr}{o:HO}{t':Nat}(I:Inv X pins σ H s)(k:∀b u,s.heap.get? b=some u->h'.get? b=some u)(hp:s.heap.objs.size<=a)(new:ObjOk X.prog X.w (upd H a o) h' a o) :
 Inv X pins σ (upd H a o) { s with heap:=h',toks:=t' }:=I.un (Un.laid k hp (I.hok.fresh hp)) (I.hok.laid k hp new)
theorem Inv.write{x e:Addr}{o:HO}{t':Nat}(I:Inv X pins σ H s)(mu:Mut (H x))(he:e=x\/H e=some (.own x))(k:∀b u,b≠e->s.heap.get? b=some u->h'.get? b=some u)(heo:∃u,h'.get? e=some u)
 (new:ObjOk X.prog X.w (upd H x o) h' x o):Inv X pins σ (upd H x o) { s with heap:=h',toks:=t' }:=I.un (Un.write mu he k heo) (I.hok.write mu he k heo new)
theorem Inv.pins_of{pins':List (Addr × Obj)}(I:Inv X pins σ H s)(h:∀p∈pins',s.heap.get? p.1=some p.2/\H p.1=none/\p.1≠X.env.locals/\p.1∉X.fs/\∀v,p.2.data≠.cell v):Inv X pins' σ H s:=
 ⟨I.ok,I.os,I.bare,I.base,I.loc,I.cell,I.free,I.freeC,fun p hp=>(qv hp).elim (fun z=>I.pin p (List.mem_append_left _ z)) (h p),I.hok,I.len⟩
theorem Yns{N:List Str}(hN:N.Nodup){i j:Nat}{x:Str}(a:N[i]?=some x)(b:N[j]?=some x):i=j:=by
 obtain⟨h1,e1⟩:=qo a
 obtain⟨h2,e2⟩:=qo b
 exact(List.getElem_inj hN).mp (e1.trans e2.symm)
theorem Ypg{M:Model}{A:Around}{E:Value->Shared->Prop}{i:Nat}{x:Str}{v:V}{u:Value}{Q:Unit->Shared->Prop}(I:Inv X pins σ H s)(hN:X.N.Nodup)(hi:X.N[i]?=some x)(hx:Loc X.env.scope x)(r:RelV v u)
 (h:∀s',Inv X pins (σ.set i (some v)) H s'->(∃a,Heap.SameBut a s.heap s'.heap/\(a=X.env.locals\/X.env.cells.lookup x=some a))->Q () s') (hf:X.fn x=true\/X.env.scope.names.lookup x=some .local:=by first | exact .inl rfl | exact .inr rfl | assumption):wpAny M A (storeName X.env x u) Q E s:=by
 obtain⟨m,hn,hl⟩:=id I.loc
 have hcls:(X.env.scope.kind==.class||(X.env.scope.kind==.module&&X.env.locals != X.env.globals))=false:=by rw[I.ok.kind];rfl
 have hiσ:i < σ.length:=by rw[I.len];exact(qo hi).1
 have cne:=I.cne
 have tracked:∀{a:Addr} {h':Heap},(∃o,s.heap.get? a=some o/\H a=none)->Heap.SameBut a s.heap h'->HOk X.prog X.w H h':=fun {a h'} ha hs b ob e=>by
  obtain⟨_,_,hfree⟩:=ha
  refine(I.hok b ob e).stay (fun c w' hc q=>(hs.2 c ?_).trans q) (fun _ q=>q) fun _ _ q=>q
  rintro rfl
  rcases hc with rfl | hc
  ·rw[hfree]at e;cases e
  ·rw[hfree]at hc;cases hc
 rcases hx with hk | hk
 ·refine wpAny_storeName_local hk hn (fun h' hn' hs=>?_) hcls
  obtain⟨oL,_,_,hoL,_⟩:=id hn
  refine h _ ⟨I.ok,I.os,I.bare,⟨fun b o e n hb hx=>?_,fun b o e n hb hx=>?_,I.base.free,fun b o e hx=>?_,I.base.tups,I.base.frzs,I.base.tbls⟩,⟨_,hn',fun j y v' e1 e2 e3=>?_⟩,fun y c e=>?_,I.free,I.freeC,fun p hp=>?_,tracked ⟨oL,hoL,I.free⟩ hs,by simpa using I.len⟩ ⟨_,hs,.inl rfl⟩
  ·exact(hs.2 b (qm (Qe (ql e) I.ok.above))).trans (I.base.keep b o e n hb hx)
  ·obtain⟨sl,e1⟩:=I.base.slot b o e n hb hx
   exact⟨sl,(hs.2 b (qm (Qe (ql e) I.ok.above))).trans e1⟩
  ·obtain⟨o',e1⟩:=I.base.there b o e hx
   exact⟨o',(hs.2 b (qm (Qe (ql e) I.ok.above))).trans e1⟩
  ·by_cases hj:j=i
   ·subst hj
    rw[hi]at e1;cases e1
    rw[List.getElem?_set_self hiσ]at e2
    cases e2
    exact⟨u,r,.inl ⟨hk,by simp⟩⟩
   ·rw[Qa (Ne.symm hj)]at e2
    obtain⟨u',r',q⟩:=hl j y v' e1 e2 e3
    refine⟨u',r',?_⟩
    rcases q with⟨k,e⟩ | ⟨k,c,e,z⟩
    ·refine .inl ⟨k,?_⟩
     have:y≠x:=fun e=>hj (Yns hN e1 (e ▸ hi))
     simp[this,e]
    ·exact .inr ⟨k,c,e,z.sameBut hs (cne y c e)⟩
  ·obtain⟨w',z⟩:=I.cell y c e
   exact⟨w',z.sameBut hs (cne y c e)⟩
  ·obtain⟨e,n,ne,nf,d⟩:=I.pin p hp
   exact⟨(hs.2 p.1 ne).trans e,n,ne,nf,d⟩
 ·have hfn:X.fn x=true:=by
   rcases hf with z | z
   ·exact z
   ·rw[z]at hk;cases hk
  obtain⟨c,hc⟩:=I.ok.has x (.inl hk)
  obtain⟨w',z⟩:=I.cell x c hc
  refine wpAny_storeName_cell I.ok.kind hk hc z (fun h' hc' hs=>?_)
  obtain⟨oc,hoc,hocd⟩:=id z
  refine h { s with heap:=h' } ⟨I.ok,I.os,I.bare,⟨fun b o e n hb hx=>?_,fun b o e n hb hx=>?_,I.base.free,fun b o e hx=>?_,I.base.tups,I.base.frzs,I.base.tbls⟩,⟨m,hn.sameBut hs (Ne.symm (cne x c hc)),fun j y v' e1 e2 e3=>?_⟩,fun y c' e=>?_,I.free,I.freeC,fun p hp=>?_,tracked ⟨oc,hoc,I.freeC x c hc⟩ hs,by simpa using I.len⟩ ⟨c,hs,.inr hc⟩
  ·exact(hs.2 b (qm (Qe (ql e) (I.ok.cab x c hfn hc)))).trans (I.base.keep b o e n hb hx)
  ·obtain⟨sl,e1⟩:=I.base.slot b o e n hb hx
   exact⟨sl,(hs.2 b (qm (Qe (ql e) (I.ok.cab x c hfn hc)))).trans e1⟩
  ·obtain⟨o',e1⟩:=I.base.there b o e hx
   exact⟨o',(hs.2 b (qm (Qe (ql e) (I.ok.cab x c hfn hc)))).trans e1⟩
  ·by_cases hj:j=i
   ·subst hj
    rw[hi]at e1;cases e1
    rw[List.getElem?_set_self hiσ]at e2
    cases e2
    exact⟨u,r,.inr ⟨.inl hk,c,hc,hc'⟩⟩
   ·rw[Qa (Ne.symm hj)]at e2
    obtain⟨u',r',q⟩:=hl j y v' e1 e2 e3
    refine⟨u',r',?_⟩
    rcases q with q | ⟨k,c',e,z'⟩
    ·exact .inl q
    ·refine .inr ⟨k,c',e,z'.sameBut hs ?_⟩
     rintro rfl
     exact hj (Yns hN e1 (I.ok.inj _ _ _ e hc ▸ hi))
  ·by_cases hcc:c'=c
   ·subst hcc;exact⟨_,hc'⟩
   ·obtain⟨w2,z2⟩:=I.cell y c' e
    exact⟨w2,z2.sameBut hs hcc⟩
  ·obtain⟨e,n,ne,nf,d⟩:=I.pin p hp
   refine⟨(hs.2 p.1 ?_).trans e,n,ne,nf,d⟩
   intro q
   rw[q,hoc]at e
   have q':oc=p.2:=Option.some.inj e
   exact d w' (by rw[<-q'];exact hocd)
theorem Ynt{M:Model}{A:Around}{E:Value->Shared->Prop}{i:Nat}{x:Str}{v:V}{u:Value}{Q:Unit->Shared->Prop}(I:Inv X pins σ H s)(hN:X.N.Nodup)(hi:X.N[i]?=some x)(hx:Loc X.env.scope x)(r:RelV v u)
 (h:∀s',Inv X pins (σ.set i (some v)) H s'->Q () s') (hf:X.fn x=true\/X.env.scope.names.lookup x=some .local:=by first | exact .inl rfl | exact .inr rfl | assumption):wpAny M A (storeName X.env x u) Q E s:=
 Ypg I hN hi hx r (fun s' I' _=>h s' I') hf
theorem Inv.call'{s':Shared}{ch:List Addr}(I:Inv X pins σ H s)(ho:s'.os=s.os)(u:Un (frs X.stack) ch H H' s.heap s'.heap)(hok:HOk X.prog X.w H' s'.heap)(hg:AllBare s'.gens)
 (hch:∀b∈ch,(b∈X.ex\/X.s₀.heap.objs.size<=b)/\b≠X.env.locals/\(∀x c,X.env.cells.lookup x=some c->c≠b)/\∀p∈X.pn++pins,p.1≠b):Inv X pins σ H' s':=by
 obtain⟨h',g',d',t',o'⟩:=s'
 have e:o'=s.os:=ho
 subst e
 exact I.call (g':=g') (t':=t') (d':=d') u hok hg hch
end
abbrev XK:=Value->Option Addr->Hp->Prop
abbrev St:=List (Option V)
abbrev VK:=V->Hp->Prop
abbrev TE:=St->Hp->VK->Prop
abbrev TT:=St->Hp->(Bool->Hp->Prop)->Prop
abbrev TA:=St->Hp->(List V->Hp->Prop)->Prop
structure Ends where
 nx:St->Hp->Prop
 rt:VK
 bk:St->Hp->Prop:=fun _ _=>False
 ct:St->Hp->Prop:=fun _ _=>False
abbrev TS:=Ends->St->Hp->Prop
def EP(X:Cx)(pins:List (Addr × Obj))(σ:St)(Q:VK)(u:Value)(s':Shared):Prop:=∃v H',Inv X pins σ H' s'/\RelV v u/\Q v H'
def TP(X:Cx)(pins:List (Addr × Obj))(σ:St)(Q:Bool->Hp->Prop)(b:Bool)(s':Shared):Prop:=∃H',Inv X pins σ H' s'/\Q b H'
def AP(X:Cx)(pins:List (Addr × Obj))(σ:St)(Q:List V->Hp->Prop)(us:List Value)(s':Shared):Prop:=∃vs H',Inv X pins σ H' s'/\Vals vs us/\Q vs H'
def SP(X:Cx)(pins:List (Addr × Obj))(D:Ends)(f:Flow)(s':Shared):Prop:=
 match f with
 | .next=>∃σ' H',Inv X pins σ' H' s'/\D.nx σ' H'
 | .brk=>∃σ' H',Inv X pins σ' H' s'/\D.bk σ' H'
 | .cont=>∃σ' H',Inv X pins σ' H' s'/\D.ct σ' H'
 | .ret u=>∃v σ' H',Inv X pins σ' H' s'/\RelV v u/\D.rt v H'
def PE(X:Cx)(e:Expr)(t:TE):Prop:=
 ∀(pins:List (Addr × Obj)) (s:Shared) (σ:St) (H:Hp) (Q:VK),Inv X pins σ H s->t σ H Q->wpAny (model X.prog X.w) X.A (eval e X.env) (EP X pins σ Q) X.xe s
def PT(X:Cx)(e:Expr)(t:TT):Prop:=
 ∀(pins:List (Addr × Obj)) (s:Shared) (σ:St) (H:Hp) (Q:Bool->Hp->Prop),Inv X pins σ H s->t σ H Q->wpAny (model X.prog X.w) X.A (isTrue e X.env (eval e X.env)) (TP X pins σ Q) X.xe s
def PW(X:Cx)(e:Expr)(t:TT):Prop:=
 ∀(whole:Sem Value) (pins:List (Addr × Obj)) (s:Shared) (σ:St) (H:Hp) (Q:Bool->Hp->Prop),Inv X pins σ H s->t σ H Q->wpAny (model X.prog X.w) X.A (isTrue e X.env whole) (TP X pins σ Q) X.xe s
theorem PW.pt{X:Cx}{e:Expr}{t:TT}(h:PW X e t):PT X e t:=h _
def PA(X:Cx)(es:List Expr)(t:TA):Prop:=
 ∀(pos:Pos) (pins:List (Addr × Obj)) (s:Shared) (σ:St) (H:Hp) (Q:List V->Hp->Prop),Inv X pins σ H s->t σ H Q->wpAny (model X.prog X.w) X.A (spliced (backTo pos (starEach es X.env))) (AP X pins σ Q) X.xe s
def PS(X:Cx)(st:Stmt)(t:TS):Prop:=
 ∀(pins:List (Addr × Obj)) (s:Shared) (σ:St) (H:Hp) (D:Ends),Inv X pins σ H s->t D σ H->wpAny (model X.prog X.w) X.A (exec st X.env) (SP X pins D) X.xe s
def PSs(X:Cx)(st:List Stmt)(t:TS):Prop:=
 ∀(pins:List (Addr × Obj)) (s:Shared) (σ:St) (H:Hp) (D:Ends),Inv X pins σ H s->t D σ H->wpAny (model X.prog X.w) X.A (execs st X.env) (SP X pins D) X.xe s
theorem thn{α:Type}{t:Sem α}{Q Q':α->Shared->Prop}{M:Model}{A:Around}{E:Value->Shared->Prop}{s:Shared}(h:wpAny M A t Q E s)(hQ:∀a s,Q a s->Q' a s):wpAny M A t Q' E s:=wpAny_mono h hQ fun _ _ x=>x
end L2
namespace L2
open PySem PySem.Spec PyProof.Rows
section
variable {X:Cx}
def tVar(i:Nat):TE:=fun σ H Q=>∃v,σ[i]?=some (some v)/\Q v H
def tC(v:V):TE:=fun _ H Q=>Q v H
theorem Yej{i:Nat}{x:Str}{pos:Pos}(hN:X.N[i]?=some x)(hv:Vis X.env.scope x)(hd:(x==("__debug__":Str))=false:=by decide)(hcd:(x==("__classdict__":Str))=false:=by decide):PE X (.Name x pos) (tVar i):=by
 intro pins s σ H Q I h
 obtain⟨v,e,h⟩:=h
 obtain⟨m,hn,hl⟩:=I.loc
 obtain⟨u,r,l⟩:=hl i x v hN e hv
 have fin:EP X pins σ Q u s:=⟨v,H,I,r,h⟩
 rcases l with⟨hk,hm⟩ | ⟨hk,c,hc,hcell⟩
 ·exact wpAny_Name (wpAny_loadName_local I.ok.kind hk hn hm fin) hd
 ·rcases hk with hk | hk
  ·exact wpAny_Name (wpAny_loadName_cell I.ok.kind hk hc hcell fin) hd
  ·exact wpAny_Name (wpAny_loadName_free I.ok.kind hk hc hcell fin hcd) hd
theorem Ynu{i j pos}:PE X (.Constant (.int i) j pos) (tC (.int i)):=fun _ _ _ H _ I h=>wpAny_Constant_int ⟨.int i,H,I.tok _,⟨_,rfl⟩,h⟩
theorem y0x{b j pos}:PE X (.Constant (.bool b) j pos) (tC (.bl b)):=fun _ _ _ H _ I h=>Constant_bool ⟨.bl b,H,I,rfl,h⟩
theorem Yxz{j pos}:PE X (.Constant .none j pos) (tC .non):=fun _ _ _ H _ I h=>Constant_none ⟨.non,H,I,rfl,h⟩
theorem Yph{x j pos}:PE X (.Constant (.str x) j pos) (tC (.str x)):=fun _ _ _ H _ I h=>Calls.Constant_str ⟨.str x,H,I.tok _,⟨_,rfl⟩,h⟩
def Gl(X:Cx)(x:Str):Prop:=X.env.kindOf x=some .globalImplicit
theorem Yfg{E:Value->Shared->Prop}{pins:List (Addr × Obj)}{s:Shared}{σ:St}{H:Hp}{x:Str}{u:Value}{pos:Pos}{Q:Value->Shared->Prop}(I:Inv X pins σ H s)(hg:Gl X x)(hm:X.mg x=some u)(h:Q u s)
 (hd:(x==("__debug__":Str))=false:=by decide):wpAny (model X.prog X.w) X.A (eval (.Name x pos) X.env) Q E s:=
 Calls.Name_function_global I.ok.kind hg (Calls.loadGlobal_global (by rw[I.ok.glob];exact I.mod.glob.keeps I.bk) hm h) hd
theorem Yh0{E:Value->Shared->Prop}{pins:List (Addr × Obj)}{s:Shared}{σ:St}{H:Hp}{x:Str}{u:Value}{pos:Pos}{Q:Value->Shared->Prop}(I:Inv X pins σ H s)(hg:Gl X x)(hm:X.mg x=none)(hv:bootBuiltins x=some u)(h:Q u s)
 (hn:x≠"__name__":=by decide) (hd:(x==("__debug__":Str))=false:=by decide):wpAny (model X.prog X.w) X.A (eval (.Name x pos) X.env) Q E s:=by
 obtain⟨mb,h1,h2⟩:=I.mod.blt
 exact Calls.Name_function_global I.ok.kind hg (Calls.loadGlobal_builtin (by rw[I.ok.glob];exact I.mod.glob.keeps I.bk) hm (by rw[I.ok.blt];exact h1.keeps I.bk) ((h2 x hn).trans hv) h) hd
theorem Yj7{x:Str}{v:V}{u:Value}{pos:Pos}(hg:Gl X x)(hm:X.mg x=some u)(r:RelV v u)(hd:(x==("__debug__":Str))=false:=by decide):PE X (.Name x pos) (tC v):=
 fun _ _ _ H _ I h=>Yfg I hg hm ⟨v,H,I,r,h⟩ hd
theorem Yvm{x:Str}{v:V}{u:Value}{pos:Pos}(hg:Gl X x)(hm:X.mg x=none)(hv:bootBuiltins x=some u)(r:RelV v u)(hn:x≠"__name__":=by decide)(hd:(x==("__debug__":Str))=false:=by decide):PE X (.Name x pos) (tC v):=
 fun _ _ _ H _ I h=>Yh0 I hg hm hv ⟨v,H,I,r,h⟩ hn hd
variable {a b:Expr} {ta tb:TE} {pos:Pos}
def tB(t:TE):TT:=fun σ H Q=>t σ H fun x H1=>∃c,x=.bl c/\Q c H1
theorem Yx0{e:Expr}{t:TE}(h:PE X e t)(he:∀whole,isTrue e X.env whole=(do let v <-whole;standAt e.pos;holding [v] (truthy v)):=by intro _;rfl):PT X e (tB t):=by
 intro pins s σ H Q I hw
 refine isTrue_plain (thn (h pins s σ H _ I hw) fun v s1 hx_=>?_) (he _)
 obtain⟨x,H1,I1,r1,q1⟩:=hx_
 obtain⟨d,rfl,q⟩:=q1
 cases r1
 exact wpAny_truthy_bool ⟨H1,I1,q⟩
variable {tA tB':TT} {rest:List Expr}
def tAnd(t u:TT):TT:=fun σ H Q=>t σ H fun c H1=>if c=true then u σ H1 Q else Q false H1
def tOr(t u:TT):TT:=fun σ H Q=>t σ H fun c H1=>if c=true then Q true H1 else u σ H1 Q
def tNot(t:TT):TT:=fun σ H Q=>t σ H fun c H1=>Q (!c) H1
theorem Yvn(ha:PT X a tA):PW X (.BoolOp .And [a] pos) tA:=by
 intro wh pins s σ H Q I h
 refine isTrue_and (thn (ha pins s σ H Q I h) fun c s1 e=>?_)
 cases c with
 | true=>exact isTrue_and_nil e
 | false=>exact e
theorem Yx1(ha:PT X a tA):PW X (.BoolOp .Or [a] pos) tA:=by
 intro wh pins s σ H Q I h
 refine isTrue_or (thn (ha pins s σ H Q I h) fun c s1 e=>?_)
 cases c with
 | false=>exact isTrue_or_nil e
 | true=>exact e
theorem Yx2(ha:PT X a tA)(hb:PW X (.BoolOp .And (b::rest) pos) tB'):PW X (.BoolOp .And (a::b::rest) pos) (tAnd tA tB'):=by
 intro wh pins s σ H Q I h
 refine isTrue_and (thn (ha pins s σ H _ I h) fun c s1 hx_=>?_)
 obtain⟨H1,I1,q1⟩:=hx_
 cases c with
 | true=>exact hb wh pins s1 σ H1 Q I1 q1
 | false=>exact⟨H1,I1,q1⟩
theorem y0y(ha:PT X a tA)(hb:PW X (.BoolOp .Or (b::rest) pos) tB'):PW X (.BoolOp .Or (a::b::rest) pos) (tOr tA tB'):=by
 intro wh pins s σ H Q I h
 refine isTrue_or (thn (ha pins s σ H _ I h) fun c s1 hx_=>?_)
 obtain⟨H1,I1,q1⟩:=hx_
 cases c with
 | true=>exact⟨H1,I1,q1⟩
 | false=>exact hb wh pins s1 σ H1 Q I1 q1
theorem Yun(ha:PT X a tA):PT X (.UnaryOp .Not a pos) (tNot tA):=by
 intro pins s σ H Q I h
 exact isTrue_not (ha pins s σ H (fun c H1=>Q (!c) H1) I h)
def y0z(ta tb:TE):TE:=fun σ H Q=>ta σ H fun x H1=>∃c,x=.bl c/\if c=true then tb σ H1 Q else Q (.bl false) H1
def y00(ta:TE):TE:=fun σ H Q=>ta σ H fun x H1=>∃c,x=.bl c/\Q (.bl (!c)) H1
theorem Yx3{op}{t:TE}(h:PE X a t):PE X (.BoolOp op [a] pos) t:=fun pins s σ H Q I hw=>BoolOp_one (h pins s σ H Q I hw)
theorem Yx4(ha:PE X a ta)(hb:PE X (.BoolOp .And (b::rest) pos) tb):PE X (.BoolOp .And (a::b::rest) pos) (y0z ta tb):=by
 intro pins s σ H Q I h
 refine BoolOp_and (thn (ha pins s σ H _ I h) fun v s1 hx_=>?_)
 obtain⟨x,H1,I1,r1,q1⟩:=hx_
 obtain⟨c,rfl,q1⟩:=q1
 cases r1
 refine wpAny_truthy_bool ?_
 cases c with
 | true=>exact hb pins s1 σ H1 Q I1 q1
 | false=>exact⟨.bl false,H1,I1,rfl,q1⟩
theorem Yx5(ha:PE X a ta):PE X (.UnaryOp .Not a pos) (y00 ta):=by
 intro pins s σ H Q I h
 refine UnaryOp_ (thn (ha pins s σ H _ I h) fun v s1 hx_=>?_)
 obtain⟨x,H1,I1,r1,q1⟩:=hx_
 obtain⟨c,rfl,q1⟩:=q1
 cases r1
 exact not_of (wpAny_truthy_bool ⟨.bl (!c),H1,I1,rfl,q1⟩)
def tIf(t:TT)(ta tb:TE):TE:=fun σ H Q=>t σ H fun c H1=>if c=true then ta σ H1 Q else tb σ H1 Q
theorem Ysk{c:Expr}(hc:PT X c tA)(ha:PE X a ta)(hb:PE X b tb):PE X (.IfExp c a b pos) (tIf tA ta tb):=by
 intro pins s σ H Q I h
 refine wpAny_IfExp (thn (hc pins s σ H _ I h) fun d s1 hx_=>?_)
 obtain⟨H1,I1,q1⟩:=hx_
 cases d with
 | true=>exact ha pins s1 σ H1 Q I1 q1
 | false=>exact hb pins s1 σ H1 Q I1 q1
end
end L2
namespace L2
open PySem PySem.Spec PyProof.Rows
def SqL(K:W.Frag)(H:Hp)(a:Addr)(xs:List V):Prop:=
 Rd H a (.lst xs)\/
  ∃(o:Obj) (its:Array Value) (n:Nat),K.lookup a=some o/\o.cls=.type "list"/\o.dict=none/\o.data=.seq its n/\its.size<=sizeLine/\Vals xs its.toList
def SqT(K:W.Frag)(H:Hp)(a:Addr)(xs:List V):Prop:=
 Rd H a (.tup xs)\/
  ∃(o:Obj) (its:Array Value) (n:Nat),K.lookup a=some o/\o.cls=.type "tuple"/\o.data=.seq its n/\its.size<=sizeLine/\Vals xs its.toList
def absV:Value->Option V
 | .none=>some .non
 | .bool b=>some (.bl b)
 | .int i _=>some (.int i)
 | .str x _=>some (.str x)
 | .bytes b _=>some (.byt b)
 | .float b _=>some (.flt b)
 | .ref a=>some (.ref a)
 | .type n=>some (.ty n)
 | _=>none
theorem RelV.abs{x:V}{u:Value}(r:RelV x u):absV u=some x:=by
 cases x with
 | non=>cases r;rfl
 | bl _=>cases r;rfl
 | int _=>obtain⟨t,rfl⟩:=r;rfl
 | str _=>obtain⟨t,rfl⟩:=r;rfl
 | byt _=>obtain⟨t,rfl⟩:=r;rfl
 | flt _=>obtain⟨t,rfl⟩:=r;rfl
 | ref _=>cases r;rfl
 | ty _=>cases r;rfl
theorem RelV.inj{x y:V}{u:Value}(r:RelV x u)(q:RelV y u):x=y:=Option.some.inj (r.abs.symm.trans q.abs)
theorem Vals.inj:∀{xs ys:List V} {us:List Value},Vals xs us->Vals ys us->xs=ys
 :=by
  intro xs ys us h
  induction h generalizing ys with
  | nil=>
    intro h2
    cases h2
    rfl
  | cons r t ih=>
    intro h2
    cases h2 with
    | cons r' t'=>rw[r.inj r',ih t']
section
variable {X:Cx} {pins:List (Addr × Obj)} {σ:St} {H:Hp} {s:Shared} {a:Addr} {xs ys:List V}
theorem SqL.of{K:W.Frag}(h:H a=some (.lst xs)):SqL K H a xs:=.inl (.inl h)
theorem SqT.of{K:W.Frag}(h:H a=some (.tup xs)):SqT K H a xs:=.inl (.inl h)
theorem Inv.list(I:Inv X pins σ H s)(h:SqL X.K H a xs):∃its:List Value,Vals xs its/\PlainL s.heap a its.toArray/\xs.length<=sizeLine:=by
 rcases h with h | ⟨o,its,n,hk,hc,hd,hs,hz,r⟩
 ·obtain⟨z,its,n,r,e⟩:=h.ok I.hok
  exact⟨its,r,⟨_,n,e,rfl,rfl,rfl⟩,z⟩
 ·refine⟨its.toList,r,⟨o,n,I.kIn a o hk,hc,hd,by simpa using hs⟩,?_⟩
  have e:=r.length
  simp only[qj]at e
  lia
theorem Inv.tuple(I:Inv X pins σ H s)(h:SqT X.K H a xs):∃its:List Value,Vals xs its/\IsTup s.heap a its.toArray/\xs.length<=sizeLine:=by
 rcases h with h | ⟨o,its,n,hk,hc,hs,hz,r⟩
 ·obtain⟨z,its,r,p⟩:=h.ok I.hok
  exact⟨its,r,p,z⟩
 ·refine⟨its.toList,r,⟨o,I.kIn a o hk,hc,n,by simpa using hs⟩,?_⟩
  have e:=r.length
  simp only[qj]at e
  lia
theorem Inv.list_inj(I:Inv X pins σ H s)(h:SqL X.K H a xs)(h':SqL X.K H a ys):xs=ys:=by
 obtain⟨its,r,⟨o,n,e,_,_,d⟩,_⟩:=I.list h
 obtain⟨its',r',⟨o',n',e',_,_,d'⟩,_⟩:=I.list h'
 rw[e]at e';cases e'
 rw[d]at d'
 injection d' with d1 _
 have:its=its':=by simpa using congrArg Array.toList d1
 subst this
 exact r.inj r'
theorem Inv.tuple_inj(I:Inv X pins σ H s)(h:SqT X.K H a xs)(h':SqT X.K H a ys):xs=ys:=by
 obtain⟨its,r,⟨o,e,_,n,d⟩,_⟩:=I.tuple h
 obtain⟨its',r',⟨o',e',_,n',d'⟩,_⟩:=I.tuple h'
 rw[e]at e';cases e'
 rw[d]at d'
 injection d' with d1 _
 have:its=its':=by simpa using congrArg Array.toList d1
 subst this
 exact r.inj r'
end
abbrev Cx.wish(X:Cx)(E:Value->Shared->Prop):Cx:={ X with xe:=E }
abbrev Cx.nox(X:Cx):Cx:=X.wish fun _ _=>False
theorem Cx.Ok.wish{X:Cx}(ok:X.Ok)(E:Value->Shared->Prop):(X.wish E).Ok:=
 ⟨ok.mod,ok.kind,ok.glob,ok.blt,ok.above,ok.inj,ok.has,ok.cab,ok.hd,ok.frames,ok.stk,ok.exf,ok.bs,ok.bsz,ok.noex,ok.exfs,ok.funs,ok.frf⟩
theorem Cx.Ok.unwish{X:Cx}{E:Value->Shared->Prop}(ok:(X.wish E).Ok):X.Ok:=
 ⟨ok.mod,ok.kind,ok.glob,ok.blt,ok.above,ok.inj,ok.has,ok.cab,ok.hd,ok.frames,ok.stk,ok.exf,ok.bs,ok.bsz,ok.noex,ok.exfs,ok.funs,ok.frf⟩
section
variable {X:Cx} {pins:List (Addr × Obj)} {σ:St} {H:Hp} {s:Shared} {E:Value->Shared->Prop} {st:Stmt} {rest:List Stmt} {t u:TS} {e:Expr} {te:TE} {pos:Pos}
theorem Inv.wish(I:Inv X pins σ H s)(E:Value->Shared->Prop):Inv (X.wish E) pins σ H s:=⟨I.ok.wish E,I.os,I.bare,I.base,I.loc,I.cell,I.free,I.freeC,I.pin,I.hok,I.len⟩
theorem Inv.unwish(I:Inv (X.wish E) pins σ H s):Inv X pins σ H s:=⟨I.ok.unwish,I.os,I.bare,I.base,I.loc,I.cell,I.free,I.freeC,I.pin,I.hok,I.len⟩
theorem SP.unwish{D:Ends}{f:Flow}{s':Shared}(h:SP (X.wish E) pins D f s'):SP X pins D f s':=by
 cases f with
 | next=>obtain⟨σ',H',I,q⟩:=h;exact⟨σ',H',I.unwish,q⟩
 | brk=>obtain⟨σ',H',I,q⟩:=h;exact⟨σ',H',I.unwish,q⟩
 | cont=>obtain⟨σ',H',I,q⟩:=h;exact⟨σ',H',I.unwish,q⟩
 | ret u=>obtain⟨v,σ',H',I,r,q⟩:=h;exact⟨v,σ',H',I.unwish,r,q⟩
theorem PSs.nox{st:List Stmt}{t:TS}(h:PSs X.nox st t):PSs X st t:=fun pins s σ H D I hw=>
 wpAny_mono (h pins s σ H D (I.wish _) hw) (fun _ _ q=>q.unwish) fun _ _ z=>False.elim z
def y01:TS:=fun D σ H=>D.nx σ H
def tSeq(t u:TS):TS:=fun D σ H=>t { D with nx:=u D } σ H
theorem Ypi:PSs X [] y01:=fun _ _ σ H _ I h=>wpAny_execs_nil ⟨σ,H,I,h⟩
theorem Yf6(h1:PS X st t)(h2:PSs X rest u):PSs X (st::rest) (tSeq t u):=by
 intro pins s σ H D I h
 refine wpAny_execs_cons (thn (h1 pins s σ H { D with nx:=u D } I h) fun f s1 q=>?_)
 cases f with
 | next=>
   obtain⟨σ',H',I',q⟩:=q
   exact h2 pins s1 σ' H' D I' q
 | ret v=>exact q
 | brk=>exact q
 | cont=>exact q
theorem Ymm(h1:PS X st t):PSs X [st] t:=by
 intro pins s σ H D I h
 refine wpAny_execs_cons (thn (h1 pins s σ H D I h) fun f s1 q=>?_)
 cases f with
 | next=>exact wpAny_execs_nil q
 | ret v=>exact q
 | brk=>exact q
 | cont=>exact q
theorem Inv.quiet{pins:List (Addr × Obj)}{σ:St}{H:Hp}{s:Shared}(I:Inv X pins σ H s):interactive X.env=false:=by simp[interactive,I.ok.kind]
def y02(te:TE):TS:=fun D σ H=>te σ H fun _ H1=>D.nx σ H1
theorem Ymn(he:PE X e te)(hs:swapsWith e none pos.line X.env=pure false:=by rfl):PS X (.Expr e pos) (y02 te):=by
 intro pins s σ H D I h
 refine wpAny_Expr_any (thn (he pins s σ H _ I h) fun v s1 hx_=>?_) I.quiet hs
 obtain⟨x,H1,I1,r1,q1⟩:=hx_
 exact⟨σ,H1,I1,q1⟩
def tRet(te:TE):TS:=fun D σ H=>te σ H D.rt
theorem Ypj(he:PE X e te):PS X (.Return (some e) pos) (tRet te):=by
 intro pins s σ H D I h
 refine wpAny_Return_some (thn (he pins s σ H _ I h) fun v s1 hx_=>?_)
 obtain⟨x,H1,I1,r1,q1⟩:=hx_
 exact⟨x,σ,H1,I1,r1,q1⟩
def tIfS(c:TT)(t u:TS):TS:=fun D σ H=>c σ H fun b H1=>if b=true then t D σ H1 else u D σ H1
theorem Yvo{c:Expr}{a b:List Stmt}{tc:TT}(hc:PT X c tc)(ha:PSs X a t)(hb:PSs X b u):PS X (.If c a b pos) (tIfS tc t u):=by
 intro pins s σ H D I h
 refine wpAny_If (thn (hc pins s σ H _ I h) fun d s1 hx_=>?_)
 obtain⟨H1,I1,q1⟩:=hx_
 cases d with
 | true=>exact ha pins s1 σ H1 D I1 q1
 | false=>exact hb pins s1 σ H1 D I1 q1
end
abbrev TG:=V->St->Hp->(St->Hp->Prop)->Prop
abbrev TGs:=List V->St->Hp->(St->Hp->Prop)->Prop
def PG(X:Cx)(target:Expr)(t:TG):Prop:=
 ∀(pins:List (Addr × Obj)) (s:Shared) (σ:St) (H:Hp) (v:V) (u:Value) (Q:St->Hp->Prop),Inv X pins σ H s->RelV v u->t v σ H Q->
  wpAny (model X.prog X.w) X.A (assign target X.env u) (fun _ s'=>∃σ' H',Inv X pins σ' H' s'/\Q σ' H') X.xe s
def PGs(X:Cx)(ts:List Expr)(t:TGs):Prop:=
 ∀(pins:List (Addr × Obj)) (s:Shared) (σ:St) (H:Hp) (vs:List V) (us:List Value) (Q:St->Hp->Prop),Inv X pins σ H s->Vals vs us->t vs σ H Q->
  wpAny (model X.prog X.w) X.A (assignInOrder ((assignEach ts X.env).map (·.2)) us) (fun _ s'=>∃σ' H',Inv X pins σ' H' s'/\Q σ' H') X.xe s
section
variable {X:Cx} {pos:Pos}
def Ysl(i:Nat):TG:=fun v σ H Q=>Q (σ.set i (some v)) H
theorem Ymo{i:Nat}{x:Str}(hN:X.N.Nodup)(hi:X.N[i]?=some x)(hx:Loc X.env.scope x)(hf:X.fn x=true\/X.env.scope.names.lookup x=some .local:=by first | exact .inl rfl | exact .inr rfl | assumption):PG X (.Name x pos) (Ysl i):=by
 intro pins s σ H v u Q I r h
 exact wpAny_assign_Name (Ynt I hN hi hx r (fun s' I'=>⟨_,H,I',h⟩) hf)
def gNil:TGs:=fun vs σ H Q=>vs=[]/\Q σ H
def y03(t:TG)(u:TGs):TGs:=fun vs σ H Q=>∃v r,vs=v::r/\t v σ H fun σ' H'=>u r σ' H' Q
theorem Yvp:PGs X [] gNil:=by
 intro pins s σ H vs us Q I r h
 obtain⟨e,h⟩:=h
 subst e
 cases r
 exact assignInOrder_nil ⟨σ,H,I,h⟩
theorem Ynv{e:Expr}{es:List Expr}{t:TG}{u:TGs}(h1:PG X e t)(h2:PGs X es u)
 (hs:(assignEach (e::es) X.env).map (·.2)=assign e X.env::(assignEach es X.env).map (·.2):=by rfl):PGs X (e::es) (y03 t u):=by
 intro pins s σ H vs us Q I r h
 obtain⟨v,vr,e1,h⟩:=h
 subst e1
 cases r with
 | cons r rr=>
   rw[hs]
   refine assignInOrder_cons (thn (h1 pins s σ H _ _ _ I r h) fun _ s1 hx_=>?_)
   obtain⟨σ1,H1,I1,q1⟩:=hx_
   exact h2 pins s1 σ1 H1 _ _ Q I1 rr q1
def gTup(K:W.Frag)(n:Nat)(t:TGs):TG:=fun v σ H Q=>∃a xs,v=.ref a/\SqT K H a xs/\xs.length=n/\t xs σ H Q
theorem Yx6{es:List Expr}{k:Nat}{t:TGs}{n:Nat}(hc:X.calm=true)(h:PGs X es t)
 (hn:(assignEach es X.env).length=n:=by rfl) (hst:(assignEach es X.env).findIdx? (·.1)=none:=by rfl):PG X (.Tuple es k pos) (gTup X.K n t):=by
 intro pins s σ H v u Q I r hw
 obtain⟨a,xs,e1,hq,hl,hw⟩:=hw
 subst e1
 cases r
 obtain⟨its,rv,ht,hz⟩:=I.tuple hq
 refine assign_Tuple_tuple (I.ok.hd hc) ht (by simp[hn,<-hl,rv.length]) hst fun h' hx=>?_
 have I1:Inv X pins σ H { s with heap:=h' }:=I.kept (t':=s.toks) fun b o e=>hx b o (qm (ql e)) e
 exact h pins _ σ H xs _ Q I1 (by simpa using rv) hw
def tAsg(te:TE)(g:TG):TS:=fun D σ H=>te σ H fun x H1=>g x σ H1 D.nx
theorem Yld{i:Nat}{x:Str}{e:Expr}{te:TE}{pos':Pos}(hN:X.N.Nodup)(hi:X.N[i]?=some x)(hx:Loc X.env.scope x)(he:PE X e te)(hs:swapsWith e (some (.Name x pos')) pos.line X.env=pure false:=by rfl)(hf:X.fn x=true\/X.env.scope.names.lookup x=some .local:=by first | exact .inl rfl | exact .inr rfl | assumption) :
 PS X (.Assign [.Name x pos'] e pos) (tAsg te (Ysl i)):=by
 intro pins s σ H D I h
 refine wpAny_Assign_Name (thn (he pins s σ H _ I h) fun v s1 hx_=>?_) hs
 obtain⟨y,H1,I1,r1,q1⟩:=hx_
 exact Ynt I1 hN hi hx r1 (fun s2 I2=>⟨_,H1,I2,q1⟩) hf
end
structure It where
 go:Nat->Hp->Prop
 yld:Nat->Hp->V->Hp->Prop
 stop:Nat->Hp->Prop
def FpOk(X:Cx)(pins:List (Addr × Obj))(H:Hp)(b:Addr):Prop:=
 H b=none/\b≠X.env.locals/\b∉X.fs/\(b∈X.ex\/X.s₀.heap.objs.size<=b)/\(∀x c,X.env.cells.lookup x=some c->c≠b)/\∀p∈X.pn++pins,p.1≠b
theorem Inv.fpOk{X:Cx}{pins:List (Addr × Obj)}{σ:St}{H H':Hp}{s:Shared}{b:Addr}(I:Inv X pins σ H s)(hb:s.heap.objs.size<=b)(hn:H' b=none):FpOk X pins H' b:=by
 refine⟨hn,Nat.ne_of_gt (Qe I.lt hb),I.nofs hb,.inr (qx I.sz hb),fun x c e z=>?_,fun p hp z=>?_⟩
 ·obtain⟨v,q⟩:=I.cell x c e
  exact absurd (Qe q.lt (by rw[z];exact hb)) (Nat.lt_irrefl _)
 ·exact absurd (Qe (ql (I.pin p hp).1) (by rw[z];exact hb)) (Nat.lt_irrefl _)
structure Turn(P:Program)(w:World)(K:W.Frag)(tg:Expr)(J:It)(fp:List Addr)(it:Addr)(tn:Nat->Heap->Prop):Prop where
 mem:it∈fp
 obj:∀i h,tn i h->∀b∈fp,∃o,h.get? b=some o/\∀v,o.data≠.cell v
 keep:∀i h h',tn i h->(∀b∈fp,∀o,h.get? b=some o->h'.get? b=some o)->tn i h'
 item:∀(X:Cx),X.prog=P->X.w=w->X.K=K->X.calm=true->∀(i:Nat) (pins:List (Addr × Obj)) (s:Shared) (σ:St) (H:Hp) (E:Value->Shared->Prop),Inv X pins σ H s->(∀b∈fp,FpOk X pins H b)->tn i s.heap->J.go i H->
  wpAny (model P w) X.A (pyNext (.ref it)) (fun r s1=>∃u,r=some u/\
   wpAny (model P w) X.A (letOwnedTupleGo tg (.ref it) u) (fun _ s2=>∃x H',Inv X pins σ H' s2/\RelV x u/\J.yld i H x H'/\tn (i+1) s2.heap/\∀b∈fp,H' b=none) E s1) E s
 done:∀(X:Cx),X.prog=P->X.w=w->X.K=K->X.calm=true->∀(i:Nat) (pins:List (Addr × Obj)) (s:Shared) (σ:St) (H:Hp) (E:Value->Shared->Prop),Inv X pins σ H s->(∀b∈fp,FpOk X pins H b)->tn i s.heap->J.stop i H->
  wpAny (model P w) X.A (pyNext (.ref it)) (fun r s1=>r=none/\Inv X pins σ H s1) E s
 self:∀(A:Around) (i:Nat) (s:Shared) (Q:Value->Shared->Prop) (E:Value->Shared->Prop),tn i s.heap->Q (.ref it) s->wpAny (model P w) A (pyIter (.ref it)) Q E s
abbrev TI:=St->Hp->(It->Hp->Prop)->Prop
def PIE(X:Cx)(pins:List (Addr × Obj))(σ:St)(tg:Expr)(R:It->Hp->Prop)(itv:Value)(s2:Shared):Prop:=
 ∃(it:Addr) (fp:List Addr) (tn:Nat->Heap->Prop) (J:It) (H':Hp),itv=.ref it/\Inv X pins σ H' s2/\Turn X.prog X.w X.K tg J fp it tn/\tn 0 s2.heap/\(∀b∈fp,FpOk X pins H' b)/\R J H'
def PI(X:Cx)(tg iter:Expr)(wi:TI):Prop:=
 ∀(pins:List (Addr × Obj)) (s:Shared) (σ:St) (H:Hp) (R:It->Hp->Prop),Inv X pins σ H s->wi σ H R->
  wpAny (model X.prog X.w) X.A (eval iter X.env) (fun v s1=>wpAny (model X.prog X.w) X.A (pyIter v) (PIE X pins σ tg R) X.xe s1) X.xe s
theorem Ysm{M:Model}{A:Around}{E:Value->Shared->Prop}{s:Shared}{tg:Expr}{it:Addr}{u:Value}{o:Obj}{n:String}{vs:Array Value}{Q:Unit->Shared->Prop}(ho:s.heap.get? it=some o)(hc:o.cls=.type n)(hd:o.data=.fields vs)
 (hn:["enumerate","zip","dict_itemiterator","dict_reverseitemiterator","odict_iterator","itertools.zip_longest","itertools.pairwise"].contains n=false) (hQ:Q () s):wpAny M A (letOwnedTupleGo tg (.ref it) u) Q E s:=by
 unfold letOwnedTupleGo
 cases tg<;>first
  | exact wpAny_pure hQ
  | (cases u<;>first
   | exact wpAny_pure hQ
   | (refine wpAny_bind (wpAny_load ho ?_)
      rw[hc,hd]
      show wpAny M A (if (["enumerate","zip","dict_itemiterator","dict_reverseitemiterator","odict_iterator","itertools.zip_longest","itertools.pairwise"].contains n&&vs[0]?==some (rawInt _))=true then _ else _) Q E s
      rw[if_neg (by intro h;rw[hn,Bool.false_and]at h;cases h)]
      exact wpAny_pure hQ))
def Itl(K:W.Frag)(a:Addr):It:=
 ⟨fun i H=>∃xs x,SqL K H a xs/\xs[i]?=some x,fun i H x H'=>H'=H/\∀xs,SqL K H a xs->xs[i]?=some x,fun i H=>∃xs,SqL K H a xs/\xs.length<=i⟩
def Itt(K:W.Frag)(a:Addr):It:=
 ⟨fun i H=>∃xs x,SqT K H a xs/\xs[i]?=some x,fun i H x H'=>H'=H/\∀xs,SqT K H a xs->xs[i]?=some x,fun i H=>∃xs,SqT K H a xs/\xs.length<=i⟩
def Itr(lo:Int)(n:Nat):It:=⟨fun i _=>i < n,fun i H x H'=>H'=H/\x=.int (lo+i),fun i _=>n<=i⟩
theorem Ypk{P:Program}{w:World}{K:W.Frag}{tg:Expr}(a it:Addr):Turn P w K tg (Itl K a) [it] it (fun i h=>h.IsListIter it a i) where
 mem:=by simp
 obj:=fun i h st b hb=>by
  have e:b=it:=by simpa using hb
  subst e
  obtain⟨o,e,c,d⟩:=st
  exact⟨o,e,fun v z=>by rw[d]at z;cases z⟩
 keep:=fun i h h' st k=>st.at fun o e=>k it (by simp) o e
 item:=by
  intro X hP hw hK hc i pins s σ H E I hf st hg
  subst hP hw hK
  obtain⟨xs,x,hq,hx⟩:=hg
  obtain⟨its,rv,p,hz⟩:=I.list hq
  obtain⟨u,hu,ru⟩:=rv.get hx
  obtain⟨f0,f1,f2,f3,f4,f5⟩:=hf it (by simp)
  refine wpAny_pyNext_list_item st p.isList (x:=u) (by simpa using hu) fun h' st' sb=>?_
  have I1:Inv X pins σ H { s with heap:=h' }:=I.turned (t':=s.toks) (fun b o hb e=>(sb.2 b hb).trans e) f0 f1 f3 f4 f5
  obtain⟨o,e,c,d⟩:=id st'
  exact⟨u,rfl,Ysm (s:={ s with heap:=h' }) e c d (by decide) ⟨x,H,I1,ru,⟨rfl,fun ys hy=>by rw[I.list_inj hy hq];exact hx⟩,st',fun b hb=>(hf b hb).1⟩⟩
 done:=by
  intro X hP hw hK hc i pins s σ H E I hf st hg
  subst hP hw hK
  obtain⟨xs,hq,hx⟩:=hg
  obtain⟨its,rv,p,hz⟩:=I.list hq
  obtain⟨f0,f1,f2,f3,f4,f5⟩:=hf it (by simp)
  have hl:=rv.length
  exact wpAny_pyNext_list_end (I.ok.hd hc) st p.isList (by simp;lia) fun h' eb=>⟨rfl,I.turned (t':=s.toks) (fun b o hb e=>eb b o hb e) f0 f1 f3 f4 f5⟩
 self:=fun _ _ _ _ _ st h=>wpAny_pyIter_listiter st h
theorem Yjs{P:Program}{w:World}{K:W.Frag}{tg:Expr}(a it:Addr):Turn P w K tg (Itt K a) [it] it (fun i h=>h.IsTupleIter it a i) where
 mem:=by simp
 obj:=fun i h st b hb=>by
  have e:b=it:=by simpa using hb
  subst e
  obtain⟨o,e,c,d⟩:=st
  exact⟨o,e,fun v z=>by rw[d]at z;cases z⟩
 keep:=fun i h h' st k=>st.at fun o e=>k it (by simp) o e
 item:=by
  intro X hP hw hK hc i pins s σ H E I hf st hg
  subst hP hw hK
  obtain⟨xs,x,hq,hx⟩:=hg
  obtain⟨its,rv,p,hz⟩:=I.tuple hq
  obtain⟨u,hu,ru⟩:=rv.get hx
  obtain⟨f0,f1,f2,f3,f4,f5⟩:=hf it (by simp)
  refine wpAny_pyNext_tuple_item st (show s.heap.IsTuple a its.toArray from p) (x:=u) (by simpa using hu) fun h' st' sb=>?_
  have I1:Inv X pins σ H { s with heap:=h' }:=I.turned (t':=s.toks) (fun b o hb e=>(sb.2 b hb).trans e) f0 f1 f3 f4 f5
  obtain⟨o,e,c,d⟩:=id st'
  exact⟨u,rfl,Ysm (s:={ s with heap:=h' }) e c d (by decide) ⟨x,H,I1,ru,⟨rfl,fun ys hy=>by rw[I.tuple_inj hy hq];exact hx⟩,st',fun b hb=>(hf b hb).1⟩⟩
 done:=by
  intro X hP hw hK hc i pins s σ H E I hf st hg
  subst hP hw hK
  obtain⟨xs,hq,hx⟩:=hg
  obtain⟨its,rv,p,hz⟩:=I.tuple hq
  obtain⟨f0,f1,f2,f3,f4,f5⟩:=hf it (by simp)
  have hl:=rv.length
  exact wpAny_pyNext_tuple_end (I.ok.hd hc) st (show s.heap.IsTuple a its.toArray from p) (by simp;lia) fun h' eb=>⟨rfl,I.turned (t':=s.toks) (fun b o hb e=>eb b o hb e) f0 f1 f3 f4 f5⟩
 self:=fun _ _ _ _ _ st h=>wpAny_pyIter_tupleiter st h
theorem Yos{P:Program}{w:World}{K:W.Frag}{tg:Expr}(it:Addr)(lo:Int)(n:Nat):Turn P w K tg (Itr lo n) [it] it (fun i h=>IsRangeIter h it (lo+(i:Nat) * 1) ((n:Int) - (i:Nat)) 1) where
 mem:=by simp
 obj:=fun i h st b hb=>by
  have e:b=it:=by simpa using hb
  subst e
  exact⟨_,st,fun v z=>by
   have z':Data.fields _=Data.cell v:=z
   cases z'⟩
 keep:=fun i h h' st k=>k it (by simp) _ st
 item:=by
  intro X hP hw hK hc i pins s σ H E I hf st hg
  subst hP hw hK
  obtain⟨f0,f1,f2,f3,f4,f5⟩:=hf it (by simp)
  have W:=Walks.range (prog:=X.prog) (w:=X.w) (I.ok.hd hc) it lo 1 n
  refine W.item i s _ _ hg st fun v h' tk hv st' kk=>?_
  obtain⟨t,rfl⟩:=hv
  have I1:Inv X pins σ H { s with heap:=h',toks:=tk }:=I.turned (fun b o hb e=>kk b o (by simpa using hb) e) f0 f1 f3 f4 f5
  refine⟨_,rfl,Ysm (s:={ s with heap:=h',toks:=tk }) (n:="range_iterator") st' rfl rfl (by decide) ⟨.int (lo+i),H,I1,⟨t,?_⟩,⟨rfl,rfl⟩,st',fun b hb=>(hf b hb).1⟩⟩
  rw[Int.mul_one]
 done:=by
  intro X hP hw hK hc i pins s σ H E I hf st hg
  subst hP hw hK
  obtain⟨f0,f1,f2,f3,f4,f5⟩:=hf it (by simp)
  exact wpAny_pyNext_range_end (I.ok.hd hc) st (by have:n<=i:=hg;lia) fun h' eb=>⟨rfl,I.turned (t':=s.toks) (fun b o hb e=>eb b o hb e) f0 f1 f3 f4 f5⟩
 self:=fun _ _ _ _ _ st h=>wpAny_pyIter_rangeiter st h
end L2
namespace L2
open PySem PySem.Spec PyProof.Rows
section
variable {X:Cx} {tg:Expr}
def iTup(K:W.Frag)(tl:TE):TI:=fun σ H R=>tl σ H fun x H1=>∃a,x=.ref a/\(∃xs,SqT K H1 a xs)/\R (Itt K a) H1
theorem Yx7{l:Expr}{tl:TE}(hl:PE X l tl):PI X tg l (iTup X.K tl):=by
 intro pins s σ H R I h
 refine thn (hl pins s σ H _ I h) fun v s1 hx_=>?_
 obtain⟨x,H1,I1,r1,q1⟩:=hx_
 obtain⟨a,e,⟨xs,hq⟩,q⟩:=q1
 subst e
 cases r1
 obtain⟨its,rv,p,hz⟩:=I1.tuple hq
 refine wpAny_pyIter_tuple (show s1.heap.IsTuple a its.toArray from p) ?_
 refine⟨s1.heap.objs.size,[s1.heap.objs.size],_,_,H1,rfl,I1.kept (t':=s1.toks) fun b o e=>qe _ e,Yjs a _,⟨_,qp _ rfl,rfl,rfl⟩,fun b hb=>?_,q⟩
 have e:b=s1.heap.objs.size:=by simpa using hb
 subst e
 exact I1.fpOk (qu _) (I1.hok.fresh (qu _))
theorem Ysn{pins:List (Addr × Obj)}{σ:St}{H:Hp}{s:Shared}{R:It->Hp->Prop}{E:Value->Shared->Prop}{lo hi:Int}{t u v:Tok}{tk:Nat}(I:Inv X pins σ H s)(h1:-(2 ^ 62)<=lo)(h2:lo < 2 ^ 62)(h3:-(2 ^ 62)<=hi)(h4:hi < 2 ^ 62)
 (q:R (Itr lo (hi - lo).toNat) H):wpAny (model X.prog X.w) X.A (pyIter (.ref s.heap.objs.size)) (PIE X pins σ tg R) E { s with heap:=s.heap.push { cls:=.type "range",data:=.fields #[.int lo t,.int hi u,.int 1 v] },toks:=tk }:=by
 refine wpAny_pyIter_range (IsRange.new ..) (small_one h1 h2 h3 h4) ?_
 have I1:Inv X pins σ H { s with heap:=s.heap.push { cls:=.type "range",data:=.fields #[.int lo t,.int hi u,.int 1 v] },toks:=tk }:=I.kept fun b o e=>qe _ e
 refine⟨(s.heap.push { cls:=.type "range",data:=.fields #[.int lo t,.int hi u,.int 1 v] }).objs.size,[(s.heap.push { cls:=.type "range",data:=.fields #[.int lo t,.int hi u,.int 1 v] }).objs.size],_,_,H,rfl,
  I1.kept (t':=tk) fun b o e=>qe _ e,Yos _ lo (hi - lo).toNat,?_,fun b hb=>?_,q⟩
 ·have e1:lo+((0:Nat):Int) * 1=lo:=by simp
  have e2:(((hi - lo).toNat:Nat):Int) - ((0:Nat):Int)=Builtin.Range.rangeSize lo hi 1:=by rw[rangeSize_one];split<;>lia
  show IsRangeIter _ _ (lo+((0:Nat):Int) * 1) ((((hi - lo).toNat:Nat):Int) - ((0:Nat):Int)) 1
  rw[e1,e2]
  exact qp _ rfl
 ·have e:b=(s.heap.push { cls:=.type "range",data:=.fields #[.int lo t,.int hi u,.int 1 v] }).objs.size:=by simpa using hb
  subst e
  exact I1.fpOk (qu _) (I1.hok.fresh (qu _))
def Yx8(ta:TA):TI:=fun σ H R=>ta σ H fun vs H1=>∃j:Int,vs=[.int j]/\-(2 ^ 62)<=j/\j < 2 ^ 62/\R (Itr 0 j.toNat) H1
theorem Yh1{a:Expr}{ta:TA}{p pos:Pos}(hg:Gl X "range")(hm:X.mg "range"=none)(ha:PA X [a] ta)(hs:starEach [a] X.env=[(false,eval a X.env)]:=by rfl):PI X tg (.Call (.Name "range" p) [a] [] pos) (Yx8 ta):=by
 intro pins s σ H R I h
 refine Call_ (Yh0 I hg hm boot_range (PyProof.Rows.callWith_type1 (thn (ha pos pins s σ H _ I h) fun us s1 hx_=>?_) hs rfl))
 obtain⟨vs,H1,I1,r1,q1⟩:=hx_
 obtain⟨j,e,q1,q2,q⟩:=q1
 subst e
 cases r1 with
 | cons r rr=>
   cases rr
   obtain⟨t,rfl⟩:=r
   exact call_range_1 (Ysn I1 (by lia) (by lia) q1 q2 (by simpa using q))
def tFor(wi:TI)(g:TG)(tb:TS):TS:=fun D σ H=>wi σ H fun J H1=>∃W:Nat->Nat->St->Hp->Prop,(∃m,W 0 m σ H1)/\∀i m σ H,W i m σ H->
 (J.stop i H/\D.nx σ H)\/(J.go i H/\∃N:St->Hp->Prop,(∀σ' H',N σ' H'->∃m',m' < m/\W (i+1) m' σ' H')/\∀x H',J.yld i H x H'->g x σ H' fun σ2 H2=>tb { D with nx:=N,ct:=N,bk:=D.nx } σ2 H2)
def Yle(fp:List Addr)(h:Heap):List (Addr × Obj):=fp.filterMap fun b=>(h.get? b).map fun o=>(b,o)
theorem Yeu{fp:List Addr}{h:Heap}{b:Addr}{o:Obj}(hb:b∈fp)(e:h.get? b=some o):(b,o)∈Yle fp h:=List.mem_filterMap.mpr ⟨b,hb,by rw[e];rfl⟩
theorem Ypl{fp:List Addr}{h:Heap}{p:Addr × Obj}(hp:p∈Yle fp h):p.1∈fp/\h.get? p.1=some p.2:=by
 obtain⟨b,hb,e⟩:=List.mem_filterMap.mp hp
 cases q:h.get? b with
 | none=>rw[q]at e;cases e
 | some o=>
   rw[q]at e
   have e':(b,o)=p:=Option.some.inj e
   subst e'
   exact⟨hb,q⟩
theorem Inv.pinned{pins:List (Addr × Obj)}{σ:St}{H:Hp}{s:Shared}{fp:List Addr}(I:Inv X pins σ H s)(hf:∀b∈fp,FpOk X pins H b)(ho:∀b∈fp,∃o,s.heap.get? b=some o/\∀v,o.data≠.cell v):Inv X (pins++Yle fp s.heap) σ H s:=
 I.pins_of fun p hp=>(qv hp).elim (fun z=>I.pin p (Qh _ z)) fun z=>by
  obtain⟨hb,e⟩:=Ypl z
  obtain⟨f0,f1,f2,_⟩:=hf p.1 hb
  obtain⟨o,e',d⟩:=ho p.1 hb
  rw[e]at e';cases e'
  exact⟨e,f0,f1,f2,d⟩
theorem Inv.unpinned{pins pl:List (Addr × Obj)}{σ:St}{H:Hp}{s:Shared}(I:Inv X (pins++pl) σ H s):Inv X pins σ H s:=I.pins_of fun p hp=>I.pin p (Qh _ (List.mem_append_left _ hp))
theorem Ypm{iter:Expr}{body:List Stmt}{wi:TI}{g:TG}{tb:TS}{pos:Pos}(hp:PassesOwn (model X.prog X.w) X.A X.env X.xe)(hc:X.calm=true)(hi:PI X tg iter wi)(hg:PG X tg g)(hb:PSs X body tb)
 (hs:∀x,foldedSetIterable iter X.env x=pure x:=by intro _;rfl):PS X (.For tg iter body [] pos) (tFor wi g tb):=by
 intro pins s σ H D I h
 refine wpAny_For (thn (hi pins s σ H _ I h) fun v s1 h1=>thn h1 fun itv s2 h2=>?_) hs
 obtain⟨it,fp,tn,J,H2,e,I2,T,st2,f2,W,⟨m0,w0⟩,turn⟩:=h2
 subst e
 have stat:∀{H':Hp},(∀b∈fp,H' b=none)->∀b∈fp,FpOk X pins H' b:=fun hn b hb=>⟨hn b hb,(f2 b hb).2⟩
 refine codeAny_forLoop_any (fun n s'=>∃i σ' H',Inv X pins σ' H' s'/\tn i s'.heap/\(∀b∈fp,H' b=none)/\W i n σ' H') ?_ m0 ⟨0,σ,H2,I2,st2,fun b hb=>(f2 b hb).1,w0⟩
 rintro n s3 ⟨i,σ3,H3,I3,st3,fr3,w3⟩
 rcases turn i n σ3 H3 w3 with⟨stop,qn⟩ | ⟨go,N,hN,step⟩
 ·refine wpAny_passesOwn hp (thn (T.done X rfl rfl rfl hc i pins s3 σ3 H3 X.xe I3 (stat fr3) st3 stop) fun r s4 hx_=>?_)
  obtain⟨hr,I4⟩:=hx_
  subst hr
  exact wpAny_execs_nil ⟨σ3,H3,I4,qn⟩
 ·refine wpAny_passesOwn hp (thn (T.item X rfl rfl rfl hc i pins s3 σ3 H3 X.xe I3 (stat fr3) st3 go) fun r s4 hx_=>?_)
  obtain⟨u,hr,h4⟩:=hx_
  subst hr
  refine wpAny_passesOwn hp (thn h4 fun _ s5 hx_=>?_)
  obtain⟨x,H5,I5,r5,y5,st5,fr5⟩:=hx_
  have I5':=I5.pinned (stat fr5) (T.obj _ _ st5)
  refine wpAny_passesOwn hp (thn (hg _ s5 σ3 H5 x u _ I5' r5 (step x H5 y5)) fun _ s6 hx_=>?_)
  obtain⟨σ6,H6,I6,q6⟩:=hx_
  refine wpAny_passesOwn hp (thn (hb _ s6 σ6 H6 _ I6 q6) fun f s7 q7=>?_)
  have again:∀{σ7:St} {H7:Hp},Inv X (pins++Yle fp s5.heap) σ7 H7 s7->N σ7 H7->∃m,m < n/\∃i σ' H',Inv X pins σ' H' s7/\tn i s7.heap/\(∀b∈fp,H' b=none)/\W i m σ' H':=fun {σ7 H7} I7 n7=>by
   obtain⟨m',hm,w7⟩:=hN σ7 H7 n7
   refine⟨m',hm,i+1,σ7,H7,I7.unpinned,T.keep _ _ _ st5 fun b hb o e=>(I7.pin (b,o) (Qh _ (Qh _ (Yeu hb e)))).1,fun b hb=>?_,w7⟩
   obtain⟨o,e,d⟩:=T.obj _ _ st5 b hb
   exact(I7.pin (b,o) (Qh _ (Qh _ (Yeu hb e)))).2.1
  cases f with
  | next=>obtain⟨σ7,H7,I7,n7⟩:=q7;exact again I7 n7
  | cont=>obtain⟨σ7,H7,I7,n7⟩:=q7;exact again I7 n7
  | brk=>obtain⟨σ7,H7,I7,q7⟩:=q7;exact⟨σ7,H7,I7.unpinned,q7⟩
  | ret v=>obtain⟨x7,σ7,H7,I7,r7,q7⟩:=q7;exact⟨x7,σ7,H7,I7.unpinned,r7,q7⟩
end
end L2
namespace L2
open PySem PySem.Spec PyProof.Rows
abbrev R2:=V->V->Hp->VK->Prop
def OpR(X:Cx)(f:Value->Value->Sem Value)(r:R2):Prop:=
 ∀(pins:List (Addr × Obj)) (s:Shared) (σ:St) (H:Hp) (x y:V) (v u:Value) (Q:VK),Inv X pins σ H s->RelV x v->RelV y u->r x y H Q->
  wpAny (model X.prog X.w) X.A (f v u) (EP X pins σ Q) X.xe s
def Yf7(X:Cx)(f:Value)(r:List V->Hp->VK->Prop):Prop:=
 ∀(pins:List (Addr × Obj)) (s:Shared) (σ:St) (H:Hp) (xs:List V) (us:List Value) (Q:VK),Inv X pins σ H s->Vals xs us->r xs H Q->
  wpAny (model X.prog X.w) X.A (call f us) (EP X pins σ Q) X.xe s
def TruR(X:Cx)(r:V->Hp->(Bool->Hp->Prop)->Prop):Prop:=
 ∀(pins:List (Addr × Obj)) (s:Shared) (σ:St) (H:Hp) (x:V) (v:Value) (Q:Bool->Hp->Prop),Inv X pins σ H s->RelV x v->r x H Q->
  wpAny (model X.prog X.w) X.A (truthy v) (TP X pins σ Q) X.xe s
def tOp(r:R2)(ta tb:TE):TE:=fun σ H Q=>ta σ H fun x H1=>tb σ H1 fun y H2=>r x y H2 Q
def rI(C:Int->Int->Prop)(g:Int->Int->V):R2:=fun x y H Q=>∃i j,x=.int i/\y=.int j/\C i j/\Q (g i j) H
def rI0(g:Int->Int->V):R2:=fun x y H Q=>∃i j,x=.int i/\y=.int j/\Q (g i j) H
section
variable {X:Cx} {a b c:Expr} {ta tb tc:TE} {pos:Pos}
theorem binT(ha:PE X a ta)(hb:PE X b tb){pins:List (Addr × Obj)}{s:Shared}{σ:St}{H:Hp}{R:V->V->Hp->Prop}(I:Inv X pins σ H s)
 (h:ta σ H fun x H1=>tb σ H1 fun y H2=>R x y H2) {Q:Value->Shared->Prop} {f:Value->Value->Sem Value}
 (hf:∀v u s2 x y H2,Inv X pins σ H2 s2->RelV x v->RelV y u->R x y H2->wpAny (model X.prog X.w) X.A (f v u) Q X.xe s2) :
 wpAny (model X.prog X.w) X.A (eval a X.env) (fun v s₁=>wpAny (model X.prog X.w) X.A (eval b X.env) (fun u s₂=>wpAny (model X.prog X.w) X.A (f v u) Q X.xe s₂) X.xe s₁) X.xe s:=by
 refine thn (ha pins s σ H _ I h) fun v s1 hx_=>?_
 obtain⟨x,H1,I1,r1,q1⟩:=hx_
 refine thn (hb pins s1 σ H1 _ I1 q1) fun u s2 hx_=>?_
 obtain⟨y,H2,I2,r2,q2⟩:=hx_
 exact hf v u s2 x y H2 I2 r1 r2 q2
theorem Yso{op:Operator}{r:R2}(ho:OpR X (binaryOp op) r)(ha:PE X a ta)(hb:PE X b tb):PE X (.BinOp a op b pos) (tOp r ta tb):=by
 intro pins s σ H Q I h
 exact wpAny_BinOp (binT ha hb I h fun v u s2 x y H2 I2 rx ry q=>ho pins s2 σ H2 x y v u Q I2 rx ry q)
theorem opI{f:Value->Value->Sem Value}{C:Int->Int->Prop}{g:Int->Int->Int}
 (rule:∀(i j:Int) (t u:Tok) (s:Shared) (Q:Value->Shared->Prop) (E:Value->Shared->Prop),C i j->Q (.int (g i j) s.toks) { s with toks:=s.toks+1 }->wpAny (model X.prog X.w) X.A (f (.int i t) (.int j u)) Q E s) :
 OpR X f (rI C fun i j=>.int (g i j)):=by
 intro pins s σ H x y v u Q I rx ry h
 obtain⟨i,j,rfl,rfl,hc,q⟩:=h
 obtain⟨t,rfl⟩:=rx
 obtain⟨t',rfl⟩:=ry
 exact rule i j t t' s _ _ hc ⟨.int (g i j),H,I.tok _,⟨_,rfl⟩,q⟩
theorem opI0{f:Value->Value->Sem Value}{g:Int->Int->Int}
 (rule:∀(i j:Int) (t u:Tok) (s:Shared) (Q:Value->Shared->Prop) (E:Value->Shared->Prop),Q (.int (g i j) s.toks) { s with toks:=s.toks+1 }->wpAny (model X.prog X.w) X.A (f (.int i t) (.int j u)) Q E s) :
 OpR X f (rI0 fun i j=>.int (g i j)):=by
 intro pins s σ H x y v u Q I rx ry h
 obtain⟨i,j,rfl,rfl,q⟩:=h
 obtain⟨t,rfl⟩:=rx
 obtain⟨t',rfl⟩:=ry
 exact rule i j t t' s _ _ ⟨.int (g i j),H,I.tok _,⟨_,rfl⟩,q⟩
theorem opB0{f:Value->Value->Sem Value}{g:Int->Int->Bool}
 (rule:∀(i j:Int) (t u:Tok) (s:Shared) (Q:Value->Shared->Prop) (E:Value->Shared->Prop),Q (.bool (g i j)) s->wpAny (model X.prog X.w) X.A (f (.int i t) (.int j u)) Q E s) :
 OpR X f (rI0 fun i j=>.bl (g i j)):=by
 intro pins s σ H x y v u Q I rx ry h
 obtain⟨i,j,rfl,rfl,q⟩:=h
 obtain⟨t,rfl⟩:=rx
 obtain⟨t',rfl⟩:=ry
 exact rule i j t t' s _ _ ⟨.bl (g i j),H,I,rfl,q⟩
def CDiv(i j:Int):Prop:=0 < j/\j < 1073741824
def CMul(i j:Int):Prop:=(-(2 ^ 64) < i/\i < 2 ^ 64)\/(-(2 ^ 64) < j/\j < 2 ^ 64)
theorem CMul.ok{i j:Int}(h:CMul i j):IntMulOk i j:=by
 rcases h with⟨h1,h2⟩ | ⟨h1,h2⟩
 ·exact .of_left (intBits_le_64 h1 h2)
 ·exact .of_right (intBits_le_64 h1 h2)
theorem Yuo:OpR X (binaryOp .Add) (rI0 fun i j=>.int (i+j)):=opI0 fun _ _ _ _ _ _ _ q=>add_int q
theorem Yx9:OpR X (binaryOp .Sub) (rI0 fun i j=>.int (i - j)):=opI0 fun _ _ _ _ _ _ _ q=>sub_int q
theorem Yya:OpR X (binaryOp .Mult) (rI CMul fun i j=>.int (i * j)):=opI fun _ _ _ _ _ _ _ hc q=>mul_int q hc.ok
theorem Yvq:OpR X (binaryOp .FloorDiv) (rI CDiv fun i j=>.int (i / j)):=opI fun i j _ _ _ _ _ hc q=>by
 have h1:(0:Int) < j:=hc.1
 have h2:j < 1073741824:=hc.2
 exact floordiv_int (by lia) (by rw[Int.fdiv_eq_ediv_of_nonneg i (by lia)];exact q) (.inl (PyProof.noPylong_small (by lia)))
theorem Yup:OpR X (binaryOp .Mod) (rI (fun _ j=>0 < j) fun i j=>.int (i % j)):=opI fun i j _ _ _ _ _ hc q=>by
 have h1:(0:Int) < j:=hc
 exact mod_int' (by lia) (by rw[Int.fmod_eq_emod_of_nonneg i (by lia)];exact q)
end
def scal:V->V->Bool
 | .non,.non=>true | .non,.int _=>true | .int _,.non=>true | .non,.bl _=>true | .bl _,.non=>true | .non,.str _=>true | .str _,.non=>true
 | .int _,.int _=>true | .bl _,.bl _=>true | .str _,.str _=>true | .byt _,.byt _=>true
 | .int _,.str _=>true | .str _,.int _=>true | .bl _,.str _=>true | .str _,.bl _=>true
 | _,_=>false
section
variable {X:Cx} {a b c:Expr} {ta tb tc:TE} {pos:Pos}
theorem Yuq{pins:List (Addr × Obj)}{σ:St}{H:Hp}{s:Shared}{Q:VK}{k k':Bool}(I:Inv X pins σ H s)(q:Q (.bl k) H)(e:k=k'):EP X pins σ Q (.bool k') s:=by
 subst e
 exact⟨.bl k,H,I,rfl,q⟩
theorem y04:OpR X (compareOp .Lt) (rI0 fun i j=>.bl (decide (i < j))):=opB0 fun _ _ _ _ _ _ _ q=>lt_int q
theorem Yvr:OpR X (compareOp .LtE) (rI0 fun i j=>.bl (decide (i<=j))):=opB0 fun _ _ _ _ _ _ _ q=>le_int q
theorem y05:OpR X (compareOp .Gt) (rI0 fun i j=>.bl (decide (j < i))):=opB0 fun _ _ _ _ _ _ _ q=>gt_int q
theorem Ypn:OpR X (compareOp .In) (fun x y H Q=>∃i j,x=.str i/\y=.str j/\Q (.bl (!(Builtin.Str.occurrences j i 0 j.length 1).isEmpty)) H):=by
 intro pins s σ H x y v u Q I rx ry h
 obtain⟨i,j,rfl,rfl,q⟩:=h
 obtain⟨t,rfl⟩:=rx
 obtain⟨t',rfl⟩:=ry
 exact in_str (Yuq I q rfl)
theorem Yur:OpR X (compareOp .Is) (fun x y H Q=>y=.non/\Q (.bl (decide (x=.non))) H):=by
 intro pins s σ H x y v u Q I rx ry h
 obtain⟨rfl,q⟩:=h
 cases ry
 refine is_none_gen (Yuq I q ?_)
 cases x<;>first
  | (cases rx;rfl)
  | (obtain⟨t,rfl⟩:=rx;rfl)
theorem Yjt(b:Expr){op:CmpOp}(h:op≠.In:=by decide)(h2:op≠.NotIn:=by decide):behindInMarks op b=false:=by
 have e1:(op==CmpOp.In)=false:=by cases op<;>first | rfl | exact absurd rfl h
 have e2:(op==CmpOp.NotIn)=false:=by cases op<;>first | rfl | exact absurd rfl h2
 cases b with
 | Set elts k p=>
   show((k==0)&&((op==CmpOp.In)||(op==CmpOp.NotIn))&&_)=false
   rw[e1,e2]
   cases (k==0)<;>rfl
 | _=>rfl
theorem Yvs{op:CmpOp}{r:R2}(ho:OpR X (compareOp op) r)(ha:PE X a ta)(hb:PE X b tb)(hm:behindInMarks op b=false):PE X (.Compare a [op] [b] pos) (tOp r ta tb):=by
 intro pins s σ H Q I h
 exact wpAny_Compare1 (binT ha hb I h fun v u s2 x y H2 I2 rx ry q=>ho pins s2 σ H2 x y v u Q I2 rx ry q) hm
def Yvt(t:TE):TT:=fun σ H Q=>t σ H fun x H'=>∃k,x=.bl k/\Q k H'
theorem Ymp{op:CmpOp}{r:R2}(ho:OpR X (compareOp op) r)(ha:PE X a ta)(hb:PE X b tb)(hm:behindInMarks op b=false):PT X (.Compare a [op] [b] pos) (Yvt (tOp r ta tb)):=by
 intro pins s σ H Q I h
 refine wpAny_isTrue_Compare1 (thn (ha pins s σ H _ I h) fun v s1 hx_=>?_) hm
 obtain⟨x,H1,I1,r1,q1⟩:=hx_
 refine thn (hb pins s1 σ H1 _ I1 q1) fun u s2 hx_=>?_
 obtain⟨y,H2,I2,r2,q2⟩:=hx_
 refine thn (ho pins s2 σ H2 x y v u _ I2 r1 r2 q2) fun c s3 hx_=>?_
 obtain⟨z,H3,I3,r3,k,e,q3⟩:=hx_
 subst e
 cases r3
 exact wpAny_truthy_bool ⟨H3,I3,q3⟩
def Yus(r r':R2)(ta tb tc:TE):TE:=fun σ H Q=>ta σ H fun x H1=>tb σ H1 fun y H2=>r x y H2 fun z H3=>∃k,z=.bl k/\
 (if k=true then tc σ H3 fun w' H4=>r' y w' H4 Q else Q (.bl false) H3)
theorem Ysp{op op':CmpOp}{r r':R2}(ho:OpR X (compareOp op) r)(ho':OpR X (compareOp op') r')(ha:PE X a ta)(hb:PE X b tb)(hc:PE X c tc)
 (hm:lastMarks [op,op'] [b,c]=false:=by with_unfolding_all rfl):PE X (.Compare a [op,op'] [b,c] pos) (Yus r r' ta tb tc):=by
 intro pins s σ H Q I h
 refine Compare_chain (thn (ha pins s σ H _ I h) fun v s1 hx_=>?_) hm
 obtain⟨x,H1,I1,r1,q1⟩:=hx_
 refine chain_link (thn (hb pins s1 σ H1 _ I1 q1) fun u s2 hx_=>?_)
 obtain⟨y,H2,I2,r2,q2⟩:=hx_
 refine thn (ho pins s2 σ H2 x y v u _ I2 r1 r2 q2) fun d s3 hx_=>?_
 obtain⟨z,H3,I3,r3,k,e,q3⟩:=hx_
 subst e
 cases r3
 refine wpAny_truthy_bool ?_
 cases k with
 | false=>exact ite_ff ⟨.bl false,H3,I3,rfl,q3⟩
 | true=>
   refine ite_tt (chain_last (thn (hc pins s3 σ H3 _ I3 q3) fun w' s4 hx_=>?_))
   obtain⟨z',H4,I4,r4,q4⟩:=hx_
   exact ho' pins s4 σ H4 y z' u w' Q I4 r2 r4 q4
theorem Ysq{op op':CmpOp}{r r':R2}(ho:OpR X (compareOp op) r)(ho':OpR X (compareOp op') r')(ha:PE X a ta)(hb:PE X b tb)(hc:PE X c tc)
 (hm:lastMarks [op,op'] [b,c]=false:=by with_unfolding_all rfl):PT X (.Compare a [op,op'] [b,c] pos) (Yvt (Yus r r' ta tb tc)):=by
 intro pins s σ H Q I h
 refine isTrue_chain (thn (ha pins s σ H _ I h) fun v s1 hx_=>?_) hm
 obtain⟨x,H1,I1,r1,q1⟩:=hx_
 refine test_link (thn (hb pins s1 σ H1 _ I1 q1) fun u s2 hx_=>?_)
 obtain⟨y,H2,I2,r2,q2⟩:=hx_
 refine thn (ho pins s2 σ H2 x y v u _ I2 r1 r2 q2) fun d s3 hx_=>?_
 obtain⟨z,H3,I3,r3,k,e,q3⟩:=hx_
 subst e
 cases r3
 refine wpAny_truthy_bool ?_
 cases k with
 | false=>
   obtain⟨k',e',q'⟩:=q3
   cases e'
   exact ite_ff ⟨H3,I3,q'⟩
 | true=>
   refine ite_tt (test_last (thn (hc pins s3 σ H3 _ I3 q3) fun w' s4 hx_=>?_))
   obtain⟨z',H4,I4,r4,q4⟩:=hx_
   refine thn (ho' pins s4 σ H4 y z' u w' _ I4 r2 r4 q4) fun d' s5 hx_=>?_
   obtain⟨z2,H5,I5,r5,k2,e2,q5⟩:=hx_
   subst e2
   cases r5
   exact wpAny_truthy_bool ⟨H5,I5,q5⟩
def TruV(K:W.Frag)(x:V)(H:Hp)(k:Bool):Prop:=
 match x with
 | .non=>k=false
 | .bl b=>k=b
 | .int i=>k=(i != 0)
 | .str y=>y.length<=sizeLine/\k=((y.length:Int) != 0)
 | .byt y=>y.size<=sizeLine/\k=((y.size:Int) != 0)
 | .ref p=>(∃xs,SqL K H p xs/\k=!xs.isEmpty)\/(∃xs,SqT K H p xs/\k=!xs.isEmpty)\/∃kvs,H p=some (.dK kvs)/\k=!kvs.isEmpty
 | _=>False
theorem Yot{κ:Type}{kvs:List (κ × V)}{vs:List (κ × Value)}(r:KV kvs vs):(!vs.isEmpty)=!kvs.isEmpty:=by
 cases r<;>rfl
theorem Yju{xs:List V}{its:List Value}(r:Vals xs its):(!its.toArray.isEmpty)=!xs.isEmpty:=by
 cases r<;>simp
theorem Yjv:(sizeLine:Nat) < 2 ^ 63:=by rw[sizeLine_eq];decide
theorem Yyb:TruR X (fun x H Q=>∃k,TruV X.K x H k/\Q k H):=by
 intro pins s σ H x v Q I rx h
 obtain⟨k,e,q⟩:=h
 have hl:=Yjv
 have hs:sizeLine=16777216:=sizeLine_eq
 cases x with
 | non=>
   cases rx
   have e':k=false:=e
   subst e'
   exact truthy_none ⟨H,I,q⟩
 | bl b=>
   cases rx
   have e':k=b:=e
   subst e'
   exact wpAny_truthy_bool ⟨H,I,q⟩
 | int i=>
   obtain⟨t,rfl⟩:=rx
   have e':k=(i != 0):=e
   subst e'
   exact PySem.P.truthy_int ⟨H,I,q⟩
 | str y=>
   obtain⟨t,rfl⟩:=rx
   obtain⟨hy,e'⟩:y.length<=sizeLine/\k=((y.length:Int) != 0):=e
   subst e'
   exact PySem.P.truthy_str (by lia) ⟨H,I.tok _,q⟩
 | byt y=>
   obtain⟨t,rfl⟩:=rx
   obtain⟨hy,e'⟩:y.size<=sizeLine/\k=((y.size:Int) != 0):=e
   subst e'
   exact W.truthy_bytes (by lia) ⟨H,I.tok _,q⟩
 | ref p=>
   cases rx
   have e':(∃xs,SqL X.K H p xs/\k=!xs.isEmpty)\/(∃xs,SqT X.K H p xs/\k=!xs.isEmpty)\/∃kvs,H p=some (.dK kvs)/\k=!kvs.isEmpty:=e
   rcases e' with⟨xs,hx,e'⟩ | ⟨xs,hx,e'⟩ | ⟨kvs,hx,e'⟩
   ·subst e'
    obtain⟨its,r,pl,hz⟩:=I.list hx
    have hlen:=r.length
    exact wpAny_truthy_list pl.isList (by simp only[qk];lia) ⟨H,I.tok _,by rw[Yju r];exact q⟩
   ·subst e'
    obtain⟨its,r,pl,hz⟩:=I.tuple hx
    have hlen:=r.length
    exact truthy_tuple pl (by simp only[qk];lia) ⟨H,I.tok _,by rw[Yju r];exact q⟩
   ·subst e'
    obtain⟨hz,hS,vs,r,m⟩:kvs.length<=sizeLine/\(p==sysModules)=false/\∃vs,KV kvs vs/\s.heap.DictOf (Yml X.prog X.w) p vs:=I.hok p _ hx
    have hlen:kvs.length=vs.length:=Paired.length r
    exact wpAny_truthy_dict hS m (by lia) ⟨H,I.tok _,by rw[Yot r];exact q⟩
 | _=>exact(show False from e).elim
theorem Ysr(ha:PE X a ta)(he:∀whole,isTrue a X.env whole=(do let v <-whole;standAt a.pos;holding [v] (truthy v))) :
 PT X a (fun σ H Q=>ta σ H fun x H'=>∃k,TruV X.K x H' k/\Q k H'):=by
 intro pins s σ H Q I h
 refine isTrue_plain (thn (ha pins s σ H _ I h) fun v s1 hx_=>?_) (he _)
 obtain⟨x,H1,I1,r1,q1⟩:=hx_
 exact Yyb pins s1 σ H1 x v Q I1 r1 q1
theorem You:OpR X (binaryOp .Add) (fun x y H Q=>∃i j,x=.str i/\y=.str j/\i.length+j.length<=sizeLine/\Q (.str (i++j)) H):=by
 intro pins s σ H x y v u Q I rx ry h
 obtain⟨i,j,rfl,rfl,hz,q⟩:=h
 obtain⟨t,rfl⟩:=rx
 obtain⟨t',rfl⟩:=ry
 exact add_str (fun t' tk=>⟨.str (i++j),H,I.tok _,⟨_,rfl⟩,q⟩) hz
theorem Yh2{x:V}{us:List Value}(r:Vals [x] us):∃u,us=[u]/\RelV x u:=by
 cases r with
 | cons r1 r2=>cases r2;exact⟨_,rfl,r1⟩
theorem Yyc{x y:V}{us:List Value}(r:Vals [x,y] us):∃u w',us=[u,w']/\RelV x u/\RelV y w':=by
 cases r with
 | cons r1 r2=>
   cases r2 with
   | cons r3 r4=>cases r4;exact⟨_,_,rfl,r1,r3⟩
theorem Yh3:Yf7 X (.type "int") (fun xs H Q=>(∃i,xs=[.int i]/\Q (.int i) H)\/∃k,xs=[.bl k]/\Q (.int (if k then 1 else 0)) H):=by
 intro pins s σ H xs us Q I r h
 rcases h with⟨i,rfl,q⟩ | ⟨k,rfl,q⟩
 ·obtain⟨u,rfl,t,rfl⟩:=Yh2 r
  exact call_int_int ⟨.int i,H,I,⟨_,rfl⟩,q⟩
 ·obtain⟨u,rfl,r1⟩:=Yh2 r
  cases r1
  exact call_int_bool ⟨.int (if k then 1 else 0),H,I.tok _,⟨_,rfl⟩,q⟩
theorem Yal:Yf7 X (.type "str") (fun xs H Q=>∃i,xs=[.int i]/\i.natAbs.log2 < 1920/\Q (.str (toString i)) H):=by
 intro pins s σ H xs us Q I r h
 obtain⟨i,rfl,hz,q⟩:=h
 obtain⟨u,rfl,t,rfl⟩:=Yh2 r
 exact PySem.P.str_of_int hz ⟨.str _,H,I.tok _,⟨_,rfl⟩,q⟩
end
end L2
namespace L2
open PySem PySem.Spec PyProof.Rows
structure ObjM(h:Heap)(x dx C:Addr)(mA:Str->Option Value):Prop where
 obj:h.get? x=some (W.instObj C dx)
 ns:h.Ns1 dx mA
 ne:dx≠x
theorem Ypo{h:Heap}{dx:Addr}{mA:Str->Option Value}(n:h.Ns1 dx mA):∃od,h.get? dx=some od/\∀name,W.lookIn name od=some (mA name):=by
 obtain⟨o,es,ep,ho,hd,hk,_,hm⟩:=n
 refine⟨o,ho,fun name=>?_⟩
 have e:=hm name
 unfold nsFind findBy at e
 rw[<-Array.find?_toList]at e
 unfold W.lookIn
 rw[hd]
 dsimp only
 split
 ·rename_i y q
  rw[q]at e
  exact congrArg some e
 ·rename_i q
  rw[q]at e
  have a:es.toList.any (·.refKey)=false:=by
   rw[List.any_eq_false]
   intro y hy
   obtain⟨z,t,hkey⟩:=hk y (Array.mem_toList_iff.mp hy)
   simp[DictEntry.refKey,hkey]
  have a':¬es.toList.any (·.refKey)=true:=by rw[a];exact qi
  rw[if_neg a']
  exact congrArg some e
theorem ObjM.look{h:Heap}{x dx C:Addr}{mA:Str->Option Value}(I:ObjM h x dx C mA):∃od,W.InstAt h x (W.instObj C dx) C (some od)/\∀name,W.lookIn name od=some (mA name):=
 let ⟨od,ho,hl⟩:=Ypo I.ns
 ⟨od,⟨I.obj,rfl,rfl,ho⟩,hl⟩
section
variable {prog:Program} {w:World} {A:Around} {E:Value->Shared->Prop} {s:Shared} {K:W.Frag} {x dx C f:Addr} {mA:Str->Option Value} {name:Str} {v:Value}
theorem Yvu{expr:Bool}{Q:Value->Shared->Prop}(X:K.In s.heap)(I:ObjM s.heap x dx C mA)(hg:W.plainGet K C name=true)(hh:W.hasDictIn K C=true)
 (ha:W.findIn K (.ref C) name=some none) (hv:mA name=some v) (hv':W.handedIn v=true) (h:Q v { s with toks:=s.toks+1 }) :
 wpAny (model prog w) A (getAttr (.ref x) name expr) Q E s:=by
 obtain⟨od,J,hl⟩:=I.look
 exact W.get_value X J (W.plainGet_of hg).1 (W.findObj_own hh ha rfl (by rw[hl,hv])) hv' h
theorem Yss{pl:Sem Bool}{Q:Value × List Value->Shared->Prop}(X:K.In s.heap)(I:ObjM s.heap x dx C mA)(hg:W.plainGet K C name=true)
 (hf:W.findIn K (.ref C) name=some (some (.ref f))) (ht:W.isFn K (.ref f)=true) (hv:mA name=none) (h:Q (.ref f,[.ref x]) s) :
 wpAny (model prog w) A (getMethod (.ref x) name pl) Q E s:=by
 obtain⟨od,J,hl⟩:=I.look
 exact W.method_fn X J (W.plainGet_of hg).1 (W.plainGet_of hg).2 hf (beq_iff_eq.mp ht) (by show(W.lookIn name od).map (·.isSome)=some false;rw[hl,hv];rfl) h
theorem Yvv{ns:List Str}{Q:Unit->Shared->Prop}(X:K.In s.heap)(I:ObjM s.heap x dx C mA)
 (hs:W.findIn K (.ref C) "__setattr__"=some (some (.builtin "object.__setattr__"))) (hp:W.plainOver K C=true) (ht:W.takerIn K C name=some none) (hh:W.hasDictIn K C=true)
 (hw:PySem.Within mA ns) (hsz:ns.length<=sizeLine)
 (h:∀h',ObjM h' x dx C (fun y=>if y=name then some v else mA y)->Heap.SameBut dx s.heap h'->Q () { s with heap:=h',toks:=s.toks+2 }) :
 wpAny (model prog w) A (setAttr (.ref x) name v) Q E s:=by
 obtain⟨od,J,hl⟩:=I.look
 refine W.set_plain X J hs (W.osa_open (s:={ s with toks:=s.toks+1 }) (r:=none) X J hp ht fun b=>?_)
 obtain⟨cd,hc,hd'⟩:=W.any_some hh
 have hx:s.heap.get? x=some ⟨.ref C,some dx,.plain,#[]⟩:=I.obj
 refine wpAny_bind (wpAny_pure (wpAny_bind (wpAny_bind (wpAny_loadPart hx (wpAny_bind (W.Looks.here (s:={ s with toks:=s.toks+1 }) (W.looks_clsIn X hc) ?_))))))
 rw[hd']
 refine wpAny_pure (a:=some dx) (wpAny_bind (wpAny_pure (wpAny_bind ?_)))
 refine wpAny_nsSet1 (s:={ s with toks:=s.toks+1 }) I.ns fun h' hn2 hs2=>?_
 obtain⟨oD,esD,epD,hoD,hdD,hcD⟩:=hn2.count (PySem.Within.cons name v hw)
 refine wpAny_bind (wpAny_lookBehind hoD (by rw[hdD];exact pastItsLine_dict (qx hcD (by rw[qs];lia))) ?_)
 exact wpAny_pure (h _ ⟨(hs2.2 _ (Ne.symm I.ne)).trans I.obj,hn2,I.ne⟩ hs2)
theorem Yst{R:Result->Shared->Prop}{vs:List Value}{kw:List (Str × Value)}(X:K.In s.heap)(hm:W.makesIn K C=true)
 (hi:W.findIn K (.ref C) "__init__"=some (some (.ref f))) (hf:W.typeIn K (.ref f)=some (.type "function"))
 (h:codeAny (model prog w) (A.under (.builtin "type.__call__" ⟨.ref C::vs,kw⟩)) (.call (.ref f) ⟨.ref (s.heap.objs.size+1)::vs,kw⟩) (W.InitBack (s.heap.objs.size+1) R)
  { s with heap:=(s.heap.push W.emptyDict).push (W.instObj C s.heap.objs.size) }) :
 codeAny (model prog w) A (.call (.ref C) ⟨vs,kw⟩) R s:=by
 obtain⟨hh,g,d,t,os⟩:=s
 exact W.make_core (W.makes_of X hm) (W.looks_findIn X hi) (fun self=>W.bind_fn X self hf) (.inl rfl) h
end
def putF(f:Str)(v:V):List (Str × V)->List (Str × V)
 | []=>[(f,v)]
 | (g,x)::r=>if g=f then (g,v)::r else (g,x)::putF f v r
theorem Yh4(f g:Str)(v:V):∀fs:List (Str × V),(putF f v fs).lookup g=if g=f then some v else fs.lookup g
 | []=>by
   show List.lookup g [(f,v)]=_
   by_cases h:g=f
   ·have hb:(g==f)=true:=beq_iff_eq.mpr h
    simp only[List.lookup,hb,if_pos h]
   ·have hb:(g==f)=false:=beq_eq_false_iff_ne.mpr h
    simp only[List.lookup,hb,if_neg h]
 | (k,x)::r=>by
   have ih:=Yh4 f g v r
   rw[show putF f v ((k,x)::r)=(if k=f then (k,v)::r else (k,x)::putF f v r) from rfl]
   by_cases hk:k=f
   ·rw[if_pos hk]
    by_cases h:g=k
    ·have hb:(g==k)=true:=beq_iff_eq.mpr h
     simp only[List.lookup,hb,if_pos (h.trans hk)]
    ·have hb:(g==k)=false:=beq_eq_false_iff_ne.mpr h
     simp only[List.lookup,hb,if_neg (fun e:g=f=>h (e.trans hk.symm))]
   ·rw[if_neg hk]
    by_cases h:g=k
    ·have hb:(g==k)=true:=beq_iff_eq.mpr h
     simp only[List.lookup,hb,if_neg (fun e:g=f=>hk (h.symm.trans e))]
    ·have hb:(g==k)=false:=beq_eq_false_iff_ne.mpr h
     simp only[List.lookup,hb]
     exact ih
theorem Yh5(f:Str)(v:V):∀fs:List (Str × V),f∈(putF f v fs).map (·.1)/\∀g,g∈fs.map (·.1)->g∈(putF f v fs).map (·.1)
 | []=>⟨by simp[putF],fun g h=>by simp at h⟩
 | (k,x)::r=>by
   obtain⟨i1,i2⟩:=Yh5 f v r
   rw[show putF f v ((k,x)::r)=(if k=f then (k,v)::r else (k,x)::putF f v r) from rfl]
   by_cases hk:k=f
   ·rw[if_pos hk]
    subst hk
    exact⟨by simp,fun g h=>by simpa using h⟩
   ·rw[if_neg hk]
    refine⟨?_,fun g h=>?_⟩
    ·rw[qy]
     exact qg _ i1
    ·rw[qy]at h ⊢
     rcases qt h with e | e
     ·exact List.mem_cons.mpr (.inl e)
     ·exact qg _ (i2 g e)
theorem Yh6(f:Str)(v:V):∀fs:List (Str × V),(putF f v fs).length<=fs.length+1
 | []=>by simp[putF]
 | (k,x)::r=>by
   have ih:=Yh6 f v r
   rw[show putF f v ((k,x)::r)=(if k=f then (k,v)::r else (k,x)::putF f v r) from rfl]
   by_cases hk:k=f
   ·rw[if_pos hk,qs,qs];lia
   ·rw[if_neg hk,qs,qs];lia
theorem RelO.some_of{v:V}{o:Option Value}(r:RelO (some v) o):∃u,o=some u/\RelV v u:=by
 cases o with
 | none=>exact(show False from r).elim
 | some u=>exact⟨u,rfl,r⟩
theorem RelO.none_of{o:Option Value}(r:RelO none o):o=none:=by
 cases o with
 | none=>rfl
 | some u=>exact(show False from r).elim
theorem Ypp{v:V}{u:Value}(r:RelV v u):W.handedIn u=true:=by
 cases v with
 | non=>cases (show u=Value.none from r);rfl
 | bl b=>cases (show u=Value.bool b from r);rfl
 | int i=>obtain⟨t,e⟩:=(show ∃t,u=Value.int i t from r);cases e;rfl
 | str x=>obtain⟨t,e⟩:=(show ∃t,u=Value.str x t from r);cases e;rfl
 | byt b=>obtain⟨t,e⟩:=(show ∃t,u=Value.bytes b t from r);cases e;rfl
 | flt b=>obtain⟨t,e⟩:=(show ∃t,u=Value.float b t from r);cases e;rfl
 | ref a=>cases (show u=Value.ref a from r);rfl
 | ty n=>cases (show u=Value.type n from r);rfl
section
variable {P:Program} {w:World} {H H':Hp} {h h':Heap} {a C dx:Addr} {fs fs':List (Str × V)}
theorem Yj8(hok:HOk P w H h)(e:H a=some (.ins C dx fs)):∃mA,ObjM h a dx C mA/\(∀f,RelO (fs.lookup f) (mA f))/\PySem.Within mA (fs.map (·.1))/\fs.length<=1000/\H dx=some (.own a):=by
 obtain⟨d,z,ne,ob,mA,n,r,q⟩:=(show ObjOk P w H h a (.ins C dx fs) from hok a _ e)
 exact⟨mA,⟨ob,n,ne⟩,r,q,z,d⟩
end
structure Cls(K:W.Frag)(C:Addr):Prop where
 pg:W.plainGet K C Str.empty=true
 hd:W.hasDictIn K C=true
 po:W.plainOver K C=true
 sa:W.findIn K (.ref C) "__setattr__"=some (some (.builtin "object.__setattr__"))
theorem Cls.get{K:W.Frag}{C:Addr}(c:Cls K C)(f:Str):W.plainGet K C f=true:=c.pg
def NoAttr(K:W.Frag)(C:Addr)(f:Str):Prop:=W.findIn K (.ref C) f=some none
theorem NoAttr.taker{K:W.Frag}{C:Addr}{f:Str}(n:NoAttr K C f):W.takerIn K C f=some none:=by
 unfold W.takerIn
 rw[show W.findIn K (.ref C) f=some none from n]
 rfl
structure Con(K:W.Frag)(C:Addr)(f:Str)(v:V)(u:Value):Prop where
 at_:W.findIn K (.ref C) f=some (some u)
 rel:RelV v u
 get:W.specialIn K u "__get__"=some none
 cp:W.copiedNames.contains f=false
structure Meth(K:W.Frag)(C:Addr)(m:Str)(f:Addr):Prop where
 at_:W.findIn K (.ref C) m=some (some (.ref f))
 fn:W.isFn K (.ref f)=true
 kp:W.keepIn K (.ref f)=true
section
variable {X:Cx} {pins:List (Addr × Obj)} {σ:St} {H:Hp} {s:Shared} {a C dx:Addr} {fs:List (Str × V)} {f:Str} {v:V} {A:Around} {E:Value->Shared->Prop}
theorem Yjw{b:Bool}{Q:Value->Shared->Prop}(I:Inv X pins σ H s)(e:H a=some (.ins C dx fs))(c:Cls X.K C)(n:NoAttr X.K C f)(l:fs.lookup f=some v)
 (h:∀u s',Inv X pins σ H s'->RelV v u->Q u s'):wpAny (model X.prog X.w) A (getAttr (.ref a) f b) Q E s:=by
 obtain⟨mA,O,r,_,_,_⟩:=Yj8 I.hok e
 obtain⟨u,hu,ru⟩:=RelO.some_of (v:=v) (o:=mA f) (by rw[<-l];exact r f)
 exact Yvu I.kIn O (c.get f) c.hd n hu (Ypp ru) (h u _ (I.tok _) ru)
theorem Yov{m:Str}{g:Addr}{pl:Sem Bool}{Q:Value × List Value->Shared->Prop}(I:Inv X pins σ H s)(e:H a=some (.ins C dx fs))(c:Cls X.K C)(k:Meth X.K C m g)(l:fs.lookup m=none)
 (h:Q (.ref g,[.ref a]) s):wpAny (model X.prog X.w) A (getMethod (.ref a) m pl) Q E s:=by
 obtain⟨mA,O,r,_,_,_⟩:=Yj8 I.hok e
 have hn:mA m=none:=RelO.none_of (by rw[<-l];exact r m)
 exact Yss I.kIn O (c.get m) k.at_ k.fn hn h
theorem Yjx{y:V}{u:Value}{Q:Unit->Shared->Prop}(I:Inv X pins σ H s)(e:H a=some (.ins C dx fs))(c:Cls X.K C)(n:NoAttr X.K C f)(hl:fs.length < 1000)(ry:RelV y u)
 (h:∀s',Inv X pins σ (upd H a (.ins C dx (putF f y fs))) s'->Q () s'):wpAny (model X.prog X.w) A (setAttr (.ref a) f u) Q E s:=by
 obtain⟨mA,O,r,wi,_,ho⟩:=Yj8 I.hok e
 have hz:(fs.map (·.1)).length<=sizeLine:=by rw[qf,sizeLine_eq];lia
 refine Yvv I.kIn O c.sa c.po n.taker c.hd wi hz fun h' O' sb=>h _ ?_
 have hd:∃o,h'.get? dx=some o:=let ⟨o,_,_,e',_⟩:=O'.ns;⟨o,e'⟩
 refine I.write (x:=a) (e:=dx) (by rw[e];exact True.intro) (.inr ho) (fun b q hb z=>(sb.2 b hb).trans z) hd ?_
 refine⟨by rw[Yk O.ne];exact ho,?_,O.ne,O'.obj,_,O'.ns,fun g=>?_,fun g hg=>?_⟩
 ·have:=Yh6 f y fs;lia
 ·show RelO ((putF f y fs).lookup g) (if g=f then some u else mA g)
  rw[Yh4]
  by_cases q:g=f
  ·rw[if_pos q,if_pos q];exact ry
  ·rw[if_neg q,if_neg q];exact r g
 ·by_cases q:g=f
  ·rw[q];exact(Yh5 f y fs).1
  ·refine(Yh5 f y fs).2 g (wi g fun z=>hg ?_)
   show(if g=f then some u else mA g)=none
   rw[if_neg q];exact z
theorem Inv.made(I:Inv X pins σ H s):Inv X pins σ (upd (upd H s.heap.objs.size (.own (s.heap.objs.size+1))) (s.heap.objs.size+1) (.ins C s.heap.objs.size []))
 { s with heap:=(s.heap.push W.emptyDict).push (W.instObj C s.heap.objs.size) }:=by
 have e1:(s.heap.push W.emptyDict).get? s.heap.objs.size=some W.emptyDict:=qp s.heap rfl
 have e2:((s.heap.push W.emptyDict).push (W.instObj C s.heap.objs.size)).get? (s.heap.objs.size+1)=some (W.instObj C s.heap.objs.size):=by
  have:=qp (s.heap.push W.emptyDict) (o:=W.instObj C s.heap.objs.size) rfl
  rwa [Heap.size_push]at this
 have e3:(s.heap.push W.emptyDict).Ns s.heap.objs.size (fun _=>none):=⟨W.emptyDict,#[],_,e1,rfl,(fun e he=>absurd he (by simp)),fun _=>rfl⟩
 have I1:=I.laid (a:=s.heap.objs.size) (o:=.own (s.heap.objs.size+1)) (h':=s.heap.push W.emptyDict) (t':=s.toks) (fun b u q=>qe _ q) (qu _) ⟨_,e1⟩
 refine I1.laid (a:=s.heap.objs.size+1) (o:=.ins C s.heap.objs.size []) (t':=s.toks) (fun b u q=>qe _ q) (Nat.le_of_eq (Heap.size_push _ _)) ?_
 have ne:s.heap.objs.size≠s.heap.objs.size+1:=qm (Nat.lt_succ_self _)
 refine⟨by rw[Yk ne,Ym],Nat.zero_le _,ne,e2,fun _=>none,(Heap.Ns1.of_empty e3).at fun o q=>qe _ q,fun _=>True.intro,fun y hy=>absurd rfl hy⟩
theorem Yvw{prog:Program}{w:World}{env:Env}{e:Expr}{f:Str}{pos:Pos}{s:Shared}{Q:Value->Shared->Prop}(hb:attributeBase e f env (eval e env)=eval e env)
 (h:wpAny (model prog w) A (eval e env) (fun o s₁=>wpAny (model prog w) A (getAttr o f true) Q E s₁) E s):wpAny (model prog w) A (eval (.Attribute e f pos) env) Q E s:=
 Attribute_any_ h (by rw[arm_eval_Attribute,hb])
end
def tFld(K:W.Frag)(ta:TE)(f:Str):TE:=fun σ H Q=>ta σ H fun x H1=>∃a C dx fs v,x=.ref a/\H1 a=some (.ins C dx fs)/\Cls K C/\NoAttr K C f/\fs.lookup f=some v/\Q v H1
def sFld(K:W.Frag)(ta tv:TE)(f:Str):TS:=fun D σ H=>tv σ H fun y H1=>ta σ H1 fun x H2=>∃a C dx fs,x=.ref a/\H2 a=some (.ins C dx fs)/\Cls K C/\NoAttr K C f/\fs.length < 1000/\
 D.nx σ (upd H2 a (.ins C dx (putF f y fs)))
def InOp(X:Cx)(op:Operator)(rd:V->V->Hp->VK->Prop):Prop:=
 ∀(pins:List (Addr × Obj)) (s:Shared) (σ:St) (H:Hp) (x y:V) (u v:Value) (Q:VK),Inv X pins σ H s->RelV x u->RelV y v->rd x y H Q->wpAny (model X.prog X.w) X.A (inplaceOp op u v) (EP X pins σ Q) X.xe s
def Yvx(K:W.Frag)(ta tv:TE)(rd:V->V->Hp->VK->Prop)(f:Str):TS:=fun D σ H=>ta σ H fun x H1=>∃a C dx fs v,x=.ref a/\H1 a=some (.ins C dx fs)/\Cls K C/\NoAttr K C f/\fs.lookup f=some v/\
 tv σ H1 fun y H2=>rd v y H2 fun z H3=>∃dx' fs',H3 a=some (.ins C dx' fs')/\fs'.length < 1000/\D.nx σ (upd H3 a (.ins C dx' (putF f z fs')))
section
variable {X:Cx} {o e value:Expr} {f:Str} {pos pos' tpos:Pos} {ta tv:TE} {pins:List (Addr × Obj)} {σ:St} {H:Hp} {s:Shared} {A:Around} {E Q:Value->Shared->Prop} {c:Value} {b:Bool}
theorem Yyd(he:PE X e ta)(hb:attributeBase e f X.env (eval e X.env)=eval e X.env):PE X (.Attribute e f pos) (tFld X.K ta f):=by
 intro pins s σ H Q I h
 refine Yvw hb (thn (he pins s σ H _ I h) fun u s1 hx_=>?_)
 obtain⟨x,H1,I1,rx,a,C,dx,fs,v,ex,ea,c,n,l,q⟩:=hx_
 subst ex
 obtain rfl:u=Value.ref a:=rx
 exact Yjw I1 ea c n l fun u' s2 I2 ru=>⟨v,H1,I2,ru,q⟩
theorem Yut(ha:PE X o ta)(hv:PE X value tv)(hs:swapsWith value (some (.Attribute o f pos')) pos.line X.env=pure false):PS X (.Assign [.Attribute o f pos'] value pos) (sFld X.K ta tv f):=by
 intro pins s σ H D I h
 refine plainObj_wpAny_Assign_Attribute (thn (hv pins s σ H _ I h) fun u s1 hx_=>?_) hs
 obtain⟨y,H1,I1,ry,q⟩:=hx_
 refine thn (ha pins s1 σ H1 _ I1 q) fun ov s2 hx_=>?_
 obtain⟨x,H2,I2,rx,a,C,dx,fs,ex,ea,c,n,l,q2⟩:=hx_
 subst ex
 obtain rfl:ov=Value.ref a:=rx
 exact Yjx I2 ea c n l ry fun s3 I3=>⟨σ,_,I3,q2⟩
theorem Ypq{op:Operator}{rd:V->V->Hp->VK->Prop}(ha:PE X o ta)(hv:PE X value tv)(hop:InOp X op rd):PS X (.AugAssign (.Attribute o f tpos) op value pos) (Yvx X.K ta tv rd f):=by
 intro pins s σ H D I h
 refine wpAny_AugAssign_AttributeAny (thn (ha pins s σ H _ I h) fun ov s1 hx_=>?_)
 obtain⟨x,H1,I1,rx,a,C,dx,fs,v,ex,ea,c,n,l,q⟩:=hx_
 subst ex
 obtain rfl:ov=Value.ref a:=rx
 refine Yjw I1 ea c n l fun u s2 I2 ru=>thn (hv pins s2 σ H1 _ I2 q) fun w3 s3 hx_=>?_
 obtain⟨y,H2,I3,ry,q3⟩:=hx_
 refine thn (hop pins s3 σ H2 v y u w3 _ I3 ru ry q3) fun w4 s4 hx_=>?_
 obtain⟨z,H3,I4,rz,dx',fs',ea',l',q4⟩:=hx_
 exact Yjx I4 ea' c n l' rz fun s5 I5=>⟨σ,_,I5,q4⟩
def rAdd:V->V->Hp->VK->Prop:=fun x y H Q=>∃i j,x=.int i/\y=.int j/\Q (.int (i+j)) H
theorem Yye:InOp X .Add rAdd:=by
 rintro pins s σ H x y u v Q I rx ry ⟨i,j,rfl,rfl,q⟩
 obtain⟨t,rfl⟩:=(show ∃t,u=Value.int i t from rx)
 obtain⟨t',rfl⟩:=(show ∃t',v=Value.int j t' from ry)
 exact PyProof.Rows.iadd_int ⟨.int (i+j),H,I.tok _,⟨_,rfl⟩,q⟩
inductive TyOf (K:W.Frag) (H:Hp):V->Value->Prop where
 | non:TyOf K H .non (.type "NoneType")
 | bl (x:Bool):TyOf K H (.bl x) (.type "bool")
 | int (i:Int):TyOf K H (.int i) (.type "int")
 | str (x:Str):TyOf K H (.str x) (.type "str")
 | flt (x:UInt64):TyOf K H (.flt x) (.type "float")
 | lst {a:Addr} {xs:List V} (e:H a=some (.lst xs)):TyOf K H (.ref a) (.type "list")
 | frz {a:Addr} {o:Obj} {xs:List V} (e:H a=some (.frz o (.lst xs))):TyOf K H (.ref a) (.type "list")
 | tup {a:Addr} {xs:List V} (e:H a=some (.tup xs)):TyOf K H (.ref a) (.type "tuple")
 | dK {a:Addr} {kvs:List (Key × V)} (e:H a=some (.dK kvs)):TyOf K H (.ref a) (.type "dict")
 | dT {a:Addr} {kvs:List (List Key × V)} (e:H a=some (.dT kvs)):TyOf K H (.ref a) (.type "dict")
 | ins {a C dx:Addr} {fs:List (Str × V)} (e:H a=some (.ins C dx fs)) (cl:Cls K C) (ha:W.findIn K (.ref C) "__class__"=some (some (.builtin "object.__class__")))
  (hn:W.specialIn K (.builtin "object.__class__") "__get__"=some (some (.builtin "getset_descriptor.__get__"))) (htk:W.takesIn K (.builtin "object.__class__")=some true)
  (hm:W.mroIn K C (.type "object")=some true):TyOf K H (.ref a) (.ref C)
theorem Ypr{x:V}{u t:Value}(I:Inv X pins σ H s)(rx:RelV x u)(ty:TyOf X.K H x t)(e:W.kitOne X.K t c=some b)(h:∀tk,Q (.bool b) { s with toks:=tk }) :
 wpAny (model X.prog X.w) A (call (.builtin "isinstance") [u,c]) Q E s:=by
 cases ty with
 | non=>cases (show u=Value.none from rx);exact W.kia_one W.kitx_none I.kIn True.intro e (fun z=>nomatch z) h
 | bl y=>cases (show u=Value.bool y from rx);exact W.kia_one W.kitx_bool I.kIn True.intro e (fun z=>nomatch z) h
 | int i=>obtain⟨t,q⟩:=(show ∃t,u=Value.int i t from rx);cases q;exact W.kia_one W.kitx_int I.kIn True.intro e (fun z=>nomatch z) h
 | str y=>obtain⟨t,q⟩:=(show ∃t,u=Value.str y t from rx);cases q;exact W.kia_one W.kitx_str I.kIn True.intro e (fun z=>nomatch z) h
 | flt y=>obtain⟨t,q⟩:=(show ∃t,u=Value.float y t from rx);cases q;exact W.kia_one W.kitx_float I.kIn True.intro e (fun z=>nomatch z) h
 | @lst a xs ea=>
   cases (show u=Value.ref a from rx)
   obtain⟨_,_,n,_,h1⟩:=(show ObjOk X.prog X.w H s.heap a (.lst xs) from I.hok a _ ea)
   exact W.kia_one W.kitx_list I.kIn ⟨_,h1,rfl⟩ e (fun z=>nomatch z) h
 | @frz a ob xs ea=>
   cases (show u=Value.ref a from rx)
   obtain⟨_,_,_,n,_,h1⟩:=(show ObjOk X.prog X.w H s.heap a (.frz ob (.lst xs)) from I.hok a _ ea)
   exact W.kia_one W.kitx_list I.kIn ⟨_,h1,rfl⟩ e (fun z=>nomatch z) h
 | @tup a xs ea=>
   cases (show u=Value.ref a from rx)
   obtain⟨_,_,_,p⟩:=(show ObjOk X.prog X.w H s.heap a (.tup xs) from I.hok a _ ea)
   obtain⟨o,h1,h2,_⟩:=p
   exact W.kia_one W.kitx_tuple I.kIn ⟨o,h1,h2⟩ e (fun z=>nomatch z) h
 | @dK a kvs ea=>
   cases (show u=Value.ref a from rx)
   obtain⟨_,_,vs,_,p⟩:=(show ObjOk X.prog X.w H s.heap a (.dK kvs) from I.hok a _ ea)
   obtain⟨o,es,ep,h1,h2,_⟩:=p
   exact W.kia_one W.kitx_dict I.kIn ⟨o,h1,h2.1⟩ e (fun z=>nomatch z) h
 | @dT a kvs ea=>
   cases (show u=Value.ref a from rx)
   obtain⟨_,_,xs,_,o,es,ep,h1,h2,_⟩:=(show ObjOk X.prog X.w H s.heap a (.dT kvs) from I.hok a _ ea)
   exact W.kia_one W.kitx_dict I.kIn ⟨o,h1,h2.1⟩ e (fun z=>nomatch z) h
 | @ins a C dx fs ea cl ha hn htk hm=>
   cases (show u=Value.ref a from rx)
   obtain⟨mA,O,_⟩:=Yj8 I.hok ea
   obtain⟨od,J,_⟩:=O.look
   exact W.kia_one (W.kitx_own (cl.get _) cl.hd ha hn htk hm) I.kIn J e (fun z=>nomatch z) h
end
end L2
namespace L2
open PySem PySem.Spec PyProof.Rows
structure Room(k:Nat)(A:Around):Prop where
 hd:A.handled=none
 dp:A.depth+3 * k+5 < recursionLimit
 un:A.units+16 * k+200 < cLine
theorem Room.mono{j k:Nat}{A:Around}(r:Room k A)(h:j<=k):Room j A:=⟨r.hd,by have:=r.dp;lia,by have:=r.un;lia⟩
theorem Room.deeper{k:Nat}{A:Around}(r:Room (k+1) A)(env:Env):Room k (A.deeper env):=
 ⟨r.hd,by have:=r.dp;show A.depth+1+3 * k+5 < _;lia,by have:=r.un;show A.units+3+16 * k+200 < _;lia⟩
theorem Yow{A:Around}{C:Addr}{us:List Value}{kw:List (Str × Value)}:(A.under (.builtin "type.__call__" ⟨.ref C::us,kw⟩)).depth=A.depth+1:=by
 first | rfl | simp[Around.under,Code.weight,Code.isCreation,Code.isGuard,Code.isCaller,Code.frames,Code.isFrame,guardIds]
theorem Yox{A:Around}{C:Addr}{us:List Value}{kw:List (Str × Value)}:(A.under (.builtin "type.__call__" ⟨.ref C::us,kw⟩)).units=A.units+1:=by
 first | rfl | simp[Around.under,Code.cUnits,Code.frames,Code.isFrame]
theorem Room.make{k:Nat}{A:Around}(r:Room (k+1) A)(C:Addr)(us:List Value)(kw:List (Str × Value)):Room k (A.under (.builtin "type.__call__" ⟨.ref C::us,kw⟩)):=
 ⟨r.hd,by have:=r.dp;rw[Yow];lia,by have:=r.un;rw[Yox];lia⟩
theorem Room.depth{k:Nat}{A:Around}(r:Room k A):A.depth < recursionLimit:=by have:=r.dp;lia
theorem Room.units{k:Nat}{A:Around}(r:Room k A):A.units+64 < cLine:=by have:=r.un;lia
def tNil:TA:=fun _ H Q=>Q [] H
def y06(ta:TE)(tr:TA):TA:=fun σ H Q=>ta σ H fun x H1=>tr σ H1 fun xs H2=>Q (x::xs) H2
section
variable {X:Cx} {e:Expr} {es:List Expr} {te:TE} {t:TA} {pos:Pos}
theorem Yek:PA X [] tNil:=fun _ _ _ _ H Q I h=>Calls.spliced_nil ⟨[],H,I,.nil,h⟩
theorem Ybw(ha:PE X e te)(hr:PA X es t)(hs:starEach (e::es) X.env=(false,eval e X.env)::starEach es X.env:=by rfl):PA X (e::es) (y06 te t):=by
 intro pos pins s σ H Q I h
 rw[hs]
 show wpAny _ _ (spliced ((false,eval e X.env)::backTo pos (starEach es X.env))) _ _ s
 refine Calls.spliced_cons (thn (ha pins s σ H _ I h) fun u s1 hx_=>?_)
 obtain⟨x,H1,I1,r1,q1⟩:=hx_
 refine thn (hr pos pins s1 σ H1 _ I1 q1) fun us s2 hx_=>?_
 obtain⟨xs,H2,I2,r2,q2⟩:=hx_
 exact⟨x::xs,H2,I2,.cons r1 r2,q2⟩
def tTup(t:TA):TE:=fun σ H Q=>t σ H fun xs H1=>xs.length<=sizeLine/\∀p,H1 p=none->Q (.ref p) (upd H1 p (.tup xs))
def tLst(t:TA):TE:=fun σ H Q=>t σ H fun xs H1=>xs.length<=sizeLine/\∀p,H1 p=none->Q (.ref p) (upd H1 p (.lst xs))
theorem Yuu{x1}(h:PA X es t):PE X (.Tuple es x1 pos) (tTup t):=by
 intro pins s σ H Q I hq
 refine wpAny_Tuple_spliced (thn (h pos pins s σ H _ I hq) fun us s1 ⟨xs,H1,I1,r,z,q⟩=>⟨by rw[<-r.length];exact z,?_⟩)
 have hf:H1 s1.heap.objs.size=none:=I1.hok.fresh (qu _)
 refine⟨.ref s1.heap.objs.size,upd H1 s1.heap.objs.size (.tup xs),I1.laid (t':=s1.toks) (fun b u e=>qe _ e) (qu _) ?_,rfl,q _ hf⟩
 exact⟨z,us,r,⟨_,qp _ rfl,rfl,_,rfl⟩⟩
theorem Yyf(h:PA X es t):PE X (.List es pos) (tLst t):=by
 intro pins s σ H Q I hq
 refine wpAny_List_spliced (thn (h pos pins s σ H _ I hq) fun us s1 ⟨xs,H1,I1,r,z,q⟩=>⟨by rw[<-r.length];exact z,?_⟩)
 have hf:H1 s1.heap.objs.size=none:=I1.hok.fresh (qu _)
 refine⟨.ref s1.heap.objs.size,upd H1 s1.heap.objs.size (.lst xs),I1.laid (t':=s1.toks) (fun b u e=>qe _ e) (qu _) ?_,rfl,q _ hf⟩
 exact⟨z,us,0,r,qp _ rfl⟩
end
abbrev Sp:=List V->Hp->VK->XK->Prop
abbrev CXT:=List Env->Hp->Shared->XK->Value->Shared->Prop
structure Env0(P:Program)(w:World)(K:W.Frag)(mg:Str->Option Value)(base:Heap)(A:Around)(outer:List Env)(s:Shared)(H:Hp):Prop where
 frames:A.frames=some outer
 mod:Mod K mg base
 bs:∀b o,base.get? b=some o->s.heap.get? b=some o/\H b=none
 bsz:base.objs.size<=s.heap.objs.size
 funs:s.heap.FunFrames base outer
 frf:∀b∈frs outer,H b=none
 hok:HOk P w H s.heap
 bare:AllBare s.gens
def CE(outer:List Env)(P:Program)(w:World)(H:Hp)(s:Shared)(Q:VK)(u:Value)(s':Shared):Prop:=
 ∃v H',s'.os=s.os/\AllBare s'.gens/\Un (frs outer) [] H H' s.heap s'.heap/\HOk P w H' s'.heap/\RelV v u/\Q v H'
def CR(CX:CXT)(outer:List Env)(P:Program)(w:World)(H:Hp)(s:Shared)(Q:VK)(E:XK)(r:Result)(s':Shared):Prop:=
 match r with
 | .ok (.ret u)=>CE outer P w H s Q u s'
 | .ok _=>False
 | .error e=>CX outer H s E e s'
structure FnOk(P:Program)(w:World)(K:W.Frag)(mg:Str->Option Value)(base:Heap)(CX:CXT)(k:Nat)(f:Addr)(fd:FuncData)(ps:List Str)(sp:Sp):Prop where
 len:∀vs H Q E,sp vs H Q E->vs.length=ps.length
 run:∀(A:Around) (outer:List Env) (s:Shared) (H:Hp) (args:Args) (us:List Value) (vs:List V) (Q:VK) (E:XK),Room k A->Env0 P w K mg base A outer s H->BindsTo s fd args (ps.zip us)->Vals vs us->sp vs H Q E->
  codeAny (model P w) A (.call (.ref f) args) (CR CX outer P w H s Q E) s
theorem FnOk.mono{P:Program}{w:World}{K:W.Frag}{mg:Str->Option Value}{base:Heap}{CX:CXT}{j k:Nat}{f:Addr}{fd:FuncData}{ps:List Str}{sp:Sp}(F:FnOk P w K mg base CX j f fd ps sp)(h:j<=k) :
 FnOk P w K mg base CX k f fd ps sp:=⟨F.len,fun A outer s H args us vs Q E hr=>F.run A outer s H args us vs Q E (hr.mono h)⟩
theorem Env0.make{P:Program}{w:World}{K:W.Frag}{mg:Str->Option Value}{base:Heap}{A:Around}{outer:List Env}{s:Shared}{H:Hp}(e:Env0 P w K mg base A outer s H)(C:Addr)(us:List Value)(kw:List (Str × Value)) :
 Env0 P w K mg base (A.under (.builtin "type.__call__" ⟨.ref C::us,kw⟩)) outer s H:=⟨by first | exact e.frames | (simpa [Around.under,Code.envs,Code.isFrame,pushEnvs]using e.frames),e.mod,e.bs,e.bsz,e.funs,e.frf,e.hok,e.bare⟩
section
variable {X:Cx} {pins:List (Addr × Obj)} {σ:St} {H:Hp} {s s':Shared}
theorem Inv.env0(I:Inv X pins σ H s):Env0 X.prog X.w X.K X.mg X.base X.A X.stack s H:=
 ⟨I.ok.frames,I.ok.mod,I.bs,qx I.ok.bsz I.sz,I.stack,I.stkFree,I.hok,I.bare⟩
theorem Inv.after{Q:VK}{u:Value}(I:Inv X pins σ H s)(h:CE X.stack X.prog X.w H s Q u s'):EP X pins σ Q u s':=by
 obtain⟨v,H',os,bare,un,hok,r,q⟩:=h
 obtain⟨hh,g,d,t,os'⟩:=s'
 obtain rfl:os'=s.os:=os
 exact⟨v,H',I.call (h':=hh) (g':=g) (d':=d) (t':=t) (ch:=[]) un hok bare (fun b z=>absurd z (by simp)),r,q⟩
end
def y07(sp:Sp)(dvs:List V)(E:XK)(t:TA):TE:=fun σ H Q=>t σ H fun vs H1=>sp (vs++dvs) H1 Q E
def y08(C:Addr)(m:Str)(sp:Sp)(dvs:List V)(E:XK)(ta:TE)(t:TA):TE:=fun σ H Q=>ta σ H fun x H1=>∃a dx fs,x=.ref a/\H1 a=some (.ins C dx fs)/\fs.lookup m=none/\
 t σ H1 fun vs H2=>sp (x::(vs++dvs)) H2 Q E
def y09(C:Addr)(sp:Sp)(dvs:List V)(E:XK)(t:TA):TE:=fun σ H Q=>t σ H fun vs H1=>∀x dx,H1 x=none->H1 dx=none->dx≠x->
 sp (.ref x::(vs++dvs)) (upd (upd H1 dx (.own x)) x (.ins C dx [])) (fun v H2=>v=.non/\Q (.ref x) H2) E
def Binds(K:W.Frag)(fd:FuncData)(ps:List Str)(ds:List Value):Prop:=
 ∀(s:Shared) (us:List Value),K.In s.heap->(us++ds).length=ps.length->BindsTo s fd ⟨us,[]⟩ (ps.zip (us++ds))
theorem Binds.all{K:W.Frag}{fd:FuncData}{ps:List Str}(h:∀us:List Value,us.length=ps.length->bindArgs fd ⟨us,[]⟩=pure (ps.zip us)):Binds K fd ps []:=fun s us _ hl=>by
 rw[List.append_nil]at hl ⊢
 exact .of_eq (h us hl)
def Yjy(CX:CXT)(X:Cx)(E:XK):Prop:=∀(pins:List (Addr × Obj)) (σ:St) (H:Hp) (s:Shared) (e:Value) (s':Shared),Inv X pins σ H s->CX X.stack H s E e s'->X.xe e s'
section
variable {X:Cx} {CX:CXT} {k:Nat} {f C:Addr} {fd:FuncData} {ps:List Str} {sp:Sp} {dvs:List V} {ds:List Value} {E:XK} {x m:Str} {p pos apos:Pos} {e o:Expr} {es:List Expr} {ta:TE} {t:TA}
theorem Yuv{pins:List (Addr × Obj)}{σ:St}{H:Hp}{s:Shared}{Q:VK}{us:List Value}{vs:List V}(F:FnOk X.prog X.w X.K X.mg X.base CX k f fd ps sp)(hr:Room k X.A)(hb:Binds X.K fd ps ds)(hd:Vals dvs ds)(hx:Yjy CX X E)
 (I:Inv X pins σ H s) (r:Vals vs us) (h:sp (vs++dvs) H Q E):wpAny (model X.prog X.w) X.A (call (.ref f) us) (EP X pins σ Q) X.xe s:=by
 have r2:Vals (vs++dvs) (us++ds):=r.append hd
 have hl:(us++ds).length=ps.length:=by rw[<-r2.length];exact F.len _ _ _ _ h
 refine wpAny_call (codeAny_mono (F.run X.A X.stack s H ⟨us,[]⟩ (us++ds) (vs++dvs) Q E hr I.env0 (hb s us I.kIn hl) r2 h) fun r s' hq=>?_)
 cases r with
 | error e=>exact hx pins σ H s e s' I hq
 | ok fl=>
   cases fl with
   | ret u=>exact I.after hq
   | next=>exact False.elim hq
   | brk=>exact False.elim hq
   | cont=>exact False.elim hq
theorem Yj9(F:FnOk X.prog X.w X.K X.mg X.base CX k f fd ps sp)(hr:Room k X.A)(hg:Gl X x)(hm:X.mg x=some (.ref f))(hk:W.keepIn X.K (.ref f)=true)(hb:Binds X.K fd ps ds)(hd:Vals dvs ds)(hx:Yjy CX X E)
 (ha:PA X (e::es) t) (hdb:(x==("__debug__":Str))=false:=by decide) (he:starEach (e::es) X.env=(false,eval e X.env)::starEach es X.env:=by rfl) (hpl:(backTo pos (starEach es X.env)).any (·.1)=false:=by rfl) :
 PE X (.Call (.Name x p) (e::es) [] pos) (y07 sp dvs E t):=by
 intro pins s σ H Q I h
 refine wpAny_Call_Name_kw (Yfg I hg hm ?_ hdb)
 refine W.callWith_K (h₀:=X.base) I.ok.mod.kin hk (thn (ha pos pins s σ H _ I h) fun us s1 hx_=>?_) he hpl
 obtain⟨vs,H1,I1,r,q⟩:=hx_
 refine⟨I1.kIn,?_⟩
 exact Yuv F hr hb hd hx I1 r q
theorem Ysu{pl:Sem Bool}(he:PE X o ta)(c:Cls X.K C)(hm:Meth X.K C m f)(F:FnOk X.prog X.w X.K X.mg X.base CX k f fd ps sp)(hr:Room k X.A)(hb:Binds X.K fd ps ds)(hd:Vals dvs ds)(hx:Yjy CX X E)
 (ht:eval (.Call (.Attribute o m apos) [] [] pos) X.env=(do
  let ov <-eval o X.env
  standAt apos.atName
  let (f,first) <-holding [ov] (getMethod ov m pl)
  callWith pos f first (backTo pos (starEach [] X.env)) (backToKw pos (keywordEach [] X.env))):=by rfl) :
 PE X (.Call (.Attribute o m apos) [] [] pos) (y08 C m sp dvs E ta tNil):=by
 intro pins s σ H Q I h
 refine W.methodCall_KW (pl:=pl) (thn (he pins s σ H _ I h) fun u s1 hx_=>?_) ht
 obtain⟨x,H1,I1,rx,a,dx,fs,ex,ea,l,q⟩:=hx_
 subst ex
 obtain rfl:u=Value.ref a:=rx
 refine Yov I1 ea c hm l ?_
 exact W.callWith_K0 (first:=[.ref a]) I1.kIn hm.kp (Yuv (us:=[.ref a]) (vs:=[.ref a]) F hr hb hd hx I1 (.cons rfl .nil) q)
structure Mk(K:W.Frag)(C f:Addr):Prop where
 makes:W.makesIn K C=true
 init:W.findIn K (.ref C) "__init__"=some (some (.ref f))
 fn:W.isFn K (.ref f)=true
 kp:W.keepIn K (.ref C)=true
theorem Ysv{pins:List (Addr × Obj)}{σ:St}{H:Hp}{s:Shared}{Q:VK}{us:List Value}{vs:List V}(M:Mk X.K C f)(F:FnOk X.prog X.w X.K X.mg X.base CX k f fd ps sp)(hr:Room (k+1) X.A)(hb:Binds X.K fd ps ds)(hd:Vals dvs ds)
 (hx:Yjy CX X E) (I:Inv X pins σ H s) (r:Vals vs us)
 (h:∀x dx,H x=none->H dx=none->dx≠x->sp (.ref x::(vs++dvs)) (upd (upd H dx (.own x)) x (.ins C dx [])) (fun v H2=>v=.non/\Q (.ref x) H2) E) :
 wpAny (model X.prog X.w) X.A (call (.ref C) us) (EP X pins σ Q) X.xe s:=by
 have hq:=h (s.heap.objs.size+1) s.heap.objs.size (I.hok.fresh (Nat.le_succ _)) (I.hok.fresh (qu _)) (qm (Nat.lt_succ_self _))
 have I2:=Inv.made (C:=C) I
 have r2:Vals (V.ref (s.heap.objs.size+1)::(vs++dvs)) (Value.ref (s.heap.objs.size+1)::(us++ds)):=.cons rfl (r.append hd)
 have hl:(Value.ref (s.heap.objs.size+1)::us++ds).length=ps.length:=by
  have e:=r2.length
  rw[F.len _ _ _ _ hq]at e
  exact e.symm
 refine wpAny_call (Yst (f:=f) I.kIn M.makes M.init (beq_iff_eq.mp M.fn) (codeAny_mono (F.run _ X.stack _ _ ⟨Value.ref (s.heap.objs.size+1)::us,[]⟩ (Value.ref (s.heap.objs.size+1)::(us++ds)) _ _ E (hr.make C us [])
  (I2.env0.make C us []) (hb _ (Value.ref (s.heap.objs.size+1)::us) I2.kIn hl) r2 hq) fun r s' hq'=>?_))
 cases r with
 | error e=>exact hx pins σ _ _ e s' I2 hq'
 | ok fl=>
   cases fl with
   | ret u=>
     obtain⟨v,H',I3,rv,ev,q3⟩:=I2.after hq'
     subst ev
     exact⟨rv,⟨V.ref (s.heap.objs.size+1),H',I3,rfl,q3⟩⟩
   | next=>exact False.elim hq'
   | brk=>exact False.elim hq'
   | cont=>exact False.elim hq'
theorem Yvy(M:Mk X.K C f)(F:FnOk X.prog X.w X.K X.mg X.base CX k f fd ps sp)(hr:Room (k+1) X.A)(hg:Gl X x)(hm:X.mg x=some (.ref C))(hb:Binds X.K fd ps ds)(hd:Vals dvs ds)(hx:Yjy CX X E)
 (ha:PA X (e::es) t) (hdb:(x==("__debug__":Str))=false:=by decide) (he:starEach (e::es) X.env=(false,eval e X.env)::starEach es X.env:=by rfl) (hpl:(backTo pos (starEach es X.env)).any (·.1)=false:=by rfl) :
 PE X (.Call (.Name x p) (e::es) [] pos) (y09 C sp dvs E t):=by
 intro pins s σ H Q I h
 refine wpAny_Call_Name_kw (Yfg I hg hm ?_ hdb)
 refine W.callWith_K (h₀:=X.base) I.ok.mod.kin M.kp (thn (ha pos pins s σ H _ I h) fun us s1 hx_=>?_) he hpl
 obtain⟨vs,H1,I1,r,q⟩:=hx_
 refine⟨I1.kIn,?_⟩
 exact Ysv M F hr hb hd hx I1 r q
end
section
variable {X:Cx} {CX:CXT} {k:Nat} {f C:Addr} {fd:FuncData} {ps ks:List Str} {sp:Sp} {E:XK} {x m:Str} {p pos apos kpos:Pos} {e o:Expr} {es:List Expr} {kws:List Keyword} {te ta:TE} {t tk:TA} {nm:Option Str}
structure KBinds(K:W.Frag)(fd:FuncData)(ps ks:List Str)(g:List Value->List Value->List Value)(gV:List V->List V->List V):Prop where
 to:∀(s:Shared) (us ws:List Value),K.In s.heap->(g us ws).length=ps.length->BindsTo s fd ⟨us,ks.zip ws⟩ (ps.zip (g us ws))
 rel:∀{vs:List V} {us:List Value} {zs:List V} {ws:List Value},Vals vs us->Vals zs ws->Vals (gV vs zs) (g us ws)
variable {g:List Value->List Value->List Value} {gV:List V->List V->List V}
end
structure FnScope(N P:List Str)(sc:Scope):Prop where
 kind:sc.kind=.function
 co:sc.isCoroutine=false
 gen:sc.isGenerator=false
 nd:N.Nodup
 pre:N.take P.length=P
 par:∀x∈P,sc.names.lookup x=some .local\/sc.names.lookup x=some .cell
 nofree:∀y∈sc.names,y.2≠.free
theorem Ylf{kindOf:Str->Option NameKind}{x:Str}:∀{binds:List (Str × Value)} {m:Str->Option Value},(∀v,(x,v)∉binds)->bindL kindOf binds m x=m x
 | [],_,_=>rfl
 | (n,v)::r,m,h=>by
   unfold bindL
   rw[Ylf fun w hw=>h w (qg _ hw)]
   split
   ·have:x≠n:=by rintro rfl;exact h v qh
    simp[this]
   ·rfl
theorem Ylg{kindOf:Str->Option NameKind}{x:Str}:∀{binds:List (Str × Value)} {m:Str->Option Value},(∀v,(x,v)∉binds)->bindC kindOf binds m x=m x
 | [],_,_=>rfl
 | (n,v)::r,m,h=>by
   unfold bindC
   rw[Ylg fun w hw=>h w (qg _ hw)]
   split
   ·rfl
   ·have:x≠n:=by rintro rfl;exact h v qh
    simp[this]
theorem Ylh{kindOf:Str->Option NameKind}{x:Str}{v:Value}:∀{P:List Str} {vs:List Value} {i:Nat} {m:Str->Option Value},P.Nodup->P[i]?=some x->vs[i]?=some v->kindOf x=some .local->
 bindL kindOf (P.zip vs) m x=some v
 | [],_,_,_,_,h,_,_=>by simp at h
 | _::_,[],_,_,_,_,h,_=>by simp at h
 | p::P,w::vs,0,m,nd,h1,h2,hk=>by
   simp at h1 h2;subst h1;subst h2
   show bindL kindOf ((p,w)::P.zip vs) m p=_
   unfold bindL
   rw[Ylf fun v hv=>(List.nodup_cons.mp nd).1 (List.of_mem_zip hv).1,if_pos hk]
   simp
 | p::P,w::vs,i+1,m,nd,h1,h2,hk=>by
   show bindL kindOf ((p,w)::P.zip vs) m x=_
   unfold bindL
   exact Ylh (i:=i) (List.nodup_cons.mp nd).2 (by simpa using h1) (by simpa using h2) hk
theorem Yli{kindOf:Str->Option NameKind}{x:Str}{v:Value}:∀{P:List Str} {vs:List Value} {i:Nat} {m:Str->Option Value},P.Nodup->P[i]?=some x->vs[i]?=some v->kindOf x≠some .local->
 bindC kindOf (P.zip vs) m x=some v
 | [],_,_,_,_,h,_,_=>by simp at h
 | _::_,[],_,_,_,_,h,_=>by simp at h
 | p::P,w::vs,0,m,nd,h1,h2,hk=>by
   simp at h1 h2;subst h1;subst h2
   show bindC kindOf ((p,w)::P.zip vs) m p=_
   unfold bindC
   rw[Ylg fun v hv=>(List.nodup_cons.mp nd).1 (List.of_mem_zip hv).1,if_neg hk]
   simp
 | p::P,w::vs,i+1,m,nd,h1,h2,hk=>by
   show bindC kindOf ((p,w)::P.zip vs) m x=_
   unfold bindC
   exact Yli (i:=i) (List.nodup_cons.mp nd).2 (by simpa using h1) (by simpa using h2) hk
def start(N:List Str)(vs:List V):St:=vs.map some++List.replicate (N.length - vs.length) none
def cxOf(CX:CXT)(P:Program)(w:World)(K:W.Frag)(mg:Str->Option Value)(base:Heap)(N:List Str)(qual:Str)(scope:Scope)(f:Addr)(cd:Value)(A:Around)(outer:List Env)(s:Shared)(H:Hp)(E:XK):Cx where
 prog:=P
 w:=w
 K:=K
 mg:=mg
 base:=base
 A:=A.deeper (envOfC qual scope s.heap.objs.size f cd)
 N:=N
 s₀:=s
 H₀:=H
 env:=envOfC qual scope s.heap.objs.size f cd
 outer:=outer
 stack:=envOfC qual scope s.heap.objs.size f cd::outer
 ex:=[]
 calm:=true
 fn:=fun _=>true
 pn:=[]
 xe:=fun e s'=>wpAny (model P w) (A.deeper (envOfC qual scope s.heap.objs.size f cd)) (leaving (envOfC qual scope s.heap.objs.size f cd) e) (fun _ s''=>CX outer H s E e s'') (fun e' s''=>CX outer H s E e' s'') s'
theorem Ynw{sc:Scope}{n:Nat}{x:Str}(h:sc.names.lookup x=some .cell):∃c,(cellsFrom n sc.names []).lookup x=some c:=by
 have q:=PySem.W.cellsFrom_some sc.names n [] (.inl h)
 exact Option.isSome_iff_exists.mp q
theorem Yps{CX:CXT}{P:Program}{w:World}{K:W.Frag}{mg:Str->Option Value}{base:Heap}{N ps:List Str}{qual:Str}{scope:Scope}{f:Addr}{cd:Value}{A:Around}{outer:List Env}{s s1:Shared}{H:Hp}{E:XK}{us:List Value}{vs:List V}
 (S:FnScope N ps scope) (hd:A.handled=none) (e0:Env0 P w K mg base A outer s H) (hl:vs.length=ps.length) (r:Vals vs us)
 (x:InCallC s s.heap.objs.size (bindL (envOfC qual scope s.heap.objs.size f cd).kindOf (ps.zip us) fun _=>none) (cellsFrom (s.heap.objs.size+1) scope.names []) (bindC (envOfC qual scope s.heap.objs.size f cd).kindOf (ps.zip us) fun _=>none) s1) :
 Inv (cxOf CX P w K mg base N qual scope f cd A outer s H E) [] (start N vs) H s1:=by
 have hpl:ps.length<=N.length:=by have:=congrArg List.length S.pre;rw[List.length_take]at this;lia
 obtain⟨h1,tk,rfl,hk⟩:=x.done
 have noA:∀b:Addr,b∉(cxOf CX P w K mg base N qual scope f cd A outer s H E).ex:=fun b z=>absurd (show b∈([]:List Addr) from z) (by simp)
 refine⟨⟨e0.mod,S.kind,rfl,rfl,qu _,fun y z c h1 h2=>?_,fun y hy=>?_,fun y c _ h=>?_,fun _=>hd,Around.frames_deeper e0.frames,.inr ⟨rfl,rfl⟩,fun b z=>absurd z (noA b),e0.bs,e0.bsz,fun b _ _=>noA b,fun b z=>absurd z (noA b),e0.funs,e0.frf⟩,
  rfl,e0.bare,Un.kept hk,⟨_,x.toInCall.ns,fun i y v h1 h2 h3=>?_⟩,fun y c h=>⟨_,x.cell y c h⟩,e0.hok.fresh (qu _),fun y c h=>?_,fun p hp=>absurd (show p∈([]:List (Addr × Obj)) from hp) (by simp),e0.hok.kept hk,?_⟩
 ·exact name_of_addr x.apart (PySem.mem_of_lookup h1) (PySem.mem_of_lookup h2)
 ·have hy:scope.names.lookup y=some .cell\/scope.names.lookup y=some .free:=hy
  rcases hy with hy | hy
  ·exact Ynw hy
  ·exact absurd rfl (S.nofree _ (PySem.mem_of_lookup hy))
 ·exact Nat.le_of_lt (x.above y c (PySem.mem_of_lookup h))
 ·have hi:i < vs.length:=by
   unfold start at h2
   by_cases hi:i < vs.length
   ·exact hi
   ·rw[List.getElem?_append_right (by simpa using hi)]at h2
    rw[List.getElem?_replicate]at h2
    split at h2<;>cases h2
  have ha:vs[i]?=some v:=by
   unfold start at h2
   rw[List.getElem?_append_left (by simpa using hi),qz]at h2
   cases e:vs[i]? with
   | none=>rw[e]at h2;cases h2
   | some a=>rw[e]at h2;cases h2;rfl
  obtain⟨u,hu,rv⟩:=r.get ha
  have hp:ps[i]?=some y:=by
   rw[<-S.pre,List.getElem?_take_of_lt (by lia)];exact h1
  have ndP:ps.Nodup:=by rw[<-S.pre];exact S.nd.sublist (List.take_sublist _ _)
  refine⟨u,rv,?_⟩
  rcases S.par y (List.mem_of_getElem? hp)with k | k
  ·exact .inl ⟨k,Ylh ndP hp hu k⟩
  ·obtain⟨c,e⟩:=Ynw (n:=s.heap.objs.size+1) k
   refine .inr ⟨.inl k,c,e,?_⟩
   have q:=x.cell y c e
   rw[Yli ndP hp hu (by show scope.names.lookup y≠_;rw[k];decide)]at q
   exact q
 ·exact e0.hok.fresh (Nat.le_of_lt (x.above y c (PySem.mem_of_lookup h)))
 ·unfold start
  show _=N.length
  rw[qw,qf,List.length_replicate]
  lia
theorem y1a{CX:CXT}{P:Program}{w:World}{K:W.Frag}{mg:Str->Option Value}{base:Heap}{k:Nat}{f:Addr}{name qual:Str}{params:Arguments}{body:List Stmt}{scope:Scope}{dV kV doc pm cdv ct oc:Value}{an od:Option Addr}
 {osl:Array (Option Value)} {N ps:List Str} {sp:Sp} (lk:K.lookup f=some ⟨oc,od,.func (W.fnOf name qual params body scope dV kV doc pm an cdv ct),osl⟩) (hcd:W.codeIn K cdv qual=true) (S:FnScope N ps scope)
 (len:∀vs H Q E,sp vs H Q E->vs.length=ps.length)
 (hbody:∀(A:Around) (outer:List Env) (s:Shared) (H:Hp) (vs:List V) (Q:VK) (E:XK),Room k (A.deeper (envOfC qual scope s.heap.objs.size f cdv))->sp vs H Q E->
  ∃t,PSs (cxOf CX P w K mg base N qual scope f cdv A outer s H E) body t/\t { nx:=fun _ H'=>Q .non H',rt:=Q } (start N vs) H) :
 FnOk P w K mg base CX (k+1) f (W.fnOf name qual params body scope dV kV doc pm an cdv ct) ps sp:=by
 refine⟨len,fun A outer s H args us vs Q E hr e0 hb r hsp=>?_⟩
 have hl:=len _ _ _ _ hsp
 have KX:K.In s.heap:=e0.mod.kin.keeps fun b o e=>(e0.bs b o e).1
 have lim:s.heap.NoLimit:=e0.mod.nolimit.keeps fun b o e=>(e0.bs b o e).1
 have hkind:∀y∈ps.zip us,scope.names.lookup y.1=some .local\/(scope.names.lookup y.1=some .cell/\((cellsFrom (s.heap.objs.size+1) scope.names []).lookup y.1).isSome=true):=fun⟨n,v⟩ hy=>by
  rcases S.par n (List.of_mem_zip hy).1 with q | q
  ·exact .inl q
  ·exact .inr ⟨q,PySem.W.cellsFrom_some _ _ _ (.inl q)⟩
 refine codeAny_call_function hr.depth (KX _ _ lk) rfl S.co S.gen rfl (W.codeRec_of KX hcd) (hb _ _ _ _ ?_)
 refine wpAny_newFunctionEnv_cells S.kind hkind fun env he s1 x=>?_
 subst he
 refine⟨lim.keeps x.toInCall.keep,codeAny_func ?_⟩
 obtain⟨t,ht,hq⟩:=hbody A outer s H vs Q E (hr.deeper _) hsp
 have I:Inv (cxOf CX P w K mg base N qual scope f cdv A outer s H E) [] (start N vs) H s1:=Yps S hr.hd e0 hl r x
 refine wpAny_mono (ht [] s1 (start N vs) H _ I hq) (fun fl s' hs=>?_) fun e s' hs=>hs
 have fin:∀{σ':St} {H':Hp} {v:V} {u:Value},Inv (cxOf CX P w K mg base N qual scope f cdv A outer s H E) [] σ' H' s'->RelV v u->Q v H'->CE outer P w H s Q u s':=
  fun {σ' H' v u} J rv q=>⟨v,H',J.os,J.bare,J.base,J.hok,rv,q⟩
 cases fl with
 | ret u=>
   obtain⟨v,σ',H',J,rv,q⟩:=hs
   exact fin J rv q
 | next=>
   obtain⟨σ',H',J,q⟩:=hs
   exact fin (v:=V.non) (u:=Value.none) J rfl q
 | brk=>
   obtain⟨_,_,_,q⟩:=hs
   exact False.elim q
 | cont=>
   obtain⟨_,_,_,q⟩:=hs
   exact False.elim q
end L2
namespace L2
open PySem PySem.Spec PyProof.Rows
section
variable {X:Cx} {x:Str} {p pos:Pos} {e:Expr} {es:List Expr} {t:TA} {id T:String} {r:List V->Hp->VK->Prop}
def tCB(r:List V->Hp->VK->Prop)(t:TA):TE:=fun σ H Q=>t σ H fun vs H1=>r vs H1 Q
theorem Ynx(hc:Yf7 X (.builtin id) r)(hg:Gl X x)(hm:X.mg x=none)(hv:bootBuiltins x=some (.builtin id))(ha:PA X (e::es) t)(hn:x≠"__name__":=by decide)(hdb:(x==("__debug__":Str))=false:=by decide)
 (he:starEach (e::es) X.env=(false,eval e X.env)::starEach es X.env:=by rfl) (hpl:(backTo pos (starEach es X.env)).any (·.1)=false:=by rfl):PE X (.Call (.Name x p) (e::es) [] pos) (tCB r t):=by
 intro pins s σ H Q I h
 refine wpAny_Call_Name_kw (Yh0 I hg hm hv ?_ hn hdb)
 refine PyProof.Rows.callWith_builtin1 (thn (ha pos pins s σ H _ I h) fun us s1 hx_=>?_) he hpl
 obtain⟨vs,H1,I1,r1,q1⟩:=hx_
 exact hc pins s1 σ H1 vs us Q I1 r1 q1
theorem Ylj(hc:Yf7 X (.type T) r)(hg:Gl X x)(hm:X.mg x=none)(hv:bootBuiltins x=some (.type T))(ha:PA X (e::es) t)(hn:x≠"__name__":=by decide)(hdb:(x==("__debug__":Str))=false:=by decide)
 (he:starEach (e::es) X.env=(false,eval e X.env)::starEach es X.env:=by rfl) (hpl:(backTo pos (starEach es X.env)).any (·.1)=false:=by rfl):PE X (.Call (.Name x p) (e::es) [] pos) (tCB r t):=by
 intro pins s σ H Q I h
 refine wpAny_Call_Name_kw (Yh0 I hg hm hv ?_ hn hdb)
 refine PyProof.Rows.callWith_type1 (thn (ha pos pins s σ H _ I h) fun us s1 hx_=>?_) he hpl
 obtain⟨vs,H1,I1,r1,q1⟩:=hx_
 exact hc pins s1 σ H1 vs us Q I1 r1 q1
end
end L2
namespace L2
open PySem PySem.Spec PyProof.Rows
section
variable {κ:Type} [DecidableEq κ]
theorem RelO.isSome_eq{o:Option V}{u:Option Value}(r:RelO o u):o.isSome=u.isSome:=by
 cases o with
 | none=>cases u with
   | none=>rfl
   | some _=>exact(show False from r).elim
 | some _=>cases u with
   | none=>exact(show False from r).elim
   | some _=>rfl
end
def NoSl(i:Expr):Prop:=∀ov iv,subscripted i false ov iv=operate [ov,iv] (getItem ov iv)
theorem Ymq{prog:Program}{w:World}{A:Around}{E:Value->Shared->Prop}{s:Shared}{env:Env}{value slice:Expr}{pos:Pos}{T id:String}{Q:Value->Shared->Prop}
 (hl:typeLookup (.type T) "__getitem__"=pure (some (.builtin id))) (hs:NoSl slice)
 (h:wpAny (model prog w) A (eval value env) (fun o s₁=>wpAny (model prog w) A (eval slice env) (fun i s₂=>s₂.TypeIs o T/\wpAny (model prog w) A (getItem o i) Q E s₂) E s₁) E s) :
 wpAny (model prog w) A (eval (.Subscript value slice pos) env) Q E s:=by
 refine Subscript_ (wpAny_mono h (fun o s₁ h₁=>wpAny_mono h₁ (fun i s₂ h₂=>?_) fun _ _ x=>x) fun _ _ x=>x)
 obtain⟨hT,h₂⟩:=h₂
 unfold subscriptTail
 refine wpAny_bind ?_
 rw[getitemInPython_of_ne hT.not_modules]
 refine wpAny_bind (wpAny_specialOf hT hl ?_)
 have fin:wpAny (model prog w) A (subscripted slice false o i) (fun r s₃=>wpAny (model prog w) A (letTemporaryGo value o r >>= fun _=>pure r) Q E s₃) E s₂:=by
  rw[hs o i]
  exact wpAny_operating (wpAny_mono h₂ (fun r s₃ h₃=>wpAny_bind (wpAny_letTemporaryGo (wpAny_pure h₃))) fun _ _ x=>x)
 first
  | exact wpAny_pure (wpAny_bind fin)
  | exact wpAny_bind (wpAny_pure (wpAny_bind fin))
  | exact wpAny_bind fin
def Yuw:List (TE × TE)->St->Hp->(List (V × V)->Hp->Prop)->Prop
 | [],_,H,Q=>Q [] H
 | (tk,tv)::r,σ,H,Q=>tk σ H fun x H1=>tv σ H1 fun y H2=>Yuw r σ H2 fun ps H3=>Q ((x,y)::ps) H3
abbrev VV:List (V × V)->List (Value × Value)->Prop:=Paired fun p q=>RelV p.1 q.1/\RelV p.2 q.2
def PPs(X:Cx)(pos:Pos)(keys:List (Option Expr))(values:List Expr)(trs:List (TE × TE)):Prop:=
 ∀(pins:List (Addr × Obj)) (s:Shared) (σ:St) (H:Hp) (Q:List (V × V)->Hp->Prop),Inv X pins σ H s->Yuw trs σ H Q->
  wpAny (model X.prog X.w) X.A (evalPairs (pairTrees keys values X.env pos)) (fun vs s'=>∃ps H',Inv X pins σ H' s'/\VV ps vs/\Q ps H') X.xe s
structure M1(X:Cx)(o:Expr)(m:Str)(apos:Pos)(e:Expr)(cpos:Pos):Prop where
 base:attributeBase o m X.env (eval o X.env)=eval o X.env
 few:((backTo cpos (starEach [e] X.env)).all (fun x=>!x.1)&&(backToKw cpos (keywordEach [] X.env)).all (fun x=>x.1.isSome)
  &&decide (([e]:List Expr).length+([]:List Keyword).length+(if ([]:List Keyword).isEmpty then 0 else 1) < 30))=true
 line:(apos.endLine==cpos.line)=true
 trees:backTo cpos (starEach [e] X.env)=[(false,eval e X.env)]
structure M2(X:Cx)(o:Expr)(m:Str)(apos:Pos)(e f:Expr)(cpos:Pos):Prop where
 base:attributeBase o m X.env (eval o X.env)=eval o X.env
 few:((backTo cpos (starEach [e,f] X.env)).all (fun x=>!x.1)&&(backToKw cpos (keywordEach [] X.env)).all (fun x=>x.1.isSome)
  &&decide (([e,f]:List Expr).length+([]:List Keyword).length+(if ([]:List Keyword).isEmpty then 0 else 1) < 30))=true
 line:(apos.endLine==cpos.line)=true
 trees:backTo cpos (starEach [e,f] X.env)=[(false,eval e X.env),(false,eval f X.env)]
end L2
namespace HT
open PySem PyProof.Rows
section
variable {prog:Program} {w:World} {A:Around} {E:Value->Shared->Prop} {s:Shared}
theorem cat_tup{t b:Addr}{vs ws:List Value}{Q:Value->Shared->Prop}(ht:IsTup s.heap t vs.toArray)(hb:IsTup s.heap b ws.toArray)(hv:vs≠[])
 (h1:ws=[]->Q (.ref t) s) (h2:ws≠[]->Q (.ref s.heap.objs.size) { s with heap:=s.heap.push { cls:=.type "tuple",data:=.seq (vs++ws).toArray } })
 (hsz:vs.length+ws.length<=sizeLine):wpAny (model prog w) A (binaryOp .Add (.ref t) (.ref b)) Q E s:=by
 obtain⟨⟨cls,dd,data,sl⟩,ho,hc,n,hd⟩:=id ht
 obtain⟨⟨cls2,dd2,data2,sl2⟩,ho2,hc2,n2,hd2⟩:=id hb
 simp only at hc hd hc2 hd2
 subst hc hd hc2 hd2
 have e:vs.toArray++ws.toArray=(vs++ws).toArray:=by simp
 by_cases hw:ws=[]
 ·exact concat_meets ⟨_,ho,rfl⟩ ⟨_,ho2,rfl⟩ noFill_tuple_add seq_tuple_add PySem.F.slot_tuple_add PySem.F.entry_tuple_add (PySem.F.args_tuple_add_2 _ _)
   (tuple_addW1 t b vs.toArray ws.toArray n n2 dd dd2 sl sl2 (by simpa using hv) (by simp[hw])) ⟨ho,ho2,h1 hw⟩
 ·refine concat_meets ⟨_,ho,rfl⟩ ⟨_,ho2,rfl⟩ noFill_tuple_add seq_tuple_add PySem.F.slot_tuple_add PySem.F.entry_tuple_add (PySem.F.args_tuple_add_2 _ _)
   (tuple_addW2 t b vs.toArray ws.toArray n n2 dd dd2 sl sl2 (by simpa using hv) (by simpa using hw) (by rw[qk,qk];exact hsz)) ⟨ho,ho2,?_⟩
  rw[e]
  exact h2 hw
def sIx(n d:Nat):Option Int->Nat
 | none=>d
 | some v=>if v < 0 then (v+(n:Int)).toNat else min v.toNat n
theorem sIx_none(n d:Nat):sIx n d none=d:=rfl
theorem sIx_nat(n d k:Nat):sIx n d (some (k:Int))=min k n:=by
 show(if (k:Int) < 0 then ((k:Int)+(n:Int)).toNat else min (k:Int).toNat n)=min k n
 rw[if_neg (by lia),Int.toNat_natCast]
theorem Yyg(n d:Nat)(hd:d<=n)(o:Option Int):sIx n d o<=n:=by
 cases o with
 | none=>exact hd
 | some v=>
   show(if v < 0 then (v+(n:Int)).toNat else min v.toNat n)<=n
   by_cases hv:v < 0
   ·rw[if_pos hv];lia
   ·rw[if_neg hv];exact Nat.min_le_right _ _
theorem Ypt(v:Int)(n d:Nat):(if v < 0 then max (v+(n:Int)) 0 else min v (n:Int))=((sIx n d (some v):Nat):Int):=by
 show(if v < 0 then max (v+(n:Int)) 0 else min v (n:Int))=(((if v < 0 then (v+(n:Int)).toNat else min v.toNat n):Nat):Int)
 by_cases hv:v < 0
 ·simp only[if_pos hv];lia
 ·simp only[if_neg hv];lia
theorem Yoy(lo hi:Option Int)(n:Nat):Builtin.Slice.sliceAdjust lo hi 1 (n:Int)=(((sIx n 0 lo:Nat):Int),((sIx n n hi:Nat):Int)):=by
 have h1:¬((1:Int) < 0):=by lia
 unfold Builtin.Slice.sliceAdjust
 simp only[h1,if_false]
 refine Prod.ext ?_ ?_
 ·cases lo with
  | none=>rfl
  | some v=>exact Ypt v n 0
 ·cases hi with
  | none=>rfl
  | some v=>exact Ypt v n n
theorem Yoz(i j:Nat):Builtin.Slice.slicePlaces (i:Int) (j:Int) 1=j - i:=by
 unfold Builtin.Slice.slicePlaces
 have h1:(1:Int) > 0:=by lia
 simp only[h1,if_true,Int.ediv_one]
 split<;>lia
theorem Yjz{v:Value}{o:Option Int}{Q:Option Int->Shared->Prop}(p:IsPart v o)(h:Q o s):wpAny (model prog w) A (Builtin.Slice.slicePartIndex v) Q E s:=by
 cases p with
 | none=>exact slicePart_none h
 | int i t=>exact slicePart_int h
theorem sliceApplied_gen{sl:Addr}{vl vu:Value}{lo hi:Option Int}{n:Nat}{Q:Int × Int × Nat->Shared->Prop}(hs:s.heap.IsSliceOf sl vl vu .none)(pl:IsPart vl lo)(pu:IsPart vu hi)
 (h:Q (((sIx n 0 lo:Nat):Int),1,sIx n n hi - sIx n 0 lo) s):wpAny (model prog w) A (Builtin.Slice.sliceApplied (.ref sl) (pure (n:Int))) Q E s:=by
 obtain⟨os,hos,hcs,hds⟩:=id hs
 unfold Builtin.Slice.sliceApplied Builtin.Slice.sliceFields
 refine wpAny_bind (wpAny_bind (wpAny_field hos hds (x:=vl) rfl (wpAny_bind (wpAny_field hos hds (x:=vu) rfl (wpAny_bind (wpAny_field hos hds (x:=.none) rfl (wpAny_pure ?_)))))))
 refine wpAny_bind (slicePart_none ?_)
 show wpAny _ _ (if ((1:Int)==0)=true then _ else _) _ _ s
 rw[if_neg (by decide)]
 refine wpAny_bind (Yjz pl (wpAny_bind (Yjz pu (wpAny_bind (wpAny_pure ?_)))))
 show wpAny _ _ (match Builtin.Slice.sliceAdjust lo hi 1 (n:Int)with | (lo,hi)=>pure (lo,(1:Int),Builtin.Slice.slicePlaces lo hi 1)) _ _ s
 rw[Yoy lo hi n]
 show wpAny _ _ (pure (((sIx n 0 lo:Nat):Int),(1:Int),Builtin.Slice.slicePlaces ((sIx n 0 lo:Nat):Int) ((sIx n n hi:Nat):Int) 1)) _ _ s
 rw[Yoz]
 exact wpAny_pure h
theorem Ysw(xs:Array Value)(i k:Nat):((List.range k).filterMap fun(m:Nat)=>xs[((i:Int)+(m:Int) * 1).toNat]?).toArray=((xs.toList.drop i).take k).toArray:=by
 have e:(fun(m:Nat)=>xs[((i:Int)+(m:Int) * 1).toNat]?)=fun m=>xs[i+m]?:=by
  funext m
  have:((i:Int)+(m:Int) * 1).toNat=i+m:=by lia
  rw[this]
 rw[e]
 have:=pick_run xs i k
 rw[List.filterMap_map]at this
 have e2:((fun x=>xs[x]?) ∘ fun x=>i+x)=fun m=>xs[i+m]?:=rfl
 rw[e2]at this
 rw[this]
theorem getItem_tuple_cut{t sl:Addr}{items:Array Value}{vl vu:Value}{lo hi:Option Int}{Q:Value->Shared->Prop}(ht:IsTup s.heap t items)(hs:s.heap.IsSliceOf sl vl vu .none)(pl:IsPart vl lo)(pu:IsPart vu hi)
 (hw:¬(sIx items.size 0 lo=0/\sIx items.size items.size hi=items.size))
 (h:Q (.ref s.heap.objs.size) { s with heap:=s.heap.push { cls:=.type "tuple",data:=.seq ((items.toList.drop (sIx items.size 0 lo)).take (sIx items.size items.size hi - sIx items.size 0 lo)).toArray } })
 (hsz:items.size<=sizeLine):wpAny (model prog w) A (getItem (.ref t) (.ref sl)) Q E s:=by
 have htake:sizeOk (.seq ((items.toList.drop (sIx items.size 0 lo)).take (sIx items.size items.size hi - sIx items.size 0 lo)).toArray):=by
  show((items.toList.drop (sIx items.size 0 lo)).take (sIx items.size items.size hi - sIx items.size 0 lo)).toArray.size<=sizeLine
  rw[qk,List.length_take,List.length_drop,qj]
  lia
 have hj:sIx items.size items.size hi<=items.size:=Yyg _ _ (qu _) hi
 obtain⟨os,hos,hcs,hds⟩:=id hs
 have hTs:s.TypeIs (.ref sl) "slice":=⟨os,hos,hcs⟩
 unfold getItem
 try with_reducible refine wpAny_holding ?_
 first | refine wpAny_bind (wpAny_pure ?_) | skip
 refine wpAny_bind (wpAny_sequenceKey ht.typeIs (by decide) ?_)
 refine wpAny_bind (wpAny_callSpecial?_slot (name:=Str.ofString "__getitem__") ht.typeIs PyProof.Rows.slot_tuple_getitem
  (wpAny_call_entry PyProof.Rows.slot_tuple_getitem ht.typeIs entry_tuple_getitem ?_ (args_tuple_getitem _ _)))
 show wpAny _ _ (Builtin.Tuple.tupleItemsOf (.ref t) >>= _) _ _ s
 refine wpAny_bind (tupleItemsOf_ ht ?_)
 refine wpAny_bind (wpAny_typeOf hTs ?_)
 rw[if_pos (by decide)]
 refine wpAny_bind (sliceApplied_gen hs pl pu ?_)
 have hno:¬((((sIx items.size 0 lo:Nat):Int)==0&&(1:Int)==1&&(sIx items.size items.size hi - sIx items.size 0 lo)==items.size)=true):=by
  intro q
  rw[Qg,Qg]at q
  have q1:((sIx items.size 0 lo:Nat):Int)=0:=eq_of_beq q.1.1
  have q2:sIx items.size items.size hi - sIx items.size 0 lo=items.size:=eq_of_beq q.2
  exact hw ⟨by lia,by lia⟩
 show wpAny _ _ (if (((sIx items.size 0 lo:Nat):Int)==0&&(1:Int)==1&&(sIx items.size items.size hi - sIx items.size 0 lo)==items.size)=true then _ else _) _ _ s
 rw[if_neg hno,Ysw]
 first
  | exact wpAny_bind (m:=Builtin.Tuple.tupleExact _) (wpAny_newObj_type (wpAny_pure ⟨_,rfl,wpAny_pure h⟩) htake)
  | exact wpAny_bind (m:=Builtin.Tuple.tupleExact _) (wpAny_newObj_type (wpAny_bind (wpAny_pure (wpAny_pure ⟨_,rfl,wpAny_pure h⟩))) htake)
  | exact wpAny_bind (wpAny_bind (m:=Builtin.Tuple.tupleExact _) (wpAny_newObj_type (wpAny_pure (wpAny_pure ⟨_,rfl,wpAny_pure h⟩)) htake))
  | exact wpAny_bind (wpAny_bind (m:=Builtin.Tuple.tupleExact _) (wpAny_newObj_type (wpAny_pure ⟨_,rfl,wpAny_pure h⟩) htake))
end
end HT
namespace L2
open PySem PySem.Spec PyProof.Rows
abbrev TO:=St->Hp->(Option Int->Hp->Prop)->Prop
def PO(X:Cx)(e:Option Expr)(t:TO):Prop:=
 ∀(pins:List (Addr × Obj)) (s:Shared) (σ:St) (H:Hp) (Q:Option Int->Hp->Prop),Inv X pins σ H s->t σ H Q->
  wpAny (model X.prog X.w) X.A (evalPart e X.env) (fun u s'=>∃o H',Inv X pins σ H' s'/\IsPart u o/\Q o H') X.xe s
def Ypu:TO:=fun _ H Q=>Q none H
def Yyh(t:TE):TO:=fun σ H Q=>t σ H fun x H1=>∃i,x=.int i/\Q (some i) H1
theorem Yo0{ns:List Int}:∀{us:List Value},Vals (ns.map V.int) us->IntsAre us ns:=by
 induction ns with
 | nil=>intro us r;rw[List.map_nil]at r;cases r;exact .nil
 | cons n ns ih=>
   intro us r
   rw[qy]at r
   cases r with
   | cons r1 r2=>
     obtain⟨t,e⟩:=r1
     subst e
     exact .cons n t (ih r2)
section
variable {X:Cx} {e:Expr} {te:TE} {lo hi:Option Expr} {tl th:TO} {pos p2:Pos}
theorem Ypv:PO X none Ypu:=by
 intro pins s σ H Q I h
 rw[evalPart_none]
 exact wpAny_pure ⟨none,H,I,.none,h⟩
theorem Ypw(h:PE X e te):PO X (some e) (Yyh te):=by
 intro pins s σ H Q I hw
 rw[evalPart_some]
 refine thn (h pins s σ H _ I hw) fun u s1 hx_=>?_
 obtain⟨x,H1,I1,r1,q1⟩:=hx_
 obtain⟨i,rfl,q⟩:=q1
 obtain⟨t,rfl⟩:=r1
 exact⟨some i,H1,I1,.int i t,q⟩
def SlR(X:Cx)(r:V->Option Int->Option Int->Hp->VK->Prop):Prop:=
 ∀(pins:List (Addr × Obj)) (s:Shared) (σ:St) (H:Hp) (x:V) (v vl vu:Value) (lo hi:Option Int) (sl:Addr) (Q:VK),Inv X pins σ H s->RelV x v->s.heap.IsSliceOf sl vl vu .none->IsPart vl lo->IsPart vu hi->r x lo hi H Q->
  ∃T id,typeLookup (.type T) "__getitem__"=pure (some (.builtin id))/\s.TypeIs v T/\wpAny (model X.prog X.w) X.A (getItem v (.ref sl)) (EP X pins σ Q) X.xe s
theorem SlR.or{r r':V->Option Int->Option Int->Hp->VK->Prop}(h:SlR X r)(h':SlR X r'):SlR X (fun x lo hi H Q=>r x lo hi H Q\/r' x lo hi H Q):=by
 intro pins s σ H x v vl vu lo hi sl Q I rx hs pl pu q
 rcases q with q | q
 ·exact h pins s σ H x v vl vu lo hi sl Q I rx hs pl pu q
 ·exact h' pins s σ H x v vl vu lo hi sl Q I rx hs pl pu q
def tSl(r:V->Option Int->Option Int->Hp->VK->Prop)(te:TE)(tl th:TO):TE:=fun σ H Q=>te σ H fun x H1=>tl σ H1 fun l H2=>th σ H2 fun u H3=>r x l u H3 Q
theorem Yny{r:V->Option Int->Option Int->Hp->VK->Prop}(hr:SlR X r)(he:PE X e te)(hl:PO X lo tl)(hu:PO X hi th):PE X (.Subscript e (.Slice lo hi none p2) pos) (tSl r te tl th):=by
 intro pins s σ H Q I h
 refine Subscript_ (thn (he pins s σ H _ I h) fun v s1 hx_=>?_)
 obtain⟨x,H1,I1,r1,q1⟩:=hx_
 refine wpAny_Slice (thn (hl pins s1 σ H1 _ I1 q1) fun vl s2 hx_=>?_)
 obtain⟨l,H2,I2,pl,q2⟩:=hx_
 refine thn (hu pins s2 σ H2 _ I2 q2) fun vu s3 hx_=>?_
 obtain⟨u,H3,I3,pu,q3⟩:=hx_
 rw[evalPart_none]
 refine wpAny_pure ?_
 have I4:Inv X pins σ H3 { s3 with heap:=s3.heap.push { cls:=.type "slice",data:=.fields #[vl,vu,.none] } }:=I3.kept (t':=s3.toks) fun b ob q=>qe _ q
 obtain⟨T,id,hT,ht,hg⟩:=hr pins { s3 with heap:=s3.heap.push { cls:=.type "slice",data:=.fields #[vl,vu,.none] } } σ H3 x v vl vu l u s3.heap.objs.size Q I4 r1 (Heap.IsSliceOf.new ..) pl pu q3
 show wpAny (model X.prog X.w) X.A (subscriptTail e (.Slice lo hi none p2) v (.ref s3.heap.objs.size)) (EP X pins σ Q) X.xe { s3 with heap:=s3.heap.push { cls:=.type "slice",data:=.fields #[vl,vu,.none] } }
 exact tail_any (ops:=[.ref s3.heap.objs.size,v]) ht hT hg (by with_unfolding_all rfl)
def cutV(xs:List V)(lo hi:Option Int):List V:=(xs.drop (HT.sIx xs.length 0 lo)).take (HT.sIx xs.length xs.length hi - HT.sIx xs.length 0 lo)
theorem Yh7(xs:List V)(lo hi:Option Int):(cutV xs lo hi).length<=xs.length:=by
 unfold cutV
 rw[List.length_take,List.length_drop]
 lia
def rSlT(K:W.Frag):V->Option Int->Option Int->Hp->VK->Prop:=fun x lo hi H Q=>∃a xs,x=.ref a/\SqT K H a xs/\
 ¬(HT.sIx xs.length 0 lo=0/\HT.sIx xs.length xs.length hi=xs.length)/\∀p,H p=none->Q (.ref p) (upd H p (.tup (cutV xs lo hi)))
theorem Yyi:SlR X (rSlT X.K):=by
 intro pins s σ H x v vl vu lo hi sl Q I rx hs pl pu h
 obtain⟨a,xs,rfl,hx,hw,q⟩:=h
 cases rx
 obtain⟨its,r,ht,hz⟩:=I.tuple hx
 have hlen:its.toArray.size=xs.length:=by rw[qk];exact r.length.symm
 refine⟨"tuple",_,PyProof.Rows.slot_tuple_getitem.lookup,ht.typeIs,?_⟩
 refine HT.getItem_tuple_cut ht hs pl pu (by rw[hlen];exact hw) ?_ (by rw[hlen];exact hz)
 rw[hlen]
 refine⟨.ref s.heap.objs.size,_,I.laid (t':=s.toks) (o:=.tup (cutV xs lo hi)) (fun b ob q=>qe _ q) (qu _) ?_,rfl,q _ (I.hok.fresh (qu _))⟩
 exact⟨qx (Yh7 xs lo hi) hz,_,(r.drop (HT.sIx xs.length 0 lo)).take (HT.sIx xs.length xs.length hi - HT.sIx xs.length 0 lo),IsTup.new _ _⟩
def y1b(K:W.Frag):R2:=fun x y H Q=>∃a b xs ys,x=.ref a/\y=.ref b/\SqT K H a xs/\SqT K H b ys/\xs≠[]/\xs.length+ys.length<=sizeLine/\
 (ys=[]->Q (.ref a) H)/\(ys≠[]->∀p,H p=none->Q (.ref p) (upd H p (.tup (xs++ys))))
theorem Vals.nil_iff{xs:List V}{us:List Value}(r:Vals xs us):us=[]↔xs=[]:=by
 cases r with
 | nil=>simp
 | cons _ _=>simp
theorem Yvz:OpR X (binaryOp .Add) (y1b X.K):=by
 intro pins s σ H x y v u Q I rx ry h
 obtain⟨a,b,xs,ys,rfl,rfl,ha,hb,hx,hz,q1,q2⟩:=h
 cases rx
 cases ry
 obtain⟨its,r1,p1,_⟩:=I.tuple ha
 obtain⟨its2,r2,p2,_⟩:=I.tuple hb
 refine HT.cat_tup p1 p2 (fun z=>hx (r1.nil_iff.mp z)) (fun z=>⟨.ref a,H,I,rfl,q1 (r2.nil_iff.mp z)⟩) (fun z=>?_) (by rw[<-r1.length,<-r2.length];exact hz)
 refine⟨.ref s.heap.objs.size,_,I.laid (t':=s.toks) (o:=.tup (xs++ys)) (fun b ob q=>qe _ q) (qu _) ?_,rfl,q2 (fun w=>z (r2.nil_iff.mpr w)) _ (I.hok.fresh (qu _))⟩
 exact⟨by rw[qw];exact hz,_,r1.append r2,IsTup.new _ _⟩
end
end L2
namespace L2
open PySem PySem.Spec PyProof.Rows
def ixN(n:Nat)(i:Int):Option Nat:=if 0<=i then (if i < n then some i.toNat else none)else if -(n:Int)<=i then some (i+n).toNat else none
def atI{α:Type}(xs:List α)(i:Int):Option α:=(ixN xs.length i).bind fun j=>xs[j]?
theorem Yv0{n:Nat}{i:Int}{j:Nat}(h:ixN n i=some j):seqIndex? i n=some j/\j < n/\-(n:Int)<=i/\i < n:=by
 unfold ixN at h
 by_cases h0:0<=i
 ·rw[if_pos h0]at h
  by_cases h1:i < n
  ·rw[if_pos h1]at h
   have e:i.toNat=j:=Option.some.inj h
   exact⟨by rw[seqIndex_of h0 h1,e],by lia,by lia,h1⟩
  ·rw[if_neg h1]at h;cases h
 ·rw[if_neg h0]at h
  by_cases h1:-(n:Int)<=i
  ·rw[if_pos h1]at h
   have e:(i+n).toNat=j:=Option.some.inj h
   exact⟨by rw[seqIndex_neg (by lia) h1,e],by lia,h1,by lia⟩
  ·rw[if_neg h1]at h;cases h
theorem Ymr{α:Type}{xs:List α}{i:Int}{v:α}(h:atI xs i=some v):∃j,seqIndex? i xs.length=some j/\xs[j]?=some v/\j < xs.length/\-(xs.length:Int)<=i/\i < xs.length:=by
 unfold atI at h
 cases e:ixN xs.length i with
 | none=>rw[e]at h;cases h
 | some j=>
   rw[e]at h
   obtain⟨h1,h2,h3,h4⟩:=Yv0 e
   exact⟨j,h1,h,h2,h3,h4⟩
theorem Yka{α:Type}{xs:List α}{j:Nat}{v:α}(h:xs[j]?=some v):atI xs (j:Int)=some v:=by
 have hj:j < xs.length:=(qo h).1
 have e:ixN xs.length (j:Int)=some j:=by
  unfold ixN
  rw[if_pos (by lia),if_pos (by lia)];simp
 unfold atI;rw[e];exact h
def Ygy(b:Expr):Prop:=∀o i,subscripted b false o i=operate [o,i] (getItem o i)
def IxR(X:Cx)(r:R2):Prop:=
 ∀(value slice:Expr) (pins:List (Addr × Obj)) (s:Shared) (σ:St) (H:Hp) (x y:V) (v u:Value) (Q:VK),Inv X pins σ H s->RelV x v->RelV y u->r x y H Q->
  subscripted slice false v u=operate [v,u] (getItem v u)->wpAny (model X.prog X.w) X.A (subscriptTail value slice v u) (EP X pins σ Q) X.xe s
def MtR(X:Cx)(id:String)(r:V->List V->Hp->VK->Prop):Prop:=
 ∀(pins:List (Addr × Obj)) (s:Shared) (σ:St) (H:Hp) (x:V) (xs:List V) (v:Value) (us:List Value) (Q:VK),Inv X pins σ H s->RelV x v->Vals xs us->r x xs H Q->
  wpAny (model X.prog X.w) X.A (call (.builtin id) (v::us)) (EP X pins σ Q) X.xe s
section
variable {X:Cx} {a b:Expr} {ta tb:TE} {pos:Pos}
theorem IxR.or{r r':R2}(h:IxR X r)(h':IxR X r'):IxR X (fun x y H Q=>r x y H Q\/r' x y H Q):=by
 intro value slice pins s σ H x y v u Q I rx ry q hs
 rcases q with q | q
 ·exact h value slice pins s σ H x y v u Q I rx ry q hs
 ·exact h' value slice pins s σ H x y v u Q I rx ry q hs
theorem y1c{r:R2}(hr:IxR X r)(ha:PE X a ta)(hb:PE X b tb)(hs:Ygy b):PE X (.Subscript a b pos) (tOp r ta tb):=by
 intro pins s σ H Q I h
 exact Subscript_ (binT ha hb I h fun v u s2 x y H2 I2 rx ry q=>hr a b pins s2 σ H2 x y v u Q I2 rx ry q (hs _ _))
def rIxL(K:W.Frag):R2:=fun x y H Q=>∃p xs i v,x=.ref p/\y=.int i/\SqL K H p xs/\atI xs i=some v/\Q v H
def rIxT(K:W.Frag):R2:=fun x y H Q=>∃p xs i v,x=.ref p/\y=.int i/\SqT K H p xs/\atI xs i=some v/\Q v H
def rIxS:R2:=fun x y H Q=>∃z i c,x=.str z/\y=.int i/\z.length<=sizeLine/\atI z.cps.toList i=some c/\Q (.str ⟨#[c]⟩) H
theorem ix_list:IxR X (rIxL X.K):=by
 intro value slice pins s σ H x y v u Q I rx ry h hs
 obtain⟨p,xs,i,z,rfl,rfl,hq,he,q⟩:=h
 cases rx
 obtain⟨t,rfl⟩:=ry
 obtain⟨its,r,pl,hz⟩:=I.list hq
 obtain⟨j,h1,h2,h3,h4,h5⟩:=Ymr he
 obtain⟨w,ew,rw'⟩:=r.get h2
 have hl:=r.length
 have hn:=Yjv
 have fin:EP X pins σ Q w s:=⟨z,H,I,rw',q⟩
 by_cases h0:0<=i
 ·have hj:i.toNat=j:=by
   rw[seqIndex_of h0 h5]at h1
   exact Option.some.inj h1
  exact item_listR pl.isList h0 (by lia) (by rw[hj];simpa using ew) fin hs
 ·have hj:(i+(its.toArray.size:Int)).toNat=j:=by
   rw[seqIndex_neg (by lia) h4]at h1
   rw[qk,<-hl]
   exact Option.some.inj h1
  exact subscriptTail_builtinR (x:=w) pl.isList.typeIs slot_list_getitem.lookup
   (wpAny_getItem_list_neg (Q:=fun r s'=>r=w/\EP X pins σ Q r s') pl.isList (by lia) (by rw[qk]<;>lia) (by lia) (by rw[hj];simpa using ew) ⟨rfl,fin⟩) hs
theorem ix_tup:IxR X (rIxT X.K):=by
 intro value slice pins s σ H x y v u Q I rx ry h hs
 obtain⟨p,xs,i,z,rfl,rfl,hq,he,q⟩:=h
 cases rx
 obtain⟨t,rfl⟩:=ry
 obtain⟨its,r,pl,hz⟩:=I.tuple hq
 obtain⟨j,h1,h2,h3,h4,h5⟩:=Ymr he
 obtain⟨w,ew,rw'⟩:=r.get h2
 have hl:=r.length
 have hn:=Yjv
 have fin:EP X pins σ Q w s:=⟨z,H,I,rw',q⟩
 exact subscriptTail_builtinR (x:=w) pl.typeIs slot_tuple_getitem.lookup
  (getItem_tuple (j:=j) (Q:=fun r s'=>r=w/\EP X pins σ Q r s') pl (by lia) (by lia) (by rw[qk,<-hl];exact h1) (by simpa using ew) ⟨rfl,fin⟩) hs
theorem Yux:IxR X rIxS:=by
 intro value slice pins s σ H x y v u Q I rx ry h hs
 obtain⟨z,i,c,rfl,rfl,hz,he,q⟩:=h
 obtain⟨t,rfl⟩:=rx
 obtain⟨t',rfl⟩:=ry
 obtain⟨j,h1,h2,h3,h4,h5⟩:=Ymr he
 have hl:z.cps.toList.length=z.length:=by simp[Str.length]
 rw[hl]at h1 h4 h5
 have hn:=Yjv
 exact tail_any (typeIs_str s z t) slot_str_getitem.lookup (getItem_str (c:=c) (by
  have e1:decide (i < -(2 ^ 63:Int))=false:=decide_eq_false (by lia)
  have e2:decide (i≥2 ^ 63)=false:=decide_eq_false (by lia)
  rw[e1,e2,Bool.or_false]) (by rw[h1];simpa using h2) ⟨.str ⟨#[c]⟩,H,I.tok _,⟨_,rfl⟩,q⟩) hs
def rIx(K:W.Frag):R2:=fun x y H Q=>rIxL K x y H Q\/rIxT K x y H Q\/rIxS x y H Q
theorem Yyj:IxR X (rIx X.K):=ix_list.or (ix_tup.or Yux)
theorem Ylk(lo hi:Option Int)(n:Nat):(sliceBounds lo hi none n).1=((HT.sIx n 0 lo:Nat):Int)/\(sliceBounds lo hi none n).2.1=((HT.sIx n n hi:Nat):Int)/\(sliceBounds lo hi none n).2.2=1:=by
 refine⟨?_,?_,rfl⟩
 ·cases lo with
  | none=>simp[sliceBounds,HT.sIx]
  | some i=>
    simp only[sliceBounds,HT.sIx,Option.getD_none,show(1:Int) > 0 by decide,if_true]
    by_cases h:i < 0
    ·simp only[h,if_true]<;>lia
    ·simp only[h,if_false]<;>lia
 ·cases hi with
  | none=>simp[sliceBounds,HT.sIx]
  | some i=>
    simp only[sliceBounds,HT.sIx,Option.getD_none,show(1:Int) > 0 by decide,if_true]
    by_cases h:i < 0
    ·simp only[h,if_true]<;>lia
    ·simp only[h,if_false]<;>lia
theorem Ykb(its:List Value)(lo hi:Option Int):slicePick its.toArray lo hi none=((its.drop (HT.sIx its.length 0 lo)).take (HT.sIx its.length its.length hi - HT.sIx its.length 0 lo)).toArray:=by
 obtain⟨h1,h2,h3⟩:=Ylk lo hi its.toArray.size
 unfold slicePick
 rw[h1,h2,h3]
 simp only[sliceRange_one,pick_run,qk]<;>rfl
def rSlL(K:W.Frag):V->Option Int->Option Int->Hp->VK->Prop:=fun x lo hi H Q=>∃a xs,x=.ref a/\SqL K H a xs/\∀p,H p=none->Q (.ref p) (upd H p (.lst (cutV xs lo hi)))
theorem Yv1:SlR X (rSlL X.K):=by
 intro pins s σ H x v vl vu lo hi sl Q I rx hs pl pu h
 obtain⟨a,xs,rfl,hx,q⟩:=h
 cases rx
 obtain⟨its,r,ht,hz⟩:=I.list hx
 have hlen:=r.length
 refine⟨"list",_,slot_list_getitem.lookup,ht.isList.typeIs,?_⟩
 refine wpAny_getItem_list_slice ht.isList hs pl pu .none (by simp) ?_ (by rw[qk]<;>lia)
 rw[Ykb,<-hlen]
 refine⟨.ref s.heap.objs.size,_,I.laid (t':=s.toks) (o:=.lst (cutV xs lo hi)) (fun b ob q=>qe _ q) (qu _) ?_,rfl,q _ (I.hok.fresh (qu _))⟩
 exact⟨qx (Yh7 xs lo hi) hz,_,0,(r.drop (HT.sIx xs.length 0 lo)).take (HT.sIx xs.length xs.length hi - HT.sIx xs.length 0 lo),qp _ rfl⟩
theorem Yam:Yf7 X (.builtin "len") (fun xs H Q=>∃p ys,xs=[.ref p]/\(SqL X.K H p ys\/SqT X.K H p ys)/\Q (.int ys.length) H):=by
 intro pins s σ H xs us Q I r h
 obtain⟨p,ys,rfl,hq,q⟩:=h
 obtain⟨u,rfl,rx⟩:=Yh2 r
 cases rx
 have hn:=Yjv
 rcases hq with hq | hq
 ·obtain⟨its,r',pl,hz⟩:=I.list hq
  have hlen:=r'.length
  exact Calls.call_len_list pl.isList (by simp only[qk]<;>lia) ⟨.int ys.length,H,I.tok _,⟨s.toks+1,by rw[qk,hlen]⟩,q⟩
 ·obtain⟨its,r',pl,hz⟩:=I.tuple hq
  have hlen:=r'.length
  exact len_tuple pl (by simp only[qk]<;>lia) ⟨.int ys.length,H,I.tok _,⟨s.toks+1,by rw[qk,hlen]⟩,q⟩
theorem Yhd:Yf7 X (.builtin "len") (fun xs H Q=>∃z,xs=[.str z]/\z.length<=sizeLine/\Q (.int z.length) H):=by
 intro pins s σ H xs us Q I r h
 obtain⟨z,rfl,hz,q⟩:=h
 obtain⟨u,rfl,t,rfl⟩:=Yh2 r
 have hn:=Yjv
 exact len_str (by lia) ⟨.int z.length,H,I.tok _,⟨_,rfl⟩,q⟩
theorem Ycq:Yf7 X (.type "tuple") (fun xs H Q=>∃p ys,xs=[.ref p]/\((SqL X.K H p ys/\∀l,H l=none->Q (.ref l) (upd H l (.tup ys)))\/(SqT X.K H p ys/\Q (.ref p) H))):=by
 intro pins s σ H xs us Q I r h
 obtain⟨p,ys,rfl,h⟩:=h
 obtain⟨u,rfl,rx⟩:=Yh2 r
 cases rx
 rcases h with⟨hq,q⟩ | ⟨hq,q⟩
 ·obtain⟨its,r',pl,hz⟩:=I.list hq
  have hlen:=r'.length
  refine call_tuple_list pl.isList (fun h' kp=>?_) (by simp only[qk]<;>lia)
  have I1:Inv X pins σ H { s with heap:=h' }:=I.kept (t':=s.toks) kp
  have I2:Inv X pins σ (upd H h'.objs.size (.tup ys)) { s with heap:=h'.push { cls:=.type "tuple",data:=.seq its.toArray } }:=
   I1.laid (t':=s.toks) (fun b o e=>qe _ e) (qu _) (show ObjOk X.prog X.w _ _ _ (.tup ys) from⟨hz,its,r',IsTup.new _ _⟩)
  exact⟨.ref h'.objs.size,_,I2,rfl,q _ (I1.hok.fresh (qu _))⟩
 ·obtain⟨its,r',pl,hz⟩:=I.tuple hq
  exact call_tuple_same pl ⟨.ref p,H,I,rfl,q⟩
def tyV(K:W.Frag)(T:String)(x:V)(H:Hp):Prop:=match x with
 | .str _=>T="str"
 | .int _=>T="int"
 | .ref p=>(T="list"/\∃xs,SqL K H p xs)\/(T="tuple"/\∃o,K.lookup p=some o/\o.cls=.type "tuple"/\o.dict=none)\/
  (T="dict"/\((∃kvs,H p=some (.dK kvs))\/∃kvs,H p=some (.dT kvs)))\/(T="set"/\∃S n,H p=some (.set S n))
 | _=>False
theorem Yuy{pins:List (Addr × Obj)}{σ:St}{H:Hp}{s:Shared}{T:String}{x:V}{v:Value}(I:Inv X pins σ H s)(r:RelV x v)(ty:tyV X.K T x H) :
 s.TypeIs v T/\∀a,v=.ref a->∃ob,s.heap.get? a=some ob/\ob.dict=none:=by
 cases x with
 | str z=>
   obtain⟨t,rfl⟩:=r
   cases (show T="str" from ty)
   exact⟨typeIs_str s z t,fun _ e=>nomatch e⟩
 | int i=>
   obtain⟨t,rfl⟩:=r
   cases (show T="int" from ty)
   exact⟨typeIs_int s i t,fun _ e=>nomatch e⟩
 | ref p=>
   cases r
   rcases ty with⟨rfl,xs,hq⟩ | ⟨rfl,o,hk,hc,hd⟩ | ⟨rfl,hk⟩ | ⟨rfl,S,n,hk⟩
   ·obtain⟨its,_,pl,_⟩:=I.list hq
    refine⟨pl.isList.typeIs,fun a e=>?_⟩
    cases e
    obtain⟨o,n,e,c,hd,_⟩:=pl
    exact⟨o,e,hd⟩
   ·refine⟨⟨o,I.kIn p o hk,hc⟩,fun a e=>?_⟩
    cases e
    exact⟨o,I.kIn _ o hk,hd⟩
   ·have z:∃o,s.heap.get? p=some o/\o.ExactDict:=by
     rcases hk with⟨kvs,hk⟩ | ⟨kvs,hk⟩
     ·obtain⟨_,_,_,_,o,_,_,e,ex,_⟩:=I.hok p _ hk
      exact⟨o,e,ex⟩
     ·obtain⟨_,_,_,_,o,_,_,e,ex,_⟩:=I.hok p _ hk
      exact⟨o,e,ex⟩
    obtain⟨o,e,ex⟩:=z
    refine⟨⟨o,e,ex.1⟩,fun a e2=>?_⟩
    cases e2
    exact⟨o,e,ex.2.1⟩
   ·obtain⟨o,_,_,_,e,ex,_⟩:=I.hok p _ hk
    refine⟨⟨o,e,ex.1⟩,fun a e2=>?_⟩
    cases e2
    exact⟨o,e,ex.2.1⟩
 | _=>exact False.elim ty
def tBM0(K:W.Frag)(T:String)(r:V->List V->Hp->VK->Prop)(to:TE):TE:=fun σ H Q=>to σ H fun x H1=>tyV K T x H1/\r x [] H1 Q
def tBM(K:W.Frag)(T:String)(r:V->List V->Hp->VK->Prop)(to:TE)(t:TA):TE:=fun σ H Q=>to σ H fun x H1=>tyV K T x H1/\t σ H1 fun xs H2=>r x xs H2 Q
variable {o e:Expr} {es:List Expr} {to:TE} {t:TA} {name:Str} {apos cpos:Pos} {T id:String} {r:V->List V->Hp->VK->Prop}
theorem Yyk(pa:PlainAttrs T)(slot:Slot T name id)(hty:typeOf (.builtin id)=pure (.type "method_descriptor"))(hm:MtR X id r)(ho:PE X o to)
 (hbase:attributeBase o name X.env (eval o X.env)=eval o X.env:=by rfl) (hline:(apos.endLine==cpos.line)=true:=by rfl):PE X (.Call (.Attribute o name apos) [] [] cpos) (tBM0 X.K T r to):=by
 intro pins s σ H Q I h
 refine wpAny_Call_method0_late hbase hline (thn (ho pins s σ H _ I h) fun v s1 hx_=>?_)
 obtain⟨x,H1,I1,r1,ty,q1⟩:=hx_
 obtain⟨h1,h2⟩:=Yuy I1 r1 ty
 exact⟨T,id,pa,slot,hty,h1,h2,Calls.callWith_builtin rfl (PySem.evalArgs_none (hm pins s1 σ H1 x [] v [] Q I1 r1 .nil q1))⟩
theorem Ypx(pa:PlainAttrs T)(slot:Slot T name id)(hty:typeOf (.builtin id)=pure (.type "method_descriptor"))(hm:MtR X id r)(ho:PE X o to)(ha:PA X (e::es) t)
 (hbase:attributeBase o name X.env (eval o X.env)=eval o X.env:=by rfl)
 (hfew:((backTo cpos (starEach (e::es) X.env)).all (fun x=>!x.1)&&(backToKw cpos (keywordEach [] X.env)).all (fun x=>x.1.isSome)
  &&decide ((e::es).length+([]:List Keyword).length+(if ([]:List Keyword).isEmpty then 0 else 1) < 30))=true:=by rfl)
 (hline:(apos.endLine==cpos.line)=true:=by rfl) (hs:starEach (e::es) X.env=(false,eval e X.env)::starEach es X.env:=by rfl) (hplain:(backTo cpos (starEach es X.env)).any (·.1)=false:=by rfl) :
 PE X (.Call (.Attribute o name apos) (e::es) [] cpos) (tBM X.K T r to t):=by
 intro pins s σ H Q I h
 refine wpAny_Call_method_late hbase hfew hline rfl (thn (ho pins s σ H _ I h) fun v s1 hx_=>?_)
 obtain⟨x,H1,I1,r1,ty,q1⟩:=hx_
 obtain⟨h1,h2⟩:=Yuy I1 r1 ty
 refine⟨T,id,pa,slot,hty,h1,h2,?_⟩
 have hA:=ha cpos pins s1 σ H1 _ I1 q1
 rw[hs]at hA ⊢
 refine Calls.callWith_builtin (by show(false||(backTo cpos (starEach es X.env)).any (·.1))=false;rw[hplain]<;>rfl) (Calls.evalArgs_plain ?_)
 refine thn hA fun us s2 hx_=>?_
 obtain⟨vs,H2,I2,r2,q2⟩:=hx_
 exact hm pins s2 σ H2 x vs v us Q I2 r1 r2 q2
end
end L2
namespace L2
open PySem PySem.Spec PyProof.Rows
def MtM(X:Cx)(id:String)(r:V->List V->Hp->VK->Prop):Prop:=
 ∀(pins:List (Addr × Obj)) (s:Shared) (σ:St) (H:Hp) (x:V) (xs:List V) (v:Value) (us:List Value) (Q:VK),Inv X pins σ H s->RelV x v->Vals xs us->r x xs H Q->
  wpAny (model X.prog X.w) X.A (call (.builtin id) (v::us)) (EP X pins σ Q) X.xe s
theorem Vals.one:∀{x:V} {us:List Value},Vals [x] us->∃u,us=[u]/\RelV x u
 :=by
  intro x us h
  cases h with
  | cons r t=>
    cases t
    exact⟨_,rfl,r⟩
theorem Vals.zero:∀{us:List Value},Vals [] us->us=[]
 | _,.nil=>rfl
theorem Vals.dropLast{xs:List V}{us:List Value}(h:Vals xs us):Vals xs.dropLast us.dropLast:=by
 induction h with
 | nil=>exact .nil
 | cons r t ih=>
   cases t with
   | nil=>exact .nil
   | cons q t'=>exact .cons r ih
theorem Yo1{α:Type}(l:List α):l.eraseIdx (l.length - 1)=l.dropLast:=by
 induction l with
 | nil=>rfl
 | cons a r ih=>
   cases r with
   | nil=>rfl
   | cons b r=>
     have e:(a::b::r).length - 1=((b::r).length - 1)+1:=by
      have h1:(a::b::r).length=r.length+2:=rfl
      have h2:(b::r).length=r.length+1:=rfl
      lia
     rw[e,List.eraseIdx_cons_succ,ih]
     all_goals rfl
section
variable {X:Cx} {pins:List (Addr × Obj)} {σ:St} {H:Hp} {s:Shared} {l b:Addr} {xs ys zs:List V}
theorem Inv.lset{its its':List Value}{n:Nat}{f:Array Value->Array Value}{t':Nat}(I:Inv X pins σ H s)(hH:H l=some (.lst xs))
 (e:s.heap.get? l=some { cls:=.type "list",data:=.seq its.toArray n }) (hf:f its.toArray=its'.toArray) (hv:Vals ys its') (hz:ys.length<=sizeLine) :
 Inv X pins σ (upd H l (.lst ys)) { s with heap:=s.heap.update l (Obj.mapSeq f),toks:=t' }:=by
 have q:=PySem.IsL.update e f
 rw[hf]at q
 refine I.write (x:=l) (e:=l) (by rw[hH];exact trivial) (.inl rfl) (fun b' u hb hu=>(Heap.get?_update_other s.heap (Obj.mapSeq f) (Ne.symm hb)).trans hu) ⟨_,q⟩ ?_
 exact⟨hz,its',_,hv,q⟩
theorem Inv.lnew{its:List Value}{t':Nat}(I:Inv X pins σ H s)(hv:Vals ys its)(hz:ys.length<=sizeLine) :
 Inv X pins σ (upd H s.heap.objs.size (.lst ys)) { s with heap:=s.heap.push { cls:=.type "list",data:=.seq its.toArray },toks:=t' }:=
 I.laid (fun _ _ q=>qe _ q) (qu _) ⟨hz,its,0,hv,qp _ rfl⟩
theorem Inv.fresh(I:Inv X pins σ H s):H s.heap.objs.size=none:=I.hok.fresh (qu _)
theorem Inv.lstM(I:Inv X pins σ H s)(hH:H l=some (.lst xs)):xs.length<=sizeLine/\∃(its:List Value) (n:Nat),Vals xs its/\xs.length=its.length/\s.heap.get? l=some { cls:=.type "list",data:=.seq its.toArray n }:=by
 obtain⟨z,its,n,r,e⟩:=I.hok l _ hH
 exact⟨z,its,n,r,r.length,e⟩
theorem Ysx{n:Nat}(h:n<=sizeLine):Builtin.List.listTooLong n=false:=by
 unfold Builtin.List.listTooLong
 exact decide_eq_false (by lia)
def Yv2:V->List V->Hp->VK->Prop:=fun x vs H Q=>∃l xs y,x=.ref l/\vs=[y]/\H l=some (.lst xs)/\xs.length < sizeLine/\Q .non (upd H l (.lst (xs++[y])))
theorem Yh8:MtM X "list.append" Yv2:=by
 intro pins s σ H x vs v us Q I rx rv h
 obtain⟨l,xs,y,rfl,rfl,hH,hz,q⟩:=h
 cases rx
 obtain⟨u,rfl,ru⟩:=rv.one
 obtain⟨z,its,n,r,hl,e⟩:=I.lstM hH
 refine call_meets F.slot_list_append ⟨_,e,rfl⟩ F.entry_list_append (F.args_list_append_2 _ _) (PySem.list_append l its.toArray n u (by rw[qk];lia)) ⟨e,?_⟩
 refine⟨.non,_,I.lset (its':=its++[u]) hH e (by simp) (r.append (.cons ru .nil)) ?_,rfl,q⟩
 rw[qw,List.length_singleton]
 lia
def rPop:V->List V->Hp->VK->Prop:=fun x vs H Q=>∃l xs y,x=.ref l/\vs=[]/\H l=some (.lst xs)/\xs[xs.length - 1]?=some y/\Q y (upd H l (.lst xs.dropLast))
theorem Yyl:MtM X "list.pop" rPop:=by
 intro pins s σ H x vs v us Q I rx rv h
 obtain⟨l,xs,y,rfl,rfl,hH,hy,q⟩:=h
 cases rx
 have hus:=rv.zero
 subst hus
 obtain⟨z,its,n,r,hl,e⟩:=I.lstM hH
 obtain⟨u,hu,ru⟩:=r.get hy
 have hy':its.toArray[its.toArray.size - 1]?=some u:=by
  show its.toArray[its.length - 1]?=some u
  rw[<-Array.getElem?_toList,<-hl]
  exact hu
 refine call_meets F.slot_list_pop ⟨_,e,rfl⟩ F.entry_list_pop (F.args_list_pop_1 _) (MeetsSeq.list_pop_last l its.toArray n u hy' (by rw[qk];lia)) ⟨e,?_⟩
 refine⟨y,_,I.lset (its':=its.dropLast) hH e ?_ r.dropLast ?_,ru,q⟩
 ·show its.toArray.eraseIdxIfInBounds (its.toArray.size - 1)=its.dropLast.toArray
  rw[qk,List.eraseIdxIfInBounds_toArray,Yo1]
 ·rw[List.length_dropLast]
  lia
end
end L2
namespace Att
open PySem PySem.W PySem.Calls PyProof.Rows
theorem Yh9{P:Params}{h:Heap}:∀(ns:List Int) (vs:List Value),WellAll P h vs (ns.map WData.int)->IntsAre vs ns:=by
 intro ns
 induction ns with
 | nil=>
   intro vs w
   rw[List.map_nil]at w
   cases w
   exact .nil
 | cons n ns ih=>
   intro vs w
   rw[qy]at w
   cases w with
   | cons a b=>
     cases a
     exact .cons _ _ (ih _ b)
theorem Ypy{l:OpenLaw}{n:Nat}(hn:l.most=some n){P:Params}{h:Heap}{args:List WData}{vals:List Value}
 (hpre:l.row.toRowW.claim.pre args=true) (hwl:WellAll P h vals args) :
 ∃a vs ns,vals=[Value.ref a]/\args=[WData.list (ns.map WData.int)]/\h.get? a=some { cls:=.type "list",data:=.seq vs.toArray }/\IntsAre vs ns/\ns.length<=n:=by
 have hsh:WShape.hasAll [] args [.list .int]=true:=(pre_splitW hpre).1
 have hc:l.pre.holds [] { args:=args }=true:=(pre_splitW hpre).2
 obtain⟨d,r,rfl,h1,h2⟩:=hasAllW_cons hsh
 obtain rfl:=hasAllW_nil h2
 obtain⟨xs,rfl,h3⟩:=hasW_list h1
 obtain⟨ns,rfl⟩:=items_int h3
 have hlen:ns.length<=n:=by
  unfold OpenLaw.pre at hc
  have h4:(WTm.not (.lt (.lit (.int (n:Int))) (.len (.arg 0)))).holds [] { args:=[.list (ns.map .int)] }=true:=by
   have h4:=(holds_andW hc).1
   rw[hn]at h4
   exact h4
  have h5:=condW_of h4 (w_not (w_lt w_lit (w_len_list (w_arg rfl))))
  rw[qf]at h5
  refine Nat.le_of_not_lt fun q=>?_
  have q':(n:Int) < ((ns.length:Nat):Int):=by lia
  first
   | (rw[decide_eq_true q']at h5;exact absurd h5 (by decide))
   | (simp at h5;lia)
 cases hwl with
 | cons w1 w2=>
   cases w2
   cases w1 with
   | list ho hall=>exact⟨_,_,ns,rfl,rfl,ho,Yh9 ns _ hall,hlen⟩
theorem Ypz(l:OpenLaw)(args:List WData):l.row.toRowW.claim.post args (.bool true) args=true:=
 postW_of (r:=l.row.toRowW) (X:=(true==true))
  (show WShape.has [] (.bool true) .bool=true by first | rfl | decide | simp[WShape.has,WShape.arms,WShape.armsAll])
  (show(WTm.eq .res (.lit (.bool true))).value [] { args:=args,res:=some (.bool true),after:=args }=some (.bool (true==true)) from w_eq_bool (w_res rfl) w_lit) rfl
theorem attach_call{l:OpenLaw}{n:Nat}{q:Program}{loose:List Str}{XP:(Str->Option Value)->Heap->Prop}{YP:World->Heap->Prop}{d:DefRec}
 (hn:l.most=some n) (hdf:d.params.defaults=[])
 (call:∀(w:World) (s₀ s₁:Shared) (mg mb:Str->Option Value) (fa:Addr) (o:Obj) (pm cd doc:Value) (a:Addr) (vs:List Value) (ns:List Int),
  Ground q loose [] XP w s₀ mg mb s₁.heap->YP w s₁.heap->
  s₁.heap.get? fa=some o->o.data=.func (docDef d.name d.params d.body d.scope pm cd doc)->s₁.heap.CodeRec cd d.name->mg d.name=some (.ref fa)->
  s₁.heap.get? a=some { cls:=.type "list",data:=.seq vs.toArray }->IntsAre vs ns->ns.length<=n->s₁.gens=#[]->
  codeAny (model l.prog w) callerA (.call (.ref fa) ⟨[.ref a],[]⟩) (fun r s'=>r=.ok (.ret (.bool true))/\OldK s₁.heap s'.heap/\s'.os=s₁.os/\AllBare s'.gens) s₁) :
 WalkO q loose XP YP l.row.toRowW d [] (fun f vs=>PySem.call f vs):=by
 intro w s₀ s₁ mg mb G Y fa o pm cd doc dV kV ho hd hcd hD hmg hg args vals as hpre hlay hrd hwl hlo
 obtain rfl:dV=.none:=Dflts.none hD hdf
 obtain rfl:kV=.none:=Dflts.noKw hD
 obtain⟨a,vs,ns,rfl,rfl,hobj,hints,hlen⟩:=Ypy hn hpre hwl
 refine enter_call (codeAny_mono (call w s₀ s₁ mg mb fa o pm cd doc a vs ns G Y ho (fd_plain hd) hcd hmg hobj hints hlen hg) fun r s' hq=>?_)
 obtain⟨rfl,h2,h3,h4⟩:=hq
 exact⟨.inl ⟨.bool true,.bool true,[],rfl,fun _=>rfl,.bool true,Ypz l _,fun _=>⟨List.Pairwise.nil,fun _ hm=>(nomatch hm)⟩⟩,h2,h3,h4⟩
end Att
namespace L2
open PySem PySem.Spec PyProof.Rows
theorem Yll:∀{vs:List Value} {ns:List Int},IntsAre vs ns->Vals (ns.map V.int) vs
 | _,_,.nil=>.nil
 | _,_,.cons n t h=>.cons ⟨t,rfl⟩ (Yll h)
def Only(H:Hp):Prop:=∀b,H b=none\/∃o xs,H b=some (.frz o (.lst xs))
theorem Ysy{P:Program}{w:World}{K:W.Frag}{mg mb:Str->Option Value}{CX:CXT}{k:Nat}{fa a:Addr}{fd:FuncData}{x:Str}{sp:Sp}{s₁:Shared}{vs:List Value}{ns:List Int}
 (KX:K.In s₁.heap) (hns:s₁.heap.Ns mainGlobals mg) (hb:s₁.heap.Ns builtinsNs mb) (hbb:∀x:Str,x≠"__name__"->mb x=bootBuiltins x) (hlim:s₁.heap.NoLimit) (hg:s₁.gens=#[])
 (ha:s₁.heap.get? a=some { cls:=.type "list",data:=.seq vs.toArray }) (hi:IntsAre vs ns) (hl:ns.length<=sizeLine) (hr:Room k callerA)
 (F:∀base:Heap,K.In base->base.Ns mainGlobals mg->FnOk P w K mg base CX k fa fd [x] sp) (hbind:∀(s:Shared) (u:Value),BindsTo s fd ⟨[u],[]⟩ [(x,u)])
 (hsp:∀H:Hp,Only H->SqL K H a (ns.map V.int)->sp [.ref a] H (fun v _=>v=.bl true) fun _ _ _=>False)
 (hCX:∀H e s',CX [] H s₁ (fun _ _ _=>False) e s'->False) :
 codeAny (model P w) callerA (.call (.ref fa) ⟨[.ref a],[]⟩) (fun r s'=>r=.ok (.ret (.bool true))/\OldK s₁.heap s'.heap/\s'.os=s₁.os/\AllBare s'.gens) s₁:=by
 have rv:=Yll hi
 have lenV:=hi.length
 have core:∀H:Hp,Only H->SqL K H a (ns.map V.int)->HOk P w H s₁.heap->(∀b,H b≠none->b=a)->(H a≠none->K.lookup a=none)->
  codeAny (model P w) callerA (.call (.ref fa) ⟨[.ref a],[]⟩) (fun r s'=>r=.ok (.ret (.bool true))/\OldK s₁.heap s'.heap/\s'.os=s₁.os/\AllBare s'.gens) s₁:=by
  intro H hO hS hok hA hK
  have base_of:∀{b:Addr} {o:Obj},s₁.heap.get? b=some o->H b=none->(hidT s₁.heap H).get? b=some o:=fun e n=>Ysj e n
  have noA:∀{b:Addr} {o:Obj} {es:Array DictEntry} {ep:Nat},s₁.heap.get? b=some o->o.data=.dict es ep->H b=none:=fun {b o es ep} e d=>by
   cases q:H b with
   | none=>rfl
   | some u=>
     have e':b=a:=hA b (by rw[q];simp)
     subst e'
     rw[ha]at e;cases e
     have d':Data.seq vs.toArray _=Data.dict es ep:=d
     cases d'
  have nsK:∀{b:Addr} {m:Str->Option Value},s₁.heap.Ns b m->(hidT s₁.heap H).Ns b m:=fun {b m} ⟨o,es,ep,e,d,r⟩=>⟨o,es,ep,base_of e (noA e d),d,r⟩
  have hKb:K.In (hidT s₁.heap H):=fun b o e=>base_of (KX b o e) (by
   cases q:H b with
   | none=>rfl
   | some u=>
     have e':b=a:=hA b (by rw[q];simp)
     subst e'
     rw[hK (by rw[q];simp)]at e;cases e)
  have hM:Mod K mg (hidT s₁.heap H):=⟨hKb,nsK hns,⟨mb,nsK hb,hbb⟩,let ⟨mc,h1,h2⟩:=hlim;⟨mc,nsK h1,h2⟩⟩
  have e0:Env0 P w K mg (hidT s₁.heap H) callerA [] s₁ H:=⟨rfl,hM,fun b o e=>Yvl e,Nat.le_of_eq (Ypf _ _),trivial,fun b hb=>absurd (show b∈([]:List Addr) from hb) (by simp),hok,.of_eq hg⟩
  refine codeAny_mono ((F _ hKb (nsK hns)).run callerA [] s₁ H ⟨[.ref a],[]⟩ [.ref a] [.ref a] _ _ hr e0 (hbind s₁ (.ref a)) (.cons rfl .nil) (hsp H hO hS)) fun r s' h=>?_
  cases r with
  | error e=>exact(hCX H e s' h).elim
  | ok fl=>
    cases fl with
    | next=>exact False.elim h
    | brk=>exact False.elim h
    | cont=>exact False.elim h
    | ret u=>
      obtain⟨v,H',os,bare,un,hok',r',q⟩:=h
      have q':v=.bl true:=q
      subst q'
      obtain rfl:u=Value.bool true:=r'
      refine⟨rfl,OldK.of_keep fun b o e=>?_,os,bare⟩
      cases q:H b with
      | none=>exact un.keep b o e q (by intro z;exact absurd (show b∈([]:List Addr) from z) (by simp)) (by simp)
      | some u=>
        rcases hO b with z | ⟨ob,xs,z⟩
        ·rw[q]at z;cases z
        ·have z2:=un.frzs b ob _ z
         obtain⟨e1,_⟩:=hok b _ z
         obtain⟨e2,_⟩:=hok' b _ z2
         rw[e]at e1;cases e1
         exact e2
 cases hk:K.lookup a with
 | some o=>
   have e:=KX a o hk
   rw[ha]at e
   cases e
   refine core (fun _=>none) (fun _=>.inl rfl) (.inr ⟨_,vs.toArray,_,hk,rfl,rfl,rfl,by rw[qk,lenV];exact hl,by simpa using rv⟩) (fun b u z=>by have z':(none:Option HO)=some u:=z;cases z') (fun b z=>absurd rfl z) fun z=>absurd rfl z
 | none=>
   refine core (fun b=>if b=a then some (.frz { cls:=.type "list",data:=.seq vs.toArray } (.lst (ns.map V.int)))else none) (fun b=>?_) (.inl (.inr ⟨{ cls:=.type "list",data:=.seq vs.toArray },if_pos rfl⟩)) (fun b u z=>?_) (fun b z=>?_) fun _=>hk
   ·by_cases hb:b=a
    ·exact .inr ⟨_,_,if_pos hb⟩
    ·exact .inl (if_neg hb)
   ·by_cases hb:b=a
    ·have z':=(if_pos hb).symm.trans z
     cases z'
     subst hb
     exact⟨ha,by rw[qf];exact hl,vs,_,rv,ha⟩
    ·have z':=(if_neg hb).symm.trans z
     cases z'
   ·by_cases hb:b=a
    ·exact hb
    ·exact absurd (if_neg hb) z
end L2
namespace L2
open PySem PySem.Spec PyProof.Rows
theorem walk_of{l:W.OpenLaw}{n k:Nat}{q:Program}{loose:List Str}{XP:(Str->Option Value)->Heap->Prop}{YP:World->Heap->Prop}{d:DefRec}{K:Params->W.Frag}{CX:World->CXT}{sp:World->Sp}{x:Str}
 (hn:l.most=some n) (hn2:n<=sizeLine) (hdf:d.params.defaults=[]) (hr:Room k callerA)
 (hY:∀(w:World) (h:Heap),YP w h->(K w.params).In h)
 (F:∀(w:World) (mg:Str->Option Value) (fa:Addr) (h:Heap),(K w.params).In h->h.Ns mainGlobals mg->mg d.name=some (.ref fa)->
  ∃fd:FuncData,(∀(s:Shared) (u:Value),BindsTo s fd ⟨[u],[]⟩ [(x,u)])/\
   ∀base:Heap,(K w.params).In base->base.Ns mainGlobals mg->FnOk l.prog w (K w.params) mg base (CX w) k fa fd [x] (sp w))
 (hsp:∀(w:World) (H:Hp) (a:Addr) (ns:List Int),ns.length<=n->Only H->SqL (K w.params) H a (ns.map V.int)->sp w [.ref a] H (fun v _=>v=.bl true) fun _ _ _=>False)
 (hCX:∀(w:World) (H:Hp) (s:Shared) (e:Value) (s':Shared),CX w [] H s (fun _ _ _=>False) e s'->False) :
 W.WalkO q loose XP YP l.row.toRowW d [] (fun f vs=>PySem.call f vs):=by
 refine Att.attach_call hn hdf fun w s₀ s₁ mg mb fa o pm cd doc a vs ns G Y ho hd hcd hmg hobj hints hlen hg=>?_
 have KX:=hY w _ Y
 obtain⟨fd,hb,hF⟩:=F w mg fa _ KX G.T.g hmg
 exact Ysy KX G.T.g G.T.b G.T.builtins G.T.nolimit hg hobj hints (qx hlen hn2) hr hF hb (fun H hO hS=>hsp w H a ns hlen hO hS) fun H e s'=>hCX w H s₁ e s'
end L2
namespace L2
open PySem PySem.Spec PyProof.Rows
def inClass(s:Stmt)(j:Nat):Stmt:=match s with
 | .ClassDef _ _ _ body _ _ _ _ _ _ _=>body.getD j (.Pass ⟨0,0,0,0⟩)
 | _=>.Pass ⟨0,0,0,0⟩
def defArgs(s:Stmt):Arguments:=match s with
 | .FunctionDef _ a _ _ _ _ _ _ _ _=>a
 | _=>{ posonlyargs:=[],args:=[],vararg:=none,kwonlyargs:=[],kw_defaults:=[],kwarg:=none,defaults:=[] }
def defBody(s:Stmt):List Stmt:=match s with
 | .FunctionDef _ _ b _ _ _ _ _ _ _=>b
 | _=>[]
def defScope(s:Stmt):Scope:=match s with
 | .FunctionDef _ _ _ _ _ _ sc _ _ _=>sc
 | _=>{ kind:=.function,names:=[],isGenerator:=false,isCoroutine:=false }
abbrev CX0:CXT:=fun _ _ _ _ _ _=>False
abbrev E0:XK:=fun _ _ _=>False
theorem Yo2{X:Cx}:Yjy CX0 X E0:=fun _ _ _ _ _ _ _ h=>h.elim
structure Fun(K:W.Frag)(x qual:Str)(st:Stmt)(f:Addr)(fd:FuncData):Prop where
 ex:∃(oc:Value) (od:Option Addr) (kV doc pm:Value) (an:Option Addr) (cdv ct:Value) (osl:Array (Option Value)),
  fd=W.fnOf x qual (defArgs st) (defBody st) (defScope st) .none kV doc pm an cdv ct/\K.lookup f=some ⟨oc,od,.func fd,osl⟩/\W.codeIn K cdv qual=true
 kp:W.keepIn K (.ref f)=true
section
variable {P:Program} {w:World} {K:W.Frag} {mg:Str->Option Value} {base:Heap} {X:Cx}
theorem Fun.ok{x qual:Str}{st:Stmt}{f:Addr}{fd:FuncData}{N ps:List Str}{k:Nat}{sp:Sp}(F:Fun K x qual st f fd)(S:FnScope N ps (defScope st))(len:∀vs H Q E,sp vs H Q E->vs.length=ps.length)
 (hbody:∀(cdv:Value) (A:Around) (outer:List Env) (s:Shared) (H:Hp) (vs:List V) (Q:VK) (E:XK),Room k (A.deeper (envOfC qual (defScope st) s.heap.objs.size f cdv))->sp vs H Q E->
  ∃t,PSs (cxOf CX0 P w K mg base N qual (defScope st) f cdv A outer s H E).nox (defBody st) t/\t { nx:=fun _ H'=>Q .non H',rt:=Q } (start N vs) H):FnOk P w K mg base CX0 (k+1) f fd ps sp:=by
 obtain⟨oc,od,kV,doc,pm,an,cdv,ct,osl,rfl,lk,hcd⟩:=F.ex
 refine y1a lk hcd S len fun A outer s H vs Q E hr hsp=>?_
 obtain⟨t,h,q⟩:=hbody cdv A outer s H vs Q E hr hsp
 exact⟨t,h.nox,q⟩
theorem Fun.binds{x qual:Str}{st:Stmt}{f:Addr}{fd:FuncData}{ps:List Str}(F:Fun K x qual st f fd)
 (h:∀(kV doc pm:Value) (an:Option Addr) (cdv ct:Value) (us:List Value),us.length=ps.length->bindArgs (W.fnOf x qual (defArgs st) (defBody st) (defScope st) .none kV doc pm an cdv ct) ⟨us,[]⟩=pure (ps.zip us)):Binds K fd ps []:=by
 obtain⟨oc,od,kV,doc,pm,an,cdv,ct,osl,rfl,lk,hcd⟩:=F.ex
 exact .all (h kV doc pm an cdv ct)
theorem Ynz{x qual:Str}{st:Stmt}{f:Addr}{oc:Value}{od an:Option Addr}{osl:Array (Option Value)}{kV doc pm cdv ct:Value}(l:K.lookup f=some ⟨oc,od,.func (W.fnOf x qual (defArgs st) (defBody st) (defScope st) .none kV doc pm an cdv ct),osl⟩)
 (c:W.codeIn K cdv qual=true) (k:W.keepIn K (.ref f)=true):Fun K x qual st f (W.fnOf x qual (defArgs st) (defBody st) (defScope st) .none kV doc pm an cdv ct):=⟨⟨oc,od,kV,doc,pm,an,cdv,ct,osl,rfl,l,c⟩,k⟩
theorem pv(i:Nat){x:Str}{pos:Pos}(hN:X.N[i]?=some x:=by rfl)(hv:Vis X.env.scope x:=by first | exact Or.inl rfl | exact Or.inr (Or.inl rfl) | exact Or.inr (Or.inr rfl))(hd:(x==("__debug__":Str))=false:=by decide)
 (hcd:(x==("__classdict__":Str))=false:=by decide):PE X (.Name x pos) (tVar i):=Yej hN hv hd hcd
end
theorem iteF{A B:Prop}(h:B):if false=true then A else B:=by
 rw[if_neg qi]
 exact h
theorem iteT{A B:Prop}(h:A):if true=true then A else B:=by
 rw[if_pos rfl]
 exact h
def Same(H H':Hp):Prop:=∀b o,H b=some o->H' b=some o
theorem Same.refl(H:Hp):Same H H:=fun _ _ h=>h
theorem Same.trans{H H1 H2:Hp}(a:Same H H1)(b:Same H1 H2):Same H H2:=fun c o h=>b c o (a c o h)
theorem Same.free{H H':Hp}(e:Same H H'){l:Addr}(h:H' l=Option.none):H l=Option.none:=by
 cases q:H l with
 | none=>rfl
 | some o=>
   rw[e l o q]at h
   cases h
theorem Same.seq{K:W.Frag}{H H':Hp}{a:Addr}{xs:List V}(e:Same H H')(h:SqL K H a xs):SqL K H' a xs:=by
 rcases h with(h | ⟨o,h⟩) | h
 ·exact .inl (.inl (e _ _ h))
 ·exact .inl (.inr ⟨o,e _ _ h⟩)
 ·exact .inr h
end L2
namespace L2
open PySem PySem.Spec PyProof.Rows
def clOf(env:Env):List (Str × NameKind)->List (Str × Addr)->List (Str × Addr)
 | [],cs=>cs
 | (n,k)::r,cs=>if (k==NameKind.free)=true then (match env.cells.lookup n with | some c=>clOf env r ((n,c)::cs) | none=>clOf env r cs)else clOf env r cs
theorem Yia{scope:Scope}{env:Env}(h:∀x∈scope.names,x.2=NameKind.free->∃c,env.cells.lookup x.1=some c):closureFor scope env=pure (clOf env scope.names []):=by
 have key:∀(l:List (Str × NameKind)) (cs:List (Str × Addr)),(∀x∈l,x.2=NameKind.free->∃c,env.cells.lookup x.1=some c)->
  (forIn l cs fun(x:Str × NameKind) (r:List (Str × Addr))=>if (x.2==NameKind.free)=true then (do let c <-cellOf env x.1;pure (ForInStep.yield ((x.1,c)::r)))else pure (ForInStep.yield r))=(pure (clOf env l cs):Sem (List (Str × Addr))):=by
  intro l
  induction l with
  | nil=>intro cs _;rfl
  | cons x l ih=>
    intro cs hl
    obtain⟨n,k⟩:=x
    have ht:=fun y hy=>hl y (qg _ hy)
    rw[List.forIn_cons]
    by_cases hk:k=NameKind.free
    ·subst hk
     obtain⟨c,hc⟩:=hl (n,NameKind.free) qh rfl
     have hc':env.cells.lookup n=some c:=hc
     have e1:cellOf env n=pure c:=by unfold cellOf;rw[hc']
     have hff:(NameKind.free==NameKind.free)=true:=rfl
     show(if (NameKind.free==NameKind.free)=true then (do let c <-cellOf env n;pure (ForInStep.yield ((n,c)::cs)))else pure (ForInStep.yield cs)) >>= _=_
     rw[if_pos hff,e1,pure_bind,pure_bind]
     show forIn l ((n,c)::cs) _=_
     rw[ih _ ht]
     show _=pure (if (NameKind.free==NameKind.free)=true then (match env.cells.lookup n with | some c=>clOf env l ((n,c)::cs) | none=>clOf env l cs)else clOf env l cs)
     rw[if_pos hff,hc']
    ·have hb:(k==NameKind.free)=false:=by simpa using hk
     show(if (k==NameKind.free)=true then _ else pure (ForInStep.yield cs)) >>= _=_
     rw[if_neg (by rw[hb];exact qi),pure_bind]
     show forIn l cs _=_
     rw[ih _ ht]
     show _=pure (if (k==NameKind.free)=true then (match env.cells.lookup n with | some c=>clOf env l ((n,c)::cs) | none=>clOf env l cs)else clOf env l cs)
     rw[if_neg (by rw[hb];exact qi)]
 have:=key scope.names [] h
 unfold closureFor
 simpa using this
theorem Yhw{env:Env}:∀(l:List (Str × NameKind)) (cs:List (Str × Addr)),(∀x c,(x,c)∈cs->env.cells.lookup x=some c)->∀x c,(x,c)∈clOf env l cs->env.cells.lookup x=some c
 | [],cs,h,x,c,e=>h x c e
 | (n,k)::r,cs,h,x,c,e=>by
   unfold clOf at e
   split at e
   ·split at e
    ·rename_i d hd
     refine Yhw r _ (fun y b hy=>?_) x c e
     rcases qt hy with q | q
     ·cases q;exact hd
     ·exact h y b q
    ·exact Yhw r cs h x c e
   ·exact Yhw r cs h x c e
theorem Yev{env:Env}:∀(l:List (Str × NameKind)) (cs:List (Str × Addr)) (p:Str × Addr),p∈cs->p∈clOf env l cs
 | [],_,_,h=>h
 | (n,k)::r,cs,p,h=>by
   unfold clOf
   split
   ·split
    ·exact Yev r _ p (qg _ h)
    ·exact Yev r _ p h
   ·exact Yev r _ p h
theorem Yf8{env:Env}:∀(l:List (Str × NameKind)) (cs:List (Str × Addr)) (x:Str) (c:Addr),(x,NameKind.free)∈l->env.cells.lookup x=some c->(x,c)∈clOf env l cs
 | (n,k)::r,cs,x,c,h,hc=>by
   rcases qt h with q | q
   ·cases q
    unfold clOf
    rw[if_pos (show(NameKind.free==NameKind.free)=true from rfl),hc]
    exact Yev r _ _ qh
   ·unfold clOf
    split
    ·split
     ·exact Yf8 r _ x c q hc
     ·exact Yf8 r _ x c q hc
    ·exact Yf8 r _ x c q hc
theorem Yf9{x:Str}{c:Addr}{cl:List (Str × Addr)}(h:(x,c)∈cl):∃d,cl.lookup x=some d:=by
 induction cl with
 | nil=>cases h
 | cons p r ih=>
   obtain⟨n,b⟩:=p
   rw[Qb]
   cases e:(x==n)with
   | true=>exact⟨b,rfl⟩
   | false=>
     rcases qt h with q | q
     ·cases q;simp at e
     ·exact ih q
structure CompSc(XN:List Str)(xsc:Scope)(N:List Str)(src:List (Option Nat))(sc:Scope):Prop where
 kind:sc.kind=.function
 xkind:xsc.kind=.function
 cellU:∀y∈sc.names,y.2=NameKind.cell->sc.names.lookup y.1=some NameKind.cell
 names:∀y∈sc.names,y.2=NameKind.local->sc.names.lookup y.1=some NameKind.local
 len:src.length=N.length
 nd:N.Nodup
 cap:∀(i j:Nat) (x:Str),N[i]?=some x->src[i]?=some (some j)->XN[j]?=some x/\sc.names.lookup x=some NameKind.free
 fr:∀y∈sc.names,y.2=NameKind.free->xsc.names.lookup y.1=some NameKind.cell\/xsc.names.lookup y.1=some NameKind.free
def capB(XN:List Str)(sc:Scope):List Str->List (Option Nat)->Bool
 | [],[]=>true
 | x::N,none::src=>capB XN sc N src
 | x::N,some j::src=>decide (XN[j]?=some x)&&decide (sc.names.lookup x=some NameKind.free)&&capB XN sc N src
 | _,_=>false
theorem Ykc{XN:List Str}{sc:Scope}:∀{N:List Str} {src:List (Option Nat)},capB XN sc N src=true->src.length=N.length
 | [],[],_=>rfl
 | _::N,none::src,h=>by
   have:=Ykc (N:=N) (src:=src) h
   simp[this]
 | _::N,some j::src,h=>by
   replace h:(decide (XN[j]?=some _)&&decide (sc.names.lookup _=some NameKind.free)&&capB XN sc N src)=true:=h
   simp only[Qg]at h
   have:=Ykc (N:=N) (src:=src) h.2
   simp[this]
 | [],_::_,h=>Bool.noConfusion h
 | _::_,[],h=>Bool.noConfusion h
theorem Ykd{XN:List Str}{sc:Scope}:∀{N:List Str} {src:List (Option Nat)},capB XN sc N src=true->∀(i j:Nat) (x:Str),N[i]?=some x->src[i]?=some (some j)->XN[j]?=some x/\sc.names.lookup x=some NameKind.free
 | [],[],_,i,j,x,h,_=>by simp at h
 | _::N,none::src,h,i,j,x,h1,h2=>by
   cases i with
   | zero=>simp at h2
   | succ i=>exact Ykd (N:=N) (src:=src) h i j x (by simpa using h1) (by simpa using h2)
 | y::N,some k::src,h,i,j,x,h1,h2=>by
   replace h:(decide (XN[k]?=some y)&&decide (sc.names.lookup y=some NameKind.free)&&capB XN sc N src)=true:=h
   simp only[Qg,decide_eq_true_eq]at h
   cases i with
   | zero=>
     simp at h1 h2
     subst h1;subst h2
     exact h.1
   | succ i=>exact Ykd (N:=N) (src:=src) h.2 i j x (by simpa using h1) (by simpa using h2)
 | [],_::_,h,_,_,_,_,_=>Bool.noConfusion h
 | _::_,[],h,_,_,_,_,_=>Bool.noConfusion h
def Yym(XN:List Str)(xsc:Scope)(N:List Str)(src:List (Option Nat))(sc:Scope):Bool:=
 decide (sc.kind=.function)&&decide (xsc.kind=.function)&&sc.names.all (fun y=>decide (y.2=NameKind.cell->sc.names.lookup y.1=some NameKind.cell))&&sc.names.all (fun y=>decide (y.2=NameKind.local->sc.names.lookup y.1=some NameKind.local))&&
  decide N.Nodup&&capB XN sc N src&&sc.names.all (fun y=>decide (y.2=NameKind.free->xsc.names.lookup y.1=some NameKind.cell\/xsc.names.lookup y.1=some NameKind.free))
theorem Ycw{XN:List Str}{xsc:Scope}{N:List Str}{src:List (Option Nat)}{sc:Scope}(h:Yym XN xsc N src sc=true):CompSc XN xsc N src sc:=by
 unfold Yym at h
 simp only[Qg,decide_eq_true_eq,List.all_eq_true]at h
 obtain⟨⟨⟨⟨⟨⟨h1,h2⟩,h3⟩,h4⟩,h5⟩,h6⟩,h7⟩:=h
 exact⟨h1,h2,h3,h4,Ykc h6,h5,Ykd h6,h7⟩
abbrev Ya5(X:Cx)(scope:Scope)(N:List Str)(cl:List (Str × Addr))(C:Addr)(fp:List Addr)(s:Shared)(H:Hp):Cx where
 prog:=X.prog
 w:=X.w
 K:=X.K
 mg:=X.mg
 base:=X.base
 A:=X.A
 N:=N
 s₀:=s
 H₀:=H
 env:=compEnvC scope cl C X.env
 outer:=X.stack
 stack:=X.stack
 ex:=fp
 fn:=fun x=>scope.names.lookup x==some NameKind.cell
 calm:=X.calm
 pn:=[]
 xe:=fun _ _=>False
def capσ(src:List (Option Nat))(σ:St):St:=src.map fun o=>o.bind fun j=>(σ[j]?).join
def PIfs(X:Cx)(ifs:List Expr)(t:TT):Prop:=
 ∀(pins:List (Addr × Obj)) (s:Shared) (σ:St) (H:Hp) (Q:Bool->Hp->Prop),Inv X pins σ H s->t σ H Q->
  wpAny (model X.prog X.w) X.A (forIn ifs true fun c r=>if r=true then do let ok <-isTrue c X.env (eval c X.env);pure (ForInStep.yield ok)else pure (ForInStep.yield r)) (TP X pins σ Q) X.xe s
def tYes:TT:=fun _ H Q=>Q true H
theorem Yv3{X:Cx}:PIfs X [] tYes:=fun _ _ _ H _ I h=>wpAny_tests_nil ⟨H,I,h⟩
def tLC(wi:TI)(src:List (Option Nat))(g:TG)(ti:TT)(te:TE):TE:=fun σ H Q=>wi σ H fun J H1=>∀p,H1 p=none->
 ∃W:Nat->Nat->St->Hp->Prop,(∃m,W 0 m (capσ src σ) (upd H1 p (.lst [])))/\∀i m σ1 H2,W i m σ1 H2->
  (J.stop i H2/\Q (.ref p) H2)\/
  (J.go i H2/\∀x H3,J.yld i H2 x H3->g x σ1 H3 fun σ4 H4=>ti σ4 H4 fun b H5=>if b=true then te σ4 H5 fun v H6=>∃xs,H6 p=some (.lst xs)/\xs.length < sizeLine/\∃m',m' < m/\W (i+1) m' σ4 (upd H6 p (.lst (xs++[v])))else ∃m',m' < m/\W (i+1) m' σ4 H5)
section
variable {prog:Program} {w:World} {A:Around} {R:Result->Shared->Prop} {s:Shared} {X:Cx} {elt tg iter:Expr} {ifs:List Expr} {scope:Scope} {pos:Pos} {wi:TI} {g:TG} {ti:TT} {te:TE} {N:List Str} {src:List (Option Nat)}
theorem Ye3{elt target iter:Expr}{ifs:List Expr}{scope:Scope}{pos:Pos}{it acc:Value}{env:Env}(I:Nat->Shared->Prop)
 (turn:∀n s,I n s->wpAny (model prog w) A (pyNext it) (fun r s₁=>match r with
  | none=>R (.ok .next) s₁
  | some v=>wpAny (model prog w) A (letOwnedTupleGo target it v) (fun _ s₁=>wpAny (model prog w) A (assign target env v) (fun _ s₂=>
   wpAny (model prog w) A (forIn ifs true fun c r=>if r=true then do let ok <-isTrue c env (eval c env);pure (ForInStep.yield ok)else pure (ForInStep.yield r)) (fun ok s₃=>
    if ok=true then wpAny (model prog w) A (eval elt env) (fun x s₄=>
     wpAny (model prog w) A (call (.builtin "list.append") [acc,x]) (fun _ s₅=>∃m,m < n/\I m s₅) (notedBy (model prog w) A env fun e s'=>R (.error e) s') s₄) (notedBy (model prog w) A env fun e s'=>R (.error e) s') s₃
    else ∃m,m < n/\I m s₃) (notedBy (model prog w) A env fun e s'=>R (.error e) s') s₂) (notedBy (model prog w) A env fun e s'=>R (.error e) s') s₁) (notedBy (model prog w) A env fun e s'=>R (.error e) s') s₁) (notedBy (model prog w) A env fun e s'=>R (.error e) s') s)
 (n:Nat) (h:I n s) :
 codeAny (model prog w) A (.compLoop (.ListComp elt [⟨target,iter,ifs,0⟩] scope pos) 0 it acc env) R s:=by
 refine codeAny_loop rfl I (fun n s hI=>?_) n h
 show wpAny _ A ((compTurn (.ListComp elt [⟨target,iter,ifs,0⟩] scope pos) 0 it acc env).onRaise (fun x=>do noteFrame x env;theTreesLotGoes x)) _ _ s
 refine wpAny_noted ?_
 rw[compTurn_list]
 refine wpAny_bind (wpAny_standAt (wpAny_bind (wpAny_mono (turn n s hI) (fun r s₁ h₁=>?_) fun _ _ h'=>h')))
 cases r with
 | none=>exact wpAny_pure h₁
 | some v=>
   refine wpAny_bind (wpAny_mono h₁ (fun _ s₁ h₁=>?_) fun _ _ h'=>h')
   refine wpAny_bind (wpAny_mono h₁ (fun _ s₂ h₂=>wpAny_bind (wpAny_mono h₂ (fun ok s₃ h₃=>?_) fun _ _ h'=>h')) fun _ _ h'=>h')
   cases ok with
   | false=>exact wpAny_pure ⟨rfl,h₃⟩
   | true=>
     exact wpAny_bind (wpAny_bind (wpAny_mono h₃ (fun x s₄ h₄=>wpAny_bind (wpAny_mono h₄ (fun _ s₅ h₅=>wpAny_pure (wpAny_pure ⟨rfl,h₅⟩)) fun _ _ h'=>h')) fun _ _ h'=>h'))
theorem Yfh{scope:Scope}{env:Env}{x:Str}(h:scope.names.lookup x=some NameKind.free)(hk:env.kindOf x=some NameKind.cell\/env.kindOf x=some NameKind.free) :
 (relabel scope env).names.lookup x=some NameKind.cell\/(relabel scope env).names.lookup x=some NameKind.free:=by
 unfold relabel
 show List.lookup x (scope.names.map _)=_\/List.lookup x (scope.names.map _)=_
 generalize scope.names=l at h
 induction l with
 | nil=>cases h
 | cons p r ih=>
   obtain⟨n,k⟩:=p
   rw[Qb]at h
   rw[qy]
   cases e:(x==n)with
   | true=>
     rw[e]at h
     cases h
     by_cases hc:(NameKind.free==NameKind.free&&env.scope.kind==ScopeKind.function&&env.kindOf n==some NameKind.cell)=true
     ·left;simp only[hc,if_true];rw[Qb,e]
     ·right;simp only[hc];rw[if_neg qi,Qb,e]
   | false=>
     rw[e]at h
     have q:=ih h
     by_cases hc:(k==NameKind.free&&env.scope.kind==ScopeKind.function&&env.kindOf n==some NameKind.cell)=true
     ·simp only[hc,if_true];rw[Qb,e];exact q
     ·simp only[hc];rw[if_neg qi,Qb,e];exact q
theorem Yib{scope:Scope}{env:Env}{x:Str}(h:(relabel scope env).names.lookup x=some NameKind.cell\/(relabel scope env).names.lookup x=some NameKind.free) :
 (x,NameKind.free)∈scope.names\/(x,NameKind.cell)∈scope.names:=by
 unfold relabel at h
 change List.lookup x (scope.names.map _)=_\/List.lookup x (scope.names.map _)=_ at h
 revert h
 generalize scope.names=l
 intro h
 induction l with
 | nil=>rcases h with h | h<;>cases h
 | cons p r ih=>
   obtain⟨n,k⟩:=p
   rw[qy]at h
   have hr:=fun z=>ih z
   cases e:(x==n)with
   | true=>
     have en:x=n:=by simpa using e
     subst en
     by_cases hk:k=NameKind.free
     ·subst hk;exact .inl qh
     ·have hb:(k==NameKind.free)=false:=by simpa using hk
      simp only[hb,Bool.false_and,Bool.false_eq_true,if_false]at h
      rw[Qb,e]at h
      rcases h with h | h
      ·cases h;exact .inr qh
      ·cases h;exact absurd rfl hk
   | false=>
     refine(hr ?_).imp (qg _) (qg _)
     by_cases hk:(k==NameKind.free&&env.scope.kind==ScopeKind.function&&env.kindOf n==some NameKind.cell)=true
     ·simp only[hk,if_true]at h;rw[Qb,e]at h;exact h
     ·simp only[hk]at h;rw[if_neg qi,Qb,e]at h;exact h
theorem Ybx:∀(names:List (Str × NameKind)) (n:Nat) (acc:List (Str × Addr)),cellsFrom n names acc=cellsFrom n names []++acc
 | [],_,_=>rfl
 | (x,k)::r,n,acc=>by
   unfold cellsFrom
   split
   ·rw[Ybx r (n+1) ((x,n)::acc),Ybx r (n+1) [(x,n)],Qc];rfl
   ·exact Ybx r n acc
theorem Ydt:∀(names:List (Str × NameKind)) (n:Nat) (x:Str) (c:Addr),(x,c)∈cellsFrom n names []->(x,NameKind.cell)∈names
 | [],_,_,_,h=>(nomatch h)
 | (y,k)::r,n,x,c,h=>by
   unfold cellsFrom at h
   split at h
   ·rename_i hk
    rw[Ybx]at h
    rcases qv h with h | h
    ·exact qg _ (Ydt r _ x c h)
    ·rw[List.mem_singleton]at h
     cases h
     have:k=NameKind.cell:=by simpa using hk
     rw[this];exact qh
   ·exact qg _ (Ydt r n x c h)
theorem Ygz{own cl:List (Str × Addr)}{x:Str}:(own++cl).lookup x=(own.lookup x).or (cl.lookup x):=by
 induction own with
 | nil=>rfl
 | cons p r ih=>
   obtain⟨y,b⟩:=p
   rw[Qf,Qb,Qb]
   cases (x==y)with
   | true=>rfl
   | false=>exact ih
theorem Ya2{own cl:List (Str × Addr)}{x:Str}{c:Addr}(h:(own++cl).lookup x=some c):own.lookup x=some c\/(own.lookup x=none/\cl.lookup x=some c):=by
 rw[Ygz]at h
 cases e:own.lookup x with
 | none=>rw[e]at h;exact .inr ⟨rfl,h⟩
 | some d=>rw[e]at h;exact .inl h
theorem Yms{M:Model}{A:Around}{E:Value->Shared->Prop}{scope:Scope}{globals:Addr}{cl:List (Str × Addr)}{qual:Str}{outer:Env}{Q:Env->Shared->Prop}{s:Shared}{bt:Addr}
 (h:Q (newEnv scope s.heap.objs.size globals (cellsFrom (s.heap.objs.size+1) scope.names []++cl) qual none .none (some outer) bt) { s with heap:=pushCells (s.heap.push { cls:=.type "dict",data:=.dict #[] }) scope.names }) :
 wpAny M A (newFunctionEnv scope globals cl [] qual none .none (some outer) bt) Q E s:=by
 simp only[newFunctionEnv,Option.isSome_some,if_true]
 refine wpAny_bind (wpAny_alloc ?_)
 refine wpAny_bind (wpAny_layCells _ (fun name kind cells=>by cases hkc:kind==NameKind.cell<;>simp[hkc]) _ _ _ _ ?_)
 rw[show({ s with heap:=s.heap.push { cls:=.type "dict",data:=.dict #[] } }:Shared).heap.objs.size=s.heap.objs.size+1 from Heap.size_push ..,Ybx]
 rw[List.forIn_nil]
 exact wpAny_bind (wpAny_pure (wpAny_pure h))
theorem Yo3{pins:List (Addr × Obj)}{σ:St}{H:Hp}{s:Shared}{fp:List Addr}{h₁:Heap}{tk:Nat}{own:List (Str × Addr)}(S:CompSc X.N X.env.scope N src scope)(I:Inv X pins σ H s)(hf:∀b∈fp,FpOk X pins H b)(ho:∀b∈fp,∃o,s.heap.get? b=some o)
 (hn:h₁.Ns s.heap.objs.size fun _=>none) (hk:∀b o,s.heap.get? b=some o->h₁.get? b=some o) (hc:CellsOk h₁ (s.heap.objs.size+1) own) (ow:∀x c,(x,c)∈own->(x,NameKind.cell)∈scope.names) (has:∀x,scope.names.lookup x=some NameKind.cell->∃c,own.lookup x=some c) :
 Inv (Ya5 X scope N (own++clOf X.env scope.names []) s.heap.objs.size fp s H) [] (capσ src σ) H { s with heap:=h₁,toks:=tk }:=by
 have sub:∀x c,(clOf X.env scope.names []).lookup x=some c->X.env.cells.lookup x=some c:=fun x c e=>Yhw scope.names [] (fun _ _ z=>nomatch z) x c (PySem.mem_of_lookup e)
 have clt:∀x c,(clOf X.env scope.names []).lookup x=some c->c < s.heap.objs.size:=fun x c e=>by
  obtain⟨v,q⟩:=I.cell x c (sub x c e)
  exact q.lt
 have owl:∀x c,own.lookup x=some c->s.heap.objs.size < c:=fun x c e=>(hc.empty x c (PySem.mem_of_lookup e)).2
 have nofree:∀x,scope.names.lookup x=some NameKind.free->own.lookup x=none:=fun x hx=>by
  cases e:own.lookup x with
  | none=>rfl
  | some c=>
    have:=S.cellU _ (ow x c (PySem.mem_of_lookup e)) rfl
    rw[hx]at this
    cases this
 have fpl:∀b∈fp,b < s.heap.objs.size:=fun b hb=>by
  obtain⟨o,e⟩:=ho b hb
  exact ql e
 have nfs:∀b∈fp,b∉frs X.stack:=fun b hb z=>by
  rcases qt (I.stkSub b z)with e | e
  ·exact(hf b hb).2.1 e
  ·exact(hf b hb).2.2.1 e
 refine⟨⟨I.ok.mod,S.kind,I.ok.glob,I.ok.blt,qu _,fun x y c h1 h2=>?_,fun x hx=>?_,fun x c z e=>?_,I.ok.hd,I.ok.frames,.inl rfl,fun b hb=>⟨qm (fpl b hb),fun x c e=>?_⟩,
  I.bs,qx I.ok.bsz I.sz,fun b o e hb=>?_,nfs,I.stack,I.stkFree⟩,rfl,I.bare,Un.kept hk,⟨_,hn,fun i x v h1 h2 h3=>?_⟩,fun x c e=>?_,I.fresh,fun x c e=>?_,fun p hp=>(nomatch hp),I.hok.kept hk,?_⟩
 ·rcases Ya2 h1 with h1 | ⟨_,h1⟩
  ·rcases Ya2 h2 with h2 | ⟨_,h2⟩
   ·exact name_of_addr hc.apart (PySem.mem_of_lookup h1) (PySem.mem_of_lookup h2)
   ·exact absurd (Nat.lt_trans (owl x c h1) (clt y c h2)) (Nat.lt_irrefl _)
  ·rcases Ya2 h2 with h2 | ⟨_,h2⟩
   ·exact absurd (Nat.lt_trans (owl y c h2) (clt x c h1)) (Nat.lt_irrefl _)
   ·exact I.ok.inj x y c (sub x c h1) (sub y c h2)
 ·show ∃c,(own++clOf X.env scope.names []).lookup x=some c
  rw[Ygz]
  cases e:own.lookup x with
  | some c=>exact⟨c,rfl⟩
  | none=>
    rcases Yib hx with hm | hm
    ·obtain⟨c,hc⟩:=I.ok.has x (S.fr _ hm rfl)
     exact Yf9 (Yf8 scope.names [] x c hm hc)
    ·obtain⟨c,hc⟩:=has x (S.cellU _ hm rfl)
     rw[e]at hc
     cases hc
 ·have z':scope.names.lookup x=some NameKind.cell:=by simpa using z
  obtain⟨d,hd⟩:=has x z'
  rcases Ya2 e with e | ⟨e,_⟩
  ·exact Nat.le_of_lt (owl x c e)
  ·rw[hd]at e;cases e
 ·rcases Ya2 e with e | ⟨_,e⟩
  ·exact Nat.ne_of_gt (Nat.lt_trans (fpl b hb) (owl x c e))
  ·exact(hf b hb).2.2.2.2.1 x c (sub x c e)
 ·rcases(hf b hb).2.2.2.1 with z | z
  ·exact I.ok.noex b o e z
  ·exact absurd (Qe (ql e) (qx I.ok.bsz z)) (Nat.lt_irrefl _)
 ·have hi:i < src.length:=by
   have:=(qo h2).1
   unfold capσ at this
   simpa using this
  have hs:src[i]?=some src[i]:=qr hi
  unfold capσ at h2
  rw[qz,hs]at h2
  have h2':(src[i].bind fun j=>(σ[j]?).join)=some v:=Option.some.inj h2
  cases q:src[i]with
  | none=>rw[q]at h2';cases h2'
  | some j=>
    rw[q]at h2' hs
    have h2'':(σ[j]?).join=some v:=h2'
    obtain⟨hx,hfr⟩:=S.cap i j x h1 hs
    obtain⟨m,_,hl⟩:=I.loc
    have hk2:X.env.kindOf x=some NameKind.cell\/X.env.kindOf x=some NameKind.free:=S.fr (x,NameKind.free) (PySem.mem_of_lookup hfr) rfl
    have hσ:σ[j]?=some (some v):=by
     cases z:σ[j]? with
     | none=>rw[z]at h2'';cases h2''
     | some o=>
       rw[z]at h2''
       have:o=some v:=h2''
       rw[this]
    obtain⟨u,r,l⟩:=hl j x v hx hσ (.inr hk2)
    refine⟨u,r,.inr ⟨Yfh hfr hk2,?_⟩⟩
    rcases l with⟨z,_⟩ | ⟨_,c,hc,hcell⟩
    ·rcases hk2 with q2 | q2
     ·rw[q2]at z;cases z
     ·rw[q2]at z;cases z
    ·obtain⟨d,hd⟩:=Yf9 (Yf8 (env:=X.env) scope.names [] x c (PySem.mem_of_lookup hfr) hc)
     have e2:=sub x d hd
     rw[hc]at e2
     cases e2
     refine⟨c,?_,hcell.keeps hk⟩
     show(own++clOf X.env scope.names []).lookup x=some c
     rw[Ygz,nofree x hfr]
     exact hd
 ·rcases Ya2 e with e | ⟨_,e⟩
  ·exact⟨_,(hc.empty x c (PySem.mem_of_lookup e)).1⟩
  ·obtain⟨v,q⟩:=I.cell x c (sub x c e)
   exact⟨v,q.keeps hk⟩
 ·rcases Ya2 e with e | ⟨_,e⟩
  ·exact I.hok.fresh (Nat.le_of_lt (owl x c e))
  ·exact I.freeC x c (sub x c e)
 ·unfold capσ
  rw[qf]
  exact S.len
theorem Ysz{pins:List (Addr × Obj)}{σ σ1:St}{H H':Hp}{s s':Shared}{fp:List Addr}{cl:List (Str × Addr)}{C:Addr}{pn:List (Addr × Obj)}(I:Inv X pins σ H s)(hf:∀b∈fp,FpOk X pins H b)(J:Inv (Ya5 X scope N cl C fp s H) pn σ1 H' s'):Inv X pins σ H' s':=
 I.call' J.os J.base J.hok J.bare fun b hb=>⟨(hf b hb).2.2.2.1,(hf b hb).2.1,(hf b hb).2.2.2.2.1,(hf b hb).2.2.2.2.2⟩
theorem Yp0{pins:List (Addr × Obj)}{σ:St}{H:Hp}{s:Shared}{Q:VK}{it:Addr}{fp:List Addr}{tn:Nat->Heap->Prop}{J:It}{R:Value->Addr->Result->Shared->Prop}{E:Value->Shared->Prop}
 (S:CompSc X.N X.env.scope N src scope) (hc:X.calm=true) (hg:∀cl C fp s H,PG (Ya5 X scope N cl C fp s H) tg g) (hi:∀cl C fp s H,PIfs (Ya5 X scope N cl C fp s H) ifs ti) (he:∀cl C fp s H,PE (Ya5 X scope N cl C fp s H) elt te)
 (I:Inv X pins σ H s) (T:Turn X.prog X.w X.K tg J fp it tn) (st:tn 0 s.heap) (hf:∀b∈fp,FpOk X pins H b)
 (h:∀p,H p=none->∃W:Nat->Nat->St->Hp->Prop,(∃m,W 0 m (capσ src σ) (upd H p (.lst [])))/\∀i m σ1 H2,W i m σ1 H2->
  (J.stop i H2/\Q (.ref p) H2)\/
  (J.go i H2/\∀x H3,J.yld i H2 x H3->g x σ1 H3 fun σ4 H4=>ti σ4 H4 fun b H5=>if b=true then te σ4 H5 fun v H6=>∃xs,H6 p=some (.lst xs)/\xs.length < sizeLine/\∃m',m' < m/\W (i+1) m' σ4 (upd H6 p (.lst (xs++[v])))else ∃m',m' < m/\W (i+1) m' σ4 H5))
 (hR:∀(D C:Addr) (s':Shared) (H':Hp) (m:Str->Option Value),Inv X pins σ H' s'->s'.heap.Ns C m->H' C=none->C≠X.env.locals->X.s₀.heap.objs.size<=C->(∀x c,X.env.cells.lookup x=some c->c≠C)->(∀p∈X.pn++pins,p.1≠C)->Q (.ref D) H'->R (.ref D) C (.ok .next) s') :
 wpAny (model X.prog X.w) X.A (newList []) (fun acc s₃=>wpAny (model X.prog X.w) X.A (newFunctionEnv scope X.env.globals (clOf X.env scope.names []) [] X.env.qual none .none (some X.env)) (fun cenv s₄=>
  codeAny (model X.prog X.w) X.A (.compStart (.ListComp elt [⟨tg,iter,ifs,0⟩] scope pos) 0 (.ref it) acc { cenv with scope:=relabel scope X.env }) (R acc cenv.locals) s₄) E s₃) E s:=by
 refine wpAny_newObj_type (Yms ?_)
 have hfree:H s.heap.objs.size=none:=I.fresh
 obtain⟨W,⟨m0,w0⟩,turn⟩:=h s.heap.objs.size hfree
 have I3:Inv X pins σ (upd H s.heap.objs.size (.lst [])) { s with heap:=s.heap.push { cls:=.type "list",dict:=none,data:=.seq ([]:List Value).toArray },toks:=s.toks }:=I.lnew (ys:=[]) (its:=[]) .nil (Nat.zero_le _)
 generalize hD:s.heap.objs.size=Dd at *
 generalize hH3:upd H Dd (.lst [])=H3 at *
 have kp0:∀b o,s.heap.get? b=some o->(s.heap.push { cls:=.type "list",dict:=none,data:=.seq ([]:List Value).toArray }).get? b=some o:=fun b o e=>qe _ e
 have lt0:∀b o,s.heap.get? b=some o->b≠Dd:=fun b o e=>by rw[<-hD];exact qm (ql e)
 generalize hs3:s.heap.push { cls:=.type "list",dict:=none,data:=.seq ([]:List Value).toArray }=hp3 at *
 have f3:∀b∈fp,FpOk X pins H3 b:=fun b hb=>by
  obtain⟨o,e,_⟩:=T.obj _ _ st b hb
  refine⟨?_,(hf b hb).2⟩
  rw[<-hH3,Yk (lt0 b o e)]
  exact(hf b hb).1
 have ob3:∀b∈fp,∃o,hp3.get? b=some o:=fun b hb=>by
  obtain⟨o,e,_⟩:=T.obj _ _ st b hb
  exact⟨o,kp0 b o e⟩
 dsimp only
 have hns₁:(pushCells (hp3.push { cls:=.type "dict",data:=.dict #[] }) scope.names).Ns hp3.objs.size (fun _=>none):=(Heap.Ns.new hp3 (.type "dict")).keeps (pushCells_keeps _ _)
 have old:∀b o,hp3.get? b=some o->(pushCells (hp3.push { cls:=.type "dict",data:=.dict #[] }) scope.names).get? b=some o:=fun b o e=>pushCells_keeps _ _ b o (qe _ e)
 have cok:=cellsFrom_ok scope.names (hp3.push { cls:=.type "dict",data:=.dict #[] }) (hp3.objs.size+1) [] ⟨fun _ _ hm=>(nomatch hm),List.Pairwise.nil⟩ (by rw[Heap.size_push];exact qu _)
 rw[Heap.size_push]at cok
 have chas:∀x,scope.names.lookup x=some NameKind.cell->∃c,(cellsFrom (hp3.objs.size+1) scope.names []).lookup x=some c:=fun x hx=>Option.isSome_iff_exists.mp (PySem.W.cellsFrom_some _ _ _ (.inl hx))
 have cmem:∀x c,(x,c)∈cellsFrom (hp3.objs.size+1) scope.names []->(x,NameKind.cell)∈scope.names:=fun x c h=>Ydt _ _ x c h
 generalize cellsFrom (hp3.objs.size+1) scope.names []=own at *
 generalize pushCells (hp3.push { cls:=.type "dict",data:=.dict #[] }) scope.names=h₁ at *
 have I4:Inv (Ya5 X scope N (own++clOf X.env scope.names []) hp3.objs.size fp { s with heap:=hp3,toks:=s.toks } H3) [] (capσ src σ) H3 { s with heap:=h₁,toks:=s.toks }:=
  Yo3 (s:={ s with heap:=hp3,toks:=s.toks }) (tk:=s.toks) S I3 f3 ob3 hns₁ old cok cmem chas
 have st4:tn 0 h₁:=T.keep _ _ _ st fun b _ o e=>old b o (kp0 b o e)
 have hCl:hp3.objs.size≠X.env.locals:=Nat.ne_of_gt I3.lt
 have hCc:∀x c,X.env.cells.lookup x=some c->c≠hp3.objs.size:=fun x c e=>by
  obtain⟨v,q⟩:=I3.cell x c e
  exact qm q.lt
 have hCp:∀p∈X.pn++pins,p.1≠hp3.objs.size:=fun p hp=>qm (ql (I3.pin p hp).1)
 have stat:∀{H':Hp},(∀b∈fp,H' b=none)->∀b∈fp,FpOk (Ya5 X scope N (own++clOf X.env scope.names []) hp3.objs.size fp { s with heap:=hp3,toks:=s.toks } H3) [] H' b:=fun {H'} hn b hb=>by
  obtain⟨e1,e2⟩:=I4.ok.exf b hb
  exact⟨hn b hb,e1,I4.ok.exfs b hb,.inl hb,e2,fun p hp=>nomatch hp⟩
 have loop:codeAny (model X.prog X.w) X.A (.compLoop (.ListComp elt [⟨tg,iter,ifs,0⟩] scope pos) 0 (.ref it) (.ref Dd) (compEnvC scope (own++clOf X.env scope.names []) hp3.objs.size X.env)) (R (.ref Dd) hp3.objs.size) { s with heap:=h₁,toks:=s.toks }:=by
  refine Ye3 (fun n s'=>∃i σ' H',Inv (Ya5 X scope N (own++clOf X.env scope.names []) hp3.objs.size fp { s with heap:=hp3,toks:=s.toks } H3) [] σ' H' s'/\tn i s'.heap/\(∀b∈fp,H' b=none)/\W i n σ' H') ?_ m0 ⟨0,_,H3,I4,st4,fun b hb=>(f3 b hb).1,w0⟩
  rintro n s3 ⟨i,σ3,H3',I3',st3,fr3,w3⟩
  rcases turn i n σ3 H3' w3 with⟨stop,qn⟩ | ⟨go,step⟩
  ·refine thn (T.done (Ya5 X scope N (own++clOf X.env scope.names []) hp3.objs.size fp { s with heap:=hp3,toks:=s.toks } H3) rfl rfl rfl hc i [] s3 σ3 H3' _ I3' (stat fr3) st3 stop) fun r s4 hx_=>?_
   obtain⟨hr,I5⟩:=hx_
   subst hr
   obtain⟨m,hm,_⟩:=I5.loc
   exact hR Dd hp3.objs.size s4 H3' m (Ysz I3 f3 I5) hm I5.free hCl (qx I3.sz (qu _)) hCc hCp qn
  ·refine thn (T.item (Ya5 X scope N (own++clOf X.env scope.names []) hp3.objs.size fp { s with heap:=hp3,toks:=s.toks } H3) rfl rfl rfl hc i [] s3 σ3 H3' _ I3' (stat fr3) st3 go) fun r s4 hx_=>?_
   obtain⟨u,hr,h4⟩:=hx_
   subst hr
   refine thn h4 fun _ s5 hx_=>?_
   obtain⟨x,H5,I5,r5,y5,st5,fr5⟩:=hx_
   have I5':=I5.pinned (stat fr5) (T.obj _ _ st5)
   have un:∀{α:Type} {t:Sem α} {Q':α->Shared->Prop} {E':Value->Shared->Prop} {s':Shared},wpAny (model X.prog X.w) X.A t Q' (fun _ _=>False) s'->wpAny (model X.prog X.w) X.A t Q' E' s':=fun h=>wpAny_mono h (fun _ _ q=>q) fun _ _ f=>f.elim
   refine un (thn (hg _ _ _ _ _ _ s5 σ3 H5 x u _ I5' r5 (step x H5 y5)) fun _ s6 hx_=>?_)
   obtain⟨σ6,H6,I6,q6⟩:=hx_
   refine un (thn (hi _ _ _ _ _ _ s6 σ6 H6 _ I6 q6) fun ok s7 hx_=>?_)
   obtain⟨H7,I7,q7⟩:=hx_
   have again:∀{H8:Hp} {s8:Shared} {m':Nat},m' < n->Inv (Ya5 X scope N (own++clOf X.env scope.names []) hp3.objs.size fp { s with heap:=hp3,toks:=s.toks } H3) ([]++Yle fp s5.heap) σ6 H8 s8->W (i+1) m' σ6 H8->
    ∃m,m < n/\∃i σ' H',Inv (Ya5 X scope N (own++clOf X.env scope.names []) hp3.objs.size fp { s with heap:=hp3,toks:=s.toks } H3) [] σ' H' s8/\tn i s8.heap/\(∀b∈fp,H' b=none)/\W i m σ' H':=fun {H8 s8 m'} hm I8 w8=>by
    refine⟨m',hm,i+1,σ6,H8,I8.unpinned,T.keep _ _ _ st5 fun b hb o e=>(I8.pin (b,o) (Qh _ (Qh _ (Yeu hb e)))).1,fun b hb=>?_,w8⟩
    obtain⟨o,e,d⟩:=T.obj _ _ st5 b hb
    exact(I8.pin (b,o) (Qh _ (Qh _ (Yeu hb e)))).2.1
   cases ok with
   | false=>
     rw[if_neg qi]at q7 ⊢
     obtain⟨m',hm,w7⟩:=q7
     exact again hm I7 w7
   | true=>
     rw[if_pos rfl]at q7 ⊢
     refine un (thn (he _ _ _ _ _ _ s7 σ6 H7 _ I7 q7) fun y s8 hx_=>?_)
     obtain⟨v,H8,I8,r8,q8⟩:=hx_
     obtain⟨xs,e8,z8,m',hm,w8⟩:=q8
     refine un (thn (Yh8 _ s8 σ6 H8 (.ref Dd) [v] (.ref Dd) [y] (fun _ H9=>H9=upd H8 Dd (.lst (xs++[v]))) I8 rfl (.cons r8 .nil) ⟨Dd,xs,v,rfl,rfl,e8,z8,rfl⟩) fun _ s9 hx_=>?_)
     obtain⟨_,H9,I9,_,q9⟩:=hx_
     subst q9
     exact again hm I9 w8
 exact codeAny_compStart_list loop (T.self _ _ _ _ _ st4 loop)
theorem Ymt(S:CompSc X.N X.env.scope N src scope)(hc:X.calm=true)(hit:PI X tg iter wi)(hg:∀cl C fp s H,PG (Ya5 X scope N cl C fp s H) tg g)(hi:∀cl C fp s H,PIfs (Ya5 X scope N cl C fp s H) ifs ti)(he:∀cl C fp s H,PE (Ya5 X scope N cl C fp s H) elt te)
 (hs:∀x,foldedSetIterable iter X.env x=pure x:=by intro _;rfl):PE X (.ListComp elt [⟨tg,iter,ifs,0⟩] scope pos) (tLC wi src g ti te):=by
 intro pins s σ H Q I h
 rw[eval_ListComp]
 have hcl:closureFor scope X.env=pure (clOf X.env scope.names []):=Yia fun y hy hf=>I.ok.has y.1 (S.fr y hy hf)
 refine wpAny_comprehension_free (use:=none) rfl hs hcl S.kind S.names ?_
 refine thn (hit pins s σ H _ I h) fun v s1 h1=>thn h1 fun itv s2 hx_=>?_
 obtain⟨it,fp,tn,J,H2,e,I2,T,st2,f2,q⟩:=hx_
 subst e
 refine Yp0 (Q:=Q) (R:=fun acc C=>compPost (model X.prog X.w) X.A X.xe none (EP X pins σ Q) acc C) S hc hg hi he I2 T st2 f2 q fun D C s' H' m I' hm hC hCl hCs hCc hCp hq=>?_
 refine⟨m,hm,fun h' sb=>?_⟩
 exact⟨.ref D,H',I'.turned (t':=s'.toks) (fun b o hb e=>(sb.2 b hb).trans e) hC hCl (.inr hCs) hCc hCp,rfl,hq⟩
end
end L2
namespace M
open PySem PySem.Spec PyProof.Rows L2
section
section
def Rise(xs:Array Nat):Prop:=xs.toList.Pairwise (· < ·)
def Tab(bt:Bool)(t:SetTable):Prop:=(bt=false->t.led=true)/\(t.plain=true->Rise t.place)
end
end
section
section
variable {prog:Program} {w:World} {A:Around} {E:Value->Shared->Prop} {s:Shared}
abbrev byT(w:World):Bool:=w.params.followText "set-order"
end
end
section
end
section
end
section
set_option maxRecDepth 100000
end
section
set_option maxRecDepth 100000
end
section
inductive D where
 | non | bl (b:Bool) | int (i:Int) | str (x:Str) | tup (l:List D) | lst (l:List D)
 | scr (ns:List Int)
 | dct (t:Bool) (ks vs:List D)
 | obj (c:Str) (ks:List Str) (vs:List D)
 | adr (a:Addr)
mutual
def toPy:D->PyData
 | .non=>.none
 | .bl b=>.bool b
 | .int i=>.int i
 | .str x=>.str x
 | .tup l=>.tuple (Yhl l)
 | .lst l=>.list (Yhl l)
 | .scr ns=>.list (ns.map PyData.int)
 | .dct _ _ _=>.none
 | .obj _ _ _=>.none
 | .adr _=>.none
def Yhl:List D->List PyData
 | []=>[]
 | d::l=>toPy d::Yhl l
end
def eqD(d e:D):Bool:=PyData.eqv (toPy d) (toPy e)
def numV:V->Option Int
 | .int i=>some i
 | .bl b=>some (if b then 1 else 0)
 | _=>none
def Yv4:List V->Option (List Int)
 | []=>some []
 | x::r=>(numV x).bind fun i=>(Yv4 r).map (i::·)
def Yyn(ks:List Int):Int:=reduceHash (Builtin.Tuple.tupleHashOf (ks.map hashInt))
def DtOk(a:Addr)(nks:List (List Int × Addr))(vxs:List V)(ep:Nat)(h:Heap):Prop:=
 (a==sysModules)=false/\∃us o es,Vals vxs us/\h.get? a=some o/\o.ExactDict/\o.data=.dict es ep/\es.toList=(nks.zip us).map fun p=>(⟨Yyn p.1.1,.ref p.1.2,p.2⟩:DictEntry)
def dTo(a:Addr)(nks:List (List Int × Addr))(vxs:List V)(ep:Nat):HO:=.ext (DtOk a nks vxs ep)
def Dc(t:Bool)(G H:Hp)(a:Addr)(kxs vxs:List V):Prop:=
 (t=false/\∃kvs:List (Key × V),H a=some (.dK kvs)/\(kvs.map (·.1)).Nodup/\kxs=kvs.map (fun p=>kV p.1)/\vxs=kvs.map (·.2))\/
 (t=true/\∃(nks:List (List Int × Addr)) (ep:Nat),H a=some (dTo a nks vxs ep)/\nks.length=vxs.length/\(nks.map (·.1)).Nodup/\kxs=nks.map (fun p=>V.ref p.2)/\∀p∈nks,∃ys,G p.2=some (.tup ys)/\Yv4 ys=some p.1)
mutual
def Rp(K:W.Frag)(G:Hp):D->V->Prop
 | .non,v=>v=V.non
 | .bl b,v=>v=V.bl b
 | .int i,v=>v=V.int i
 | .str x,v=>v=V.str x/\PyData.strOk x=true
 | .tup l,v=>∃a xs,v=V.ref a/\G a=some (HO.tup xs)/\RpL K G l xs
 | .lst l,v=>∃a xs,v=V.ref a/\Rd G a (HO.lst xs)/\RpL K G l xs
 | .scr ns,v=>∃a,v=V.ref a/\SqL K G a (ns.map V.int)
 | .dct t ks vs,v=>∃a kxs vxs,v=V.ref a/\Dc t G G a kxs vxs/\RpL K G ks kxs/\RpL K G vs vxs
 | .obj c ks vs,v=>∃a C dx xs,v=V.ref a/\W.nsIn K mainGlobals c=some (some (.ref C))/\G a=some (HO.ins C dx (ks.zip xs))/\xs.length=ks.length/\RpL K G vs xs
 | .adr a,v=>v=V.ref a
def RpL(K:W.Frag)(G:Hp):List D->List V->Prop
 | [],xs=>xs=[]
 | d::l,xs=>∃x r,xs=x::r/\Rp K G d x/\RpL K G l r
end
variable {K:W.Frag}
theorem Ycx{G G':Hp}(h:Same G G'){a:Addr}{u:HO}(r:Rd G a u):Rd G' a u:=by
 rcases r with r | ⟨o,r⟩
 ·exact .inl (h _ _ r)
 ·exact .inr ⟨o,h _ _ r⟩
theorem Dc.mono{t:Bool}{G G' H H':Hp}(g:Same G G'){a:Addr}{kxs vxs:List V}(h:∀o,H a=some o->H' a=some o)(d:Dc t G H a kxs vxs):Dc t G' H' a kxs vxs:=by
 rcases d with⟨e,kvs,h1,h2⟩ | ⟨e,nks,ep,h1,h2,h3,h4,h5⟩
 ·exact .inl ⟨e,kvs,h _ h1,h2⟩
 ·refine .inr ⟨e,nks,ep,h _ h1,h2,h3,h4,fun p hp=>?_⟩
  obtain⟨ys,q1,q2⟩:=h5 p hp
  exact⟨ys,g _ _ q1,q2⟩
theorem Dc.someT{t:Bool}{G H:Hp}{a:Addr}{kxs vxs:List V}(d:Dc t G H a kxs vxs):∃o,H a=some o/\∀xs,o≠.tup xs:=by
 rcases d with⟨_,kvs,h1,_⟩ | ⟨_,nks,ep,h1,_⟩
 ·exact⟨_,h1,fun xs z=>by cases z⟩
 ·exact⟨_,h1,fun xs z=>by cases z⟩
theorem Dc.some{t:Bool}{G H:Hp}{a:Addr}{kxs vxs:List V}(d:Dc t G H a kxs vxs):∃o,H a=some o/\∀xs,o≠.lst xs:=by
 rcases d with⟨_,kvs,h1,_⟩ | ⟨_,nks,ep,h1,_⟩
 ·exact⟨_,h1,fun xs z=>by cases z⟩
 ·exact⟨_,h1,fun xs z=>by cases z⟩
mutual
theorem Rp.mono{G G':Hp}(h:Same G G'):∀{d:D} {v:V},Rp K G d v->Rp K G' d v
 | .non,_,r=>by rw[Rp]at r ⊢;exact r
 | .bl _,_,r=>by rw[Rp]at r ⊢;exact r
 | .int _,_,r=>by rw[Rp]at r ⊢;exact r
 | .str _,_,r=>by rw[Rp]at r ⊢;exact r
 | .tup l,_,r=>by
   rw[Rp]at r ⊢
   obtain⟨a,xs,e,g,q⟩:=r
   exact⟨a,xs,e,h _ _ g,RpL.mono h q⟩
 | .lst l,_,r=>by
   rw[Rp]at r ⊢
   obtain⟨a,xs,e,g,q⟩:=r
   exact⟨a,xs,e,Ycx h g,RpL.mono h q⟩
 | .scr ns,_,r=>by
   rw[Rp]at r ⊢
   obtain⟨a,e,g⟩:=r
   exact⟨a,e,h.seq g⟩
 | .dct t ks vs,_,r=>by
   rw[Rp]at r ⊢
   obtain⟨a,kxs,vxs,e,g,q1,q2⟩:=r
   exact⟨a,kxs,vxs,e,g.mono h fun o=>h _ o,RpL.mono h q1,RpL.mono h q2⟩
 | .obj c ks vs,_,r=>by
   rw[Rp]at r ⊢
   obtain⟨a,C,dx,xs,e,n,g,l,q⟩:=r
   exact⟨a,C,dx,xs,e,n,h _ _ g,l,RpL.mono h q⟩
 | .adr _,_,r=>by rw[Rp]at r ⊢;exact r
theorem RpL.mono{G G':Hp}(h:Same G G'):∀{l:List D} {xs:List V},RpL K G l xs->RpL K G' l xs
 | [],_,r=>by rw[RpL]at r ⊢;exact r
 | d::l,_,r=>by
   rw[RpL]at r ⊢
   obtain⟨x,xs,e,g,q⟩:=r
   exact⟨x,xs,e,Rp.mono h g,RpL.mono h q⟩
end
section
variable {G:Hp}
theorem RpL.length:∀{l:List D} {xs:List V},RpL K G l xs->xs.length=l.length
 | [],_,r=>by rw[RpL]at r;subst r;rfl
 | d::l,_,r=>by
   rw[RpL]at r
   obtain⟨x,xs,rfl,_,q⟩:=r
   simp[RpL.length q]
theorem RpL.get:∀{l:List D} {xs:List V} {i:Nat} {d:D},RpL K G l xs->l[i]?=some d->∃x,xs[i]?=some x/\Rp K G d x
 | [],_,_,_,_,e=>by simp at e
 | d::l,_,0,_,r,e=>by
   rw[RpL]at r
   obtain⟨x,xs,rfl,g,q⟩:=r
   simp at e
   subst e
   exact⟨x,rfl,g⟩
 | d::l,_,i+1,_,r,e=>by
   rw[RpL]at r
   obtain⟨x,xs,rfl,g,q⟩:=r
   obtain⟨y,h1,h2⟩:=RpL.get (i:=i) q (by simpa using e)
   exact⟨y,by simpa using h1,h2⟩
theorem RpL.nil:RpL K G [] []:=by rw[RpL]
theorem RpL.cons{d:D}{l:List D}{x:V}{xs:List V}(h:Rp K G d x)(q:RpL K G l xs):RpL K G (d::l) (x::xs):=by rw[RpL];exact⟨x,xs,rfl,h,q⟩
theorem RpL.append:∀{l m:List D} {xs ys:List V},RpL K G l xs->RpL K G m ys->RpL K G (l++m) (xs++ys)
 | [],_,_,_,r,q=>by rw[RpL]at r;subst r;exact q
 | d::l,m,_,ys,r,q=>by
   rw[RpL]at r
   obtain⟨x,xs,rfl,g,r⟩:=r
   exact .cons g (RpL.append r q)
theorem RpL.one{d:D}{x:V}(h:Rp K G d x):RpL K G [d] [x]:=.cons h .nil
theorem RpL.take:∀{l:List D} {xs:List V} (n:Nat),RpL K G l xs->RpL K G (l.take n) (xs.take n)
 | _,_,0,_=>by rw[List.take_zero,List.take_zero];exact .nil
 | [],_,_+1,r=>by rw[RpL]at r;subst r;exact .nil
 | d::l,_,n+1,r=>by
   rw[RpL]at r
   obtain⟨x,xs,rfl,g,r⟩:=r
   exact .cons g (RpL.take n r)
theorem RpL.drop:∀{l:List D} {xs:List V} (n:Nat),RpL K G l xs->RpL K G (l.drop n) (xs.drop n)
 | _,_,0,r=>r
 | [],_,_+1,r=>by rw[RpL]at r;subst r;exact .nil
 | d::l,_,n+1,r=>by
   rw[RpL]at r
   obtain⟨x,xs,rfl,g,r⟩:=r
   exact RpL.drop n r
theorem RpL.reverse:∀{l:List D} {xs:List V},RpL K G l xs->RpL K G l.reverse xs.reverse
 | [],_,r=>by rw[RpL]at r;subst r;exact .nil
 | d::l,_,r=>by
   rw[RpL]at r
   obtain⟨x,xs,rfl,g,r⟩:=r
   rw[List.reverse_cons,List.reverse_cons]
   exact r.reverse.append (.one g)
theorem RpL.ints:∀(ns:List Int),RpL K G (ns.map D.int) (ns.map V.int)
 | []=>.nil
 | n::ns=>.cons (by rw[Rp]) (RpL.ints ns)
end
structure Gr(H G H' G':Hp):Prop where
 h:Same H H'
 g:Same G G'
 s:Same G' H'
 n:∀a,G a=none->G' a≠none->H a=none
theorem Gr.refl{H G:Hp}(s:Same G H):Gr H G H G:=⟨Same.refl _,Same.refl _,s,fun _ h h'=>absurd h h'⟩
theorem Gr.trans{H G H1 G1 H2 G2:Hp}(a:Gr H G H1 G1)(b:Gr H1 G1 H2 G2):Gr H G H2 G2:=
 ⟨a.h.trans b.h,a.g.trans b.g,b.s,fun x h h'=>by
  by_cases e:G1 x=none
  ·exact a.h.free (b.n x e h')
  ·exact a.n x h e⟩
theorem Gr.new{H G:Hp}(s:Same G H){p:Addr}(hp:H p=none)(o:HO):Gr H G (upd H p o) (upd G p o):=by
 have gp:G p=none:=s.free hp
 refine⟨fun b u e=>?_,fun b u e=>?_,fun b u e=>?_,fun b h h'=>?_⟩
 ·rw[Yk (Yv e hp)];exact e
 ·rw[Yk (Yv e gp)];exact e
 ·by_cases q:b=p
  ·subst q;rw[Ym]at e ⊢;exact e
  ·rw[Yk q]at e ⊢;exact s _ _ e
 ·by_cases q:b=p
  ·subst q;exact hp
  ·rw[Yk q]at h';exact absurd h h'
theorem Gr.hid{H G:Hp}(s:Same G H){p:Addr}(hp:H p=none)(o:HO):Gr H G (upd H p o) G:=by
 have gp:G p=none:=s.free hp
 refine⟨fun b u e=>?_,Same.refl _,fun b u e=>?_,fun b h h'=>absurd h h'⟩
 ·rw[Yk (Yv e hp)];exact e
 ·rw[Yk (Yv e gp)];exact s _ _ e
theorem Gr.show{H G H' G':Hp}(g:Gr H G H' G'){p:Addr}{o:HO}(hp:H p=none)(gp:G' p=none)(e:H' p=some o):Gr H G H' (upd G' p o):=by
 refine⟨g.h,fun b u q=>?_,fun b u q=>?_,fun b h h'=>?_⟩
 ·have:=g.g b u q
  rw[Yk (Yv this gp)];exact this
 ·by_cases z:b=p
  ·subst z;rw[Ym]at q;rw[e];exact q
  ·rw[Yk z]at q;exact g.s b u q
 ·by_cases z:b=p
  ·subst z;exact hp
  ·rw[Yk z]at h';exact g.n b h h'
def Ct(K:W.Frag)(G H:Hp):D->V->Prop
 | .non,v=>v=V.non
 | .bl b,v=>v=V.bl b
 | .int i,v=>v=V.int i
 | .str x,v=>v=V.str x/\PyData.strOk x=true
 | .tup l,v=>∃a xs,v=V.ref a/\(H a=some (HO.tup xs)/\G a=some (HO.tup xs))/\RpL K G l xs
 | .lst l,v=>∃a xs,v=V.ref a/\Rd H a (HO.lst xs)/\RpL K G l xs
 | .scr ns,v=>∃a,v=V.ref a/\SqL K H a (ns.map V.int)
 | .dct t ks vs,v=>∃a kxs vxs,v=V.ref a/\Dc t G H a kxs vxs/\RpL K G ks kxs/\RpL K G vs vxs
 | .obj c ks vs,v=>∃a C dx xs,v=V.ref a/\W.nsIn K mainGlobals c=some (some (.ref C))/\G a=some (HO.ins C dx (ks.zip xs))/\xs.length=ks.length/\RpL K G vs xs
 | .adr a,v=>v=V.ref a
theorem Ct.of{G H:Hp}(s:Same G H){d:D}{v:V}(r:Rp K G d v):Ct K G H d v:=by
 cases d<;>rw[Rp]at r<;>rw[Ct]
 ·exact r
 ·exact r
 ·exact r
 ·exact r
 ·obtain⟨a,xs,e,g,q⟩:=r
  exact⟨a,xs,e,⟨s _ _ g,g⟩,q⟩
 ·obtain⟨a,xs,e,g,q⟩:=r
  exact⟨a,xs,e,Ycx s g,q⟩
 ·obtain⟨a,e,g⟩:=r
  exact⟨a,e,s.seq g⟩
 ·obtain⟨a,kxs,vxs,e,g,q1,q2⟩:=r
  exact⟨a,kxs,vxs,e,g.mono (Same.refl _) fun o=>s _ o,q1,q2⟩
 ·exact r
 ·exact r
theorem Ct.rp{G H:Hp}(s:Same G H){d:D}{v:V}(r:Ct K G H d v):Rp K H d v:=by
 cases d<;>rw[Ct]at r<;>rw[Rp]
 ·exact r
 ·exact r
 ·exact r
 ·exact r
 ·obtain⟨a,xs,e,g,q⟩:=r
  exact⟨a,xs,e,g.1,q.mono s⟩
 ·obtain⟨a,xs,e,g,q⟩:=r
  exact⟨a,xs,e,g,q.mono s⟩
 ·exact r
 ·obtain⟨a,kxs,vxs,e,g,q1,q2⟩:=r
  exact⟨a,kxs,vxs,e,g.mono s fun _ z=>z,q1.mono s,q2.mono s⟩
 ·obtain⟨a,C,dx,xs,e,n,g,l,q⟩:=r
  exact⟨a,C,dx,xs,e,n,s _ _ g,l,q.mono s⟩
 ·exact r
theorem Ct.grow{G H G' H':Hp}(g:Gr H G H' G'){d:D}{v:V}(r:Ct K G H d v):Ct K G' H' d v:=by
 cases d<;>rw[Ct]at r<;>rw[Ct]
 ·exact r
 ·exact r
 ·exact r
 ·exact r
 ·obtain⟨a,xs,e,h,q⟩:=r
  exact⟨a,xs,e,⟨g.h _ _ h.1,g.g _ _ h.2⟩,q.mono g.g⟩
 ·obtain⟨a,xs,e,h,q⟩:=r
  exact⟨a,xs,e,Ycx g.h h,q.mono g.g⟩
 ·obtain⟨a,e,h⟩:=r
  exact⟨a,e,g.h.seq h⟩
 ·obtain⟨a,kxs,vxs,e,h,q1,q2⟩:=r
  exact⟨a,kxs,vxs,e,h.mono g.g fun o=>g.h _ o,q1.mono g.g,q2.mono g.g⟩
 ·obtain⟨a,C,dx,xs,e,n,h,l,q⟩:=r
  exact⟨a,C,dx,xs,e,n,g.g _ _ h,l,q.mono g.g⟩
 ·exact r
def CtL(K:W.Frag)(G H:Hp):List D->List V->Prop
 | [],xs=>xs=[]
 | d::l,xs=>∃x r,xs=x::r/\Ct K G H d x/\CtL K G H l r
inductive B where
 | sh (d:D) | ow (l:List D) | od (t:Bool) (ks vs:List D)
abbrev Ro:=List (Option B)
structure SR(K:W.Frag)(H0 G0:Hp)(σ:L2.St)(H G:Hp)(ρ:Ro):Prop where
 gr:Gr H0 G0 H G
 len:σ.length=ρ.length
 sh:∀(i:Nat) d,ρ[i]?=some (some (B.sh d))->∃v,σ[i]?=some (some v)/\Rp K G d v
 ow:∀(i:Nat) l,ρ[i]?=some (some (B.ow l))->∃a xs,σ[i]?=some (some (V.ref a))/\G a=none/\H0 a=none/\H a=some (.lst xs)/\RpL K G l xs
 ap:∀(i j:Nat) l l' a b,ρ[i]?=some (some (B.ow l))->ρ[j]?=some (some (B.ow l'))->i≠j->σ[i]?=some (some (V.ref a))->σ[j]?=some (some (V.ref b))->a≠b
 od:∀(i:Nat) t ks vs,ρ[i]?=some (some (B.od t ks vs))->∃a kxs vxs,σ[i]?=some (some (V.ref a))/\G a=none/\H0 a=none/\Dc t G H a kxs vxs/\RpL K G ks kxs/\RpL K G vs vxs
 apd:∀(i j:Nat) t ks vs t' ks' vs' a b,ρ[i]?=some (some (B.od t ks vs))->ρ[j]?=some (some (B.od t' ks' vs'))->i≠j->σ[i]?=some (some (V.ref a))->σ[j]?=some (some (V.ref b))->a≠b
section
variable {H0 G0 H G H' G':Hp} {σ:L2.St} {ρ:Ro}
theorem SR.mkSh(g:Gr H0 G0 H G)(len:σ.length=ρ.length)(sh:∀(i:Nat) d,ρ[i]?=some (some (B.sh d))->∃v,σ[i]?=some (some v)/\Rp K G d v)(no:∀(i:Nat) l,ρ[i]?≠some (some (B.ow l)))(no':∀(i:Nat) t ks vs,ρ[i]?≠some (some (B.od t ks vs))):SR K H0 G0 σ H G ρ:=
 ⟨g,len,sh,fun i l h=>absurd h (no i l),fun i j l l' a b h=>absurd h (no i l),fun i t ks vs h=>absurd h (no' i t ks vs),fun i j t ks vs t' ks' vs' a b h=>absurd h (no' i t ks vs)⟩
theorem Ydl(g:Gr H G H' G'){a:Addr}{o:HO}(h:H a=some o)(n:G a=none):G' a=none:=by
 cases q:G' a with
 | none=>rfl
 | some o=>
   have:=g.n a n (by rw[q];exact fun z=>nomatch z)
   rw[h]at this
   cases this
theorem SR.grow(s:SR K H0 G0 σ H G ρ)(g:Gr H G H' G'):SR K H0 G0 σ H' G' ρ:=by
 refine⟨s.gr.trans g,s.len,fun i d e=>?_,fun i l e=>?_,s.ap,fun i t ks vs e=>?_,s.apd⟩
 ·obtain⟨v,h1,h2⟩:=s.sh i d e
  exact⟨v,h1,h2.mono g.g⟩
 ·obtain⟨a,xs,h1,h2,h3,h4,h5⟩:=s.ow i l e
  exact⟨a,xs,h1,Ydl g h4 h2,h3,g.h _ _ h4,h5.mono g.g⟩
 ·obtain⟨a,kxs,vxs,h1,h2,h3,h4,h5,h6⟩:=s.od i t ks vs e
  obtain⟨o,h7,_⟩:=h4.some
  exact⟨a,kxs,vxs,h1,Ydl g h7 h2,h3,h4.mono g.g fun o=>g.h _ o,h5.mono g.g,h6.mono g.g⟩
theorem SR.seen(s:SR K H0 G0 σ H G ρ):Same G H:=s.gr.s
theorem Yh{α:Type}{l:List α}{i j:Nat}{x y:α}(h:(l.set i x)[j]?=some y):(j=i/\y=x/\i < l.length)\/(j≠i/\l[j]?=some y):=by
 by_cases e:j=i
 ·subst e
  have hl:j < l.length:=by
   have:=(qo h).1
   simpa using this
  rw[List.getElem?_set_self hl]at h
  exact .inl ⟨rfl,(Option.some.inj h).symm,hl⟩
 ·rw[Qa (Ne.symm e)]at h
  exact .inr ⟨e,h⟩
theorem SR.set_sh(s:SR K H0 G0 σ H G ρ)(i:Nat){d:D}{v:V}(r:Rp K G d v):SR K H0 G0 (σ.set i (some v)) H G (ρ.set i (some (.sh d))):=by
 refine⟨s.gr,by simp[s.len],fun j e h=>?_,fun j l h=>?_,fun j k l l' a b h1 h2 h3 h4 h5=>?_,fun j t ks vs h=>?_,fun j k t ks vs t' ks' vs' a b h1 h2 h3 h4 h5=>?_⟩
 ·rcases Yh h with⟨rfl,e1,hl⟩ | ⟨hj,h⟩
  ·cases e1
   exact⟨v,by rw[List.getElem?_set_self (by rw[s.len];exact hl)],r⟩
  ·obtain⟨w,q1,q2⟩:=s.sh j e h
   exact⟨w,by rw[Qa (Ne.symm hj)];exact q1,q2⟩
 ·rcases Yh h with⟨rfl,e1,hl⟩ | ⟨hj,h⟩
  ·cases e1
  ·obtain⟨a,xs,q1,q2⟩:=s.ow j l h
   exact⟨a,xs,by rw[Qa (Ne.symm hj)];exact q1,q2⟩
 ·rcases Yh h1 with⟨rfl,e1,_⟩ | ⟨hj,h1⟩
  ·cases e1
  ·rcases Yh h2 with⟨rfl,e1,_⟩ | ⟨hk,h2⟩
   ·cases e1
   ·rw[Qa (Ne.symm hj)]at h4
    rw[Qa (Ne.symm hk)]at h5
    exact s.ap j k l l' a b h1 h2 h3 h4 h5
 ·rcases Yh h with⟨rfl,e1,hl⟩ | ⟨hj,h⟩
  ·cases e1
  ·obtain⟨a,kxs,vxs,q1,q2⟩:=s.od j t ks vs h
   exact⟨a,kxs,vxs,by rw[Qa (Ne.symm hj)];exact q1,q2⟩
 ·rcases Yh h1 with⟨rfl,e1,_⟩ | ⟨hj,h1⟩
  ·cases e1
  ·rcases Yh h2 with⟨rfl,e1,_⟩ | ⟨hk,h2⟩
   ·cases e1
   ·rw[Qa (Ne.symm hj)]at h4
    rw[Qa (Ne.symm hk)]at h5
    exact s.apd j k t ks vs t' ks' vs' a b h1 h2 h3 h4 h5
theorem SR.set_ow(s:SR K H0 G0 σ H G ρ)(i:Nat){l:List D}{p:Addr}{xs:List V}(g:Gr H G H' G')(hp:H p=none)(gp:G' p=none)(e:H' p=some (.lst xs))(r:RpL K G' l xs):SR K H0 G0 (σ.set i (some (.ref p))) H' G' (ρ.set i (some (.ow l))):=by
 have s':=s.grow g
 have np:∀(j:Nat) l a,ρ[j]?=some (some (B.ow l))->σ[j]?=some (some (V.ref a))->a≠p:=fun j l a h1 h2 z=>by
  obtain⟨b,ys,q1,_,_,q4,_⟩:=s.ow j l h1
  rw[h2]at q1
  cases q1
  rw[z,hp]at q4
  cases q4
 refine⟨s'.gr,by simp[s.len],fun j e h=>?_,fun j l h=>?_,fun j k l l' a b h1 h2 h3 h4 h5=>?_,fun j t ks vs h=>?_,fun j k t ks vs t' ks' vs' a b h1 h2 h3 h4 h5=>?_⟩
 ·rcases Yh h with⟨rfl,e1,hl⟩ | ⟨hj,h⟩
  ·cases e1
  ·obtain⟨w,q1,q2⟩:=s'.sh j e h
   exact⟨w,by rw[Qa (Ne.symm hj)];exact q1,q2⟩
 ·rcases Yh h with⟨rfl,e1,hl⟩ | ⟨hj,h⟩
  ·cases e1
   exact⟨p,xs,by rw[List.getElem?_set_self (by rw[s.len];exact hl)],gp,s.gr.h.free hp,e,r⟩
  ·obtain⟨a,xs,q1,q2⟩:=s'.ow j l h
   exact⟨a,xs,by rw[Qa (Ne.symm hj)];exact q1,q2⟩
 ·rcases Yh h1 with⟨rfl,e1,hl⟩ | ⟨hj,h1n⟩
  ·rcases Yh h2 with⟨rfl,e2,_⟩ | ⟨hk,h2⟩
   ·exact absurd rfl h3
   ·rw[List.getElem?_set_self (by rw[s.len];exact hl)]at h4
    cases h4
    rw[Qa (Ne.symm hk)]at h5
    exact Ne.symm (np k l' b h2 h5)
  ·rcases Yh h2 with⟨rfl,e2,hl⟩ | ⟨hk,h2⟩
   ·rw[List.getElem?_set_self (by rw[s.len];exact hl)]at h5
    cases h5
    rw[Qa (Ne.symm hj)]at h4
    exact np j l a h1n h4
   ·rw[Qa (Ne.symm hj)]at h4
    rw[Qa (Ne.symm hk)]at h5
    exact s.ap j k l l' a b h1n h2 h3 h4 h5
 ·rcases Yh h with⟨rfl,e1,hl⟩ | ⟨hj,h⟩
  ·cases e1
  ·obtain⟨a,kxs,vxs,q1,q2⟩:=s'.od j t ks vs h
   exact⟨a,kxs,vxs,by rw[Qa (Ne.symm hj)];exact q1,q2⟩
 ·rcases Yh h1 with⟨rfl,e1,_⟩ | ⟨hj,h1⟩
  ·cases e1
  ·rcases Yh h2 with⟨rfl,e1,_⟩ | ⟨hk,h2⟩
   ·cases e1
   ·rw[Qa (Ne.symm hj)]at h4
    rw[Qa (Ne.symm hk)]at h5
    exact s.apd j k t ks vs t' ks' vs' a b h1 h2 h3 h4 h5
theorem SR.mut(s:SR K H0 G0 σ H G ρ){i:Nat}{l l':List D}{a:Addr}{ys:List V}(hi:ρ[i]?=some (some (B.ow l)))(ha:σ[i]?=some (some (V.ref a)))(r:RpL K G l' ys):SR K H0 G0 σ (upd H a (.lst ys)) G (ρ.set i (some (.ow l'))):=by
 obtain⟨a',xs,q1,q2,q3,q4,q5⟩:=s.ow i l hi
 rw[ha]at q1
 cases q1
 have hl:i < ρ.length:=(qo hi).1
 refine⟨⟨fun b o e=>?_,s.gr.g,fun b o e=>?_,s.gr.n⟩,by simp[s.len],fun j e h=>?_,fun j m h=>?_,fun j k m m' b c h1 h2 h3 h4 h5=>?_,fun j t ks vs h=>?_,fun j k t ks vs t' ks' vs' b c h1 h2 h3 h4 h5=>?_⟩
 ·rw[Yk (Yv e q3)];exact s.gr.h b o e
 ·rw[Yk (Yv e q2)];exact s.gr.s b o e
 ·rcases Yh h with⟨rfl,e1,_⟩ | ⟨hj,h⟩
  ·cases e1
  ·exact s.sh j e h
 ·rcases Yh h with⟨rfl,e1,_⟩ | ⟨hj,h⟩
  ·cases e1
   exact⟨a,ys,ha,q2,q3,Ym,r⟩
  ·obtain⟨b,zs,p1,p2,p3,p4,p5⟩:=s.ow j m h
   exact⟨b,zs,p1,p2,p3,by rw[Yk (s.ap j i m l b a h hi hj p1 ha)];exact p4,p5⟩
 ·have old:∀(j:Nat) m,(ρ.set i (some (.ow l')))[j]?=some (some (B.ow m))->∃m',ρ[j]?=some (some (B.ow m')):=fun j m h=>by
   rcases Yh h with⟨rfl,_,_⟩ | ⟨_,h⟩
   ·exact⟨l,hi⟩
   ·exact⟨m,h⟩
  obtain⟨n1,e1⟩:=old j m h1
  obtain⟨n2,e2⟩:=old k m' h2
  exact s.ap j k n1 n2 b c e1 e2 h3 h4 h5
 ·rcases Yh h with⟨rfl,e1,_⟩ | ⟨hj,h⟩
  ·cases e1
  ·obtain⟨b,kxs,vxs,p1,p2,p3,p4,p5⟩:=s.od j t ks vs h
   refine⟨b,kxs,vxs,p1,p2,p3,p4.mono (Same.refl _) fun o q=>?_,p5⟩
   obtain⟨o',q',nl⟩:=p4.some
   rw[q]at q'
   cases q'
   rw[Yk (fun z=>by rw[z,q4]at q;cases q;exact nl _ rfl)];exact q
 ·rcases Yh h1 with⟨rfl,e1,_⟩ | ⟨hj,h1⟩
  ·cases e1
  ·rcases Yh h2 with⟨rfl,e1,_⟩ | ⟨hk,h2⟩
   ·cases e1
   ·exact s.apd j k t ks vs t' ks' vs' b c h1 h2 h3 h4 h5
theorem SR.freezeT(s:SR K H0 G0 σ H G ρ){i:Nat}{l:List D}(hi:ρ[i]?=some (some (B.ow l))):∃G',SR K H0 G0 σ H G' (ρ.set i (some (.sh (.lst l))))/\∀b ys,G' b=some (.tup ys)->G b=some (.tup ys):=by
 obtain⟨a,xs,q1,q2,q3,q4,q5⟩:=s.ow i l hi
 have hl:i < ρ.length:=(qo hi).1
 have sm:Same G (upd G a (.lst xs)):=fun b o e=>by rw[Yk (Yv e q2)];exact e
 refine⟨upd G a (.lst xs),?_,fun b ys e=>by
  by_cases z:b=a
  ·subst z;rw[Ym]at e;cases e
  ·rw[Yk z]at e;exact e⟩
 refine⟨⟨s.gr.h,s.gr.g.trans sm,fun b o e=>?_,fun b h h'=>?_⟩,by simp[s.len],fun j e h=>?_,fun j m h=>?_,fun j k m m' b c h1 h2 h3 h4 h5=>?_,fun j t ks vs h=>?_,fun j k t ks vs t' ks' vs' b c h1 h2 h3 h4 h5=>?_⟩
 ·by_cases z:b=a
  ·subst z;rw[Ym]at e;rw[q4];exact e
  ·rw[Yk z]at e;exact s.gr.s b o e
 ·by_cases z:b=a
  ·subst z;exact q3
  ·rw[Yk z]at h';exact s.gr.n b h h'
 ·rcases Yh h with⟨rfl,e1,_⟩ | ⟨hj,h⟩
  ·cases e1
   exact⟨_,q1,by rw[Rp];exact⟨a,xs,rfl,.inl Ym,q5.mono sm⟩⟩
  ·obtain⟨v,p1,p2⟩:=s.sh j e h
   exact⟨v,p1,p2.mono sm⟩
 ·rcases Yh h with⟨rfl,e1,_⟩ | ⟨hj,h⟩
  ·cases e1
  ·obtain⟨b,zs,p1,p2,p3,p4,p5⟩:=s.ow j m h
   exact⟨b,zs,p1,by rw[Yk (s.ap j i m l b a h hi hj p1 q1)];exact p2,p3,p4,p5.mono sm⟩
 ·rcases Yh h1 with⟨rfl,e1,_⟩ | ⟨hj,h1⟩
  ·cases e1
  ·rcases Yh h2 with⟨rfl,e1,_⟩ | ⟨hk,h2⟩
   ·cases e1
   ·exact s.ap j k m m' b c h1 h2 h3 h4 h5
 ·rcases Yh h with⟨rfl,e1,_⟩ | ⟨hj,h⟩
  ·cases e1
  ·obtain⟨b,kxs,vxs,p1,p2,p3,p4,p5,p6⟩:=s.od j t ks vs h
   obtain⟨o',q',nl⟩:=p4.some
   exact⟨b,kxs,vxs,p1,by rw[Yk (fun z=>by rw[z,q4]at q';cases q';exact nl _ rfl)];exact p2,p3,p4.mono sm fun _ z=>z,p5.mono sm,p6.mono sm⟩
 ·rcases Yh h1 with⟨rfl,e1,_⟩ | ⟨hj,h1⟩
  ·cases e1
  ·rcases Yh h2 with⟨rfl,e1,_⟩ | ⟨hk,h2⟩
   ·cases e1
   ·exact s.apd j k t ks vs t' ks' vs' b c h1 h2 h3 h4 h5
theorem SR.freeze(s:SR K H0 G0 σ H G ρ){i:Nat}{l:List D}(hi:ρ[i]?=some (some (B.ow l))):∃G',SR K H0 G0 σ H G' (ρ.set i (some (.sh (.lst l)))):=by
 obtain⟨G',h,_⟩:=s.freezeT hi
 exact⟨G',h⟩
theorem SR.freezedT(s:SR K H0 G0 σ H G ρ){i:Nat}{t:Bool}{ks vs:List D}(hi:ρ[i]?=some (some (B.od t ks vs))):∃G',SR K H0 G0 σ H G' (ρ.set i (some (.sh (.dct t ks vs))))/\∀b ys,G' b=some (.tup ys)->G b=some (.tup ys):=by
 obtain⟨a,kxs,vxs,q1,q2,q3,q4,q5,q6⟩:=s.od i t ks vs hi
 obtain⟨o,q7,nl⟩:=q4.some
 have hl:i < ρ.length:=(qo hi).1
 have sm:Same G (upd G a o):=fun b o e=>by rw[Yk (Yv e q2)];exact e
 obtain⟨oT,q8,nt⟩:=q4.someT
 rw[q7]at q8
 cases q8
 refine⟨upd G a o,?_,fun b ys e=>by
  by_cases z:b=a
  ·subst z;rw[Ym]at e;cases e;exact absurd rfl (nt _)
  ·rw[Yk z]at e;exact e⟩
 refine⟨⟨s.gr.h,s.gr.g.trans sm,fun b o' e=>?_,fun b h h'=>?_⟩,by simp[s.len],fun j e h=>?_,fun j m h=>?_,fun j k m m' b c h1 h2 h3 h4 h5=>?_,fun j t ks vs h=>?_,fun j k t ks vs t' ks' vs' b c h1 h2 h3 h4 h5=>?_⟩
 ·by_cases z:b=a
  ·subst z;rw[Ym]at e;rw[q7];exact e
  ·rw[Yk z]at e;exact s.gr.s b o' e
 ·by_cases z:b=a
  ·subst z;exact q3
  ·rw[Yk z]at h';exact s.gr.n b h h'
 ·rcases Yh h with⟨rfl,e1,_⟩ | ⟨hj,h⟩
  ·cases e1
   refine⟨_,q1,?_⟩
   rw[Rp]
   refine⟨a,kxs,vxs,rfl,q4.mono sm fun o' z=>?_,q5.mono sm,q6.mono sm⟩
   rw[q7]at z
   rw[Ym];exact z
  ·obtain⟨v,p1,p2⟩:=s.sh j e h
   exact⟨v,p1,p2.mono sm⟩
 ·rcases Yh h with⟨rfl,e1,_⟩ | ⟨hj,h⟩
  ·cases e1
  ·obtain⟨b,zs,p1,p2,p3,p4,p5⟩:=s.ow j m h
   exact⟨b,zs,p1,by rw[Yk (fun z=>by rw[z,q7]at p4;cases p4;exact nl _ rfl)];exact p2,p3,p4,p5.mono sm⟩
 ·rcases Yh h1 with⟨rfl,e1,_⟩ | ⟨hj,h1⟩
  ·cases e1
  ·rcases Yh h2 with⟨rfl,e1,_⟩ | ⟨hk,h2⟩
   ·cases e1
   ·exact s.ap j k m m' b c h1 h2 h3 h4 h5
 ·rcases Yh h with⟨rfl,e1,_⟩ | ⟨hj,h⟩
  ·cases e1
  ·obtain⟨b,kx,vx,p1,p2,p3,p4,p5,p6⟩:=s.od j t ks vs h
   exact⟨b,kx,vx,p1,by rw[Yk (s.apd j i _ _ _ _ _ _ b a h hi hj p1 q1)];exact p2,p3,p4.mono sm fun _ z=>z,p5.mono sm,p6.mono sm⟩
 ·rcases Yh h1 with⟨rfl,e1,_⟩ | ⟨hj,h1⟩
  ·cases e1
  ·rcases Yh h2 with⟨rfl,e1,_⟩ | ⟨hk,h2⟩
   ·cases e1
   ·exact s.apd j k t ks vs t' ks' vs' b c h1 h2 h3 h4 h5
theorem SR.freezed(s:SR K H0 G0 σ H G ρ){i:Nat}{t:Bool}{ks vs:List D}(hi:ρ[i]?=some (some (B.od t ks vs))):∃G',SR K H0 G0 σ H G' (ρ.set i (some (.sh (.dct t ks vs)))):=by
 obtain⟨G',h,_⟩:=s.freezedT hi
 exact⟨G',h⟩
def Le(ρ ρ':Ro):Prop:=ρ.length=ρ'.length/\∀(i:Nat) b,ρ[i]?=some (some b)->ρ'[i]?=some (some b)
theorem SR.le{ρ':Ro}(s:SR K H0 G0 σ H G ρ')(h:Le ρ ρ'):SR K H0 G0 σ H G ρ:=
 ⟨s.gr,s.len.trans h.1.symm,fun i d e=>s.sh i d (h.2 i _ e),fun i l e=>s.ow i l (h.2 i _ e),fun i j l l' a b e1 e2=>s.ap i j l l' a b (h.2 i _ e1) (h.2 j _ e2),
  fun i t ks vs e=>s.od i t ks vs (h.2 i _ e),fun i j t ks vs t' ks' vs' a b e1 e2=>s.apd i j t ks vs t' ks' vs' a b (h.2 i _ e1) (h.2 j _ e2)⟩
theorem SR.rebase(s:SR K H0 G0 σ H G ρ):∃H1,SR K H1 G σ H G ρ/\∀σ' H' G' ρ',SR K H1 G σ' H' G' ρ'->SR K H0 G0 σ' H' G' ρ':=by
 classical
 let own:Addr->Prop:=fun a=>∃(i:Nat),((∃l:List D,ρ[i]?=some (some (B.ow l)))\/(∃t ks vs,ρ[i]?=some (some (B.od t ks vs))))/\σ[i]?=some (some (V.ref a))
 have h0:∀a,own a->H0 a=none:=fun a hx_=>by
  obtain⟨i,e1,e2⟩:=hx_
  rcases e1 with⟨l,e1⟩ | ⟨t,ks,vs,e1⟩
  ·obtain⟨b,xs,q1,_,q3,_⟩:=s.ow i l e1
   rw[e2]at q1;cases q1;exact q3
  ·obtain⟨b,kxs,vxs,q1,_,q3,_⟩:=s.od i t ks vs e1
   rw[e2]at q1;cases q1;exact q3
 have back:∀a,(if own a then (none:Option HO)else H a)=none->H0 a=none:=fun a h=>by
  by_cases o:own a
  ·exact h0 a o
  ·rw[if_neg o]at h;exact s.gr.h.free h
 refine⟨fun a=>if own a then none else H a,⟨⟨fun b o e=>?_,Same.refl _,s.gr.s,fun _ h h'=>absurd h h'⟩,s.len,s.sh,fun i l e=>?_,s.ap,fun i t ks vs e=>?_,s.apd⟩,fun σ' H' G' ρ' t=>⟨⟨fun b o e=>?_,s.gr.g.trans t.gr.g,t.gr.s,fun b h h'=>?_⟩,t.len,t.sh,fun i l e=>?_,t.ap,fun i t1 ks vs e=>?_,t.apd⟩⟩
 ·by_cases z:own b
  ·simp only[if_pos z]at e;cases e
  ·simp only[if_neg z]at e;exact e
 ·obtain⟨a,xs,q1,q2,q3,q4,q5⟩:=s.ow i l e
  exact⟨a,xs,q1,q2,if_pos ⟨i,.inl ⟨l,e⟩,q1⟩,q4,q5⟩
 ·obtain⟨a,kxs,vxs,q1,q2,q3,q4⟩:=s.od i t ks vs e
  exact⟨a,kxs,vxs,q1,q2,if_pos ⟨i,.inr ⟨t,ks,vs,e⟩,q1⟩,q4⟩
 ·refine t.gr.h b o ?_
  have z:¬own b:=fun z=>by rw[h0 b z]at e;cases e
  show(if own b then none else H b)=some o
  rw[if_neg z];exact s.gr.h b o e
 ·by_cases z:G b=none
  ·exact back b (t.gr.n b z h')
  ·exact s.gr.n b h z
 ·obtain⟨a,xs,q1,q2,q3,q4,q5⟩:=t.ow i l e
  exact⟨a,xs,q1,q2,back a q3,q4,q5⟩
 ·obtain⟨a,kxs,vxs,q1,q2,q3,q4⟩:=t.od i t1 ks vs e
  exact⟨a,kxs,vxs,q1,q2,back a q3,q4⟩
end
def tOf(K:W.Frag)(f:Ro->Option D):TE:=fun σ H Q=>∃ρ d H0 G0 G,f ρ=some d/\SR K H0 G0 σ H G ρ/\∀v H' G',Gr H G H' G'->Rp K G' d v->Q v H'
def tCof(K:W.Frag)(f:Ro->Option D):TE:=fun σ H Q=>∃ρ d H0 G0 G,f ρ=some d/\SR K H0 G0 σ H G ρ/\∀v H' G',Gr H G H' G'->Ct K G' H' d v->Q v H'
def tCAof(K:W.Frag)(f:Ro->Option (List D)):TA:=fun σ H Q=>∃ρ l H0 G0 G,f ρ=some l/\SR K H0 G0 σ H G ρ/\∀vs H' G',Gr H G H' G'->CtL K G' H' l vs->Q vs H'
def tFof(K:W.Frag)(f:Ro->Option (List D)):TE:=fun σ H Q=>∃ρ l H0 G0 G,f ρ=some l/\SR K H0 G0 σ H G ρ/\∀p xs H' G',Gr H G H' G'->H p=none->G' p=none->H' p=some (.lst xs)->RpL K G' l xs->Q (.ref p) H'
def tTof(K:W.Frag)(f:Ro->Option Bool):TT:=fun σ H Q=>∃ρ b H0 G0 G,f ρ=some b/\SR K H0 G0 σ H G ρ/\∀H' G',Gr H G H' G'->Q b H'
def tAof(K:W.Frag)(f:Ro->Option (List D)):TA:=fun σ H Q=>∃ρ l H0 G0 G,f ρ=some l/\SR K H0 G0 σ H G ρ/\∀vs H' G',Gr H G H' G'->RpL K G' l vs->Q vs H'
def Wk(K:W.Frag)(J:It)(G':Hp)(ds:List D):Prop:=ds.length<=sizeLine/\∀(i:Nat) H2 G2,Same G' G2->Same G2 H2->
 (∀d,ds[i]?=some d->J.go i H2/\∀y H3,J.yld i H2 y H3->∃G3,Gr H2 G2 H3 G3/\Rp K G3 d y)/\(ds.length<=i->J.stop i H2)
def tIof(K:W.Frag)(f:Ro->Option (List D)):TI:=fun σ H R=>∃ρ ds H0 G0 G,f ρ=some ds/\SR K H0 G0 σ H G ρ/\∀J H' G',Gr H G H' G'->Wk K J G' ds->R J H'
inductive Out where
 | nx (ρ:Ro) | rt (d:D) | bk (ρ:Ro) | ct (ρ:Ro)
def Cont(K:W.Frag)(H0 G0:Hp)(F:Ends):Out->Prop
 | .nx ρ'=>∀σ' H' G',SR K H0 G0 σ' H' G' ρ'->F.nx σ' H'
 | .rt d=>∀v H' G',Gr H0 G0 H' G'->Rp K G' d v->F.rt v H'
 | .bk ρ'=>∀σ' H' G',SR K H0 G0 σ' H' G' ρ'->F.bk σ' H'
 | .ct ρ'=>∀σ' H' G',SR K H0 G0 σ' H' G' ρ'->F.ct σ' H'
def sOf(K:W.Frag)(f:Ro->Option Out):TS:=fun F σ H=>∃ρ out H0 G0 G,f ρ=some out/\SR K H0 G0 σ H G ρ/\Cont K H0 G0 F out
def gOf(K:W.Frag)(gt:D->Ro->Option Ro):TG:=fun v σ H Q=>∃d ρ ρ' H0 G0 G,gt d ρ=some ρ'/\SR K H0 G0 σ H G ρ/\Rp K G d v/\∀σ',SR K H0 G0 σ' H G ρ'->Q σ' H
abbrev ME(X:Cx)(e:Expr)(f:Ro->Option D):Prop:=PE X e (tOf X.K f)
abbrev MC(X:Cx)(e:Expr)(f:Ro->Option D):Prop:=PE X e (tCof X.K f)
abbrev MCA(X:Cx)(es:List Expr)(f:Ro->Option (List D)):Prop:=PA X es (tCAof X.K f)
abbrev MF(X:Cx)(e:Expr)(f:Ro->Option (List D)):Prop:=PE X e (tFof X.K f)
abbrev MT(X:Cx)(e:Expr)(f:Ro->Option Bool):Prop:=PT X e (tTof X.K f)
abbrev MA(X:Cx)(es:List Expr)(f:Ro->Option (List D)):Prop:=PA X es (tAof X.K f)
abbrev MI(X:Cx)(tg iter:Expr)(f:Ro->Option (List D)):Prop:=PI X tg iter (tIof X.K f)
abbrev MS(X:Cx)(st:Stmt)(f:Ro->Option Out):Prop:=PS X st (sOf X.K f)
abbrev MB(X:Cx)(sts:List Stmt)(f:Ro->Option Out):Prop:=PSs X sts (sOf X.K f)
abbrev MG(X:Cx)(tg:Expr)(gt:D->Ro->Option Ro):Prop:=PG X tg (gOf X.K gt)
section
variable {X:Cx}
theorem PE.imp{e:Expr}{t t':TE}(h:PE X e t)(i:∀σ H Q,t' σ H Q->t σ H Q):PE X e t':=fun pins s σ H Q I hw=>h pins s σ H Q I (i σ H Q hw)
theorem PT.imp{e:Expr}{t t':TT}(h:PT X e t)(i:∀σ H Q,t' σ H Q->t σ H Q):PT X e t':=fun pins s σ H Q I hw=>h pins s σ H Q I (i σ H Q hw)
theorem PA.imp{es:List Expr}{t t':TA}(h:PA X es t)(i:∀σ H Q,t' σ H Q->t σ H Q):PA X es t':=fun pos pins s σ H Q I hw=>h pos pins s σ H Q I (i σ H Q hw)
theorem PS.imp{st:Stmt}{t t':TS}(h:PS X st t)(i:∀F σ H,t' F σ H->t F σ H):PS X st t':=fun pins s σ H F I hw=>h pins s σ H F I (i F σ H hw)
theorem PSs.imp{st:List Stmt}{t t':TS}(h:PSs X st t)(i:∀F σ H,t' F σ H->t F σ H):PSs X st t':=fun pins s σ H F I hw=>h pins s σ H F I (i F σ H hw)
theorem PI.imp{tg e:Expr}{t t':TI}(h:PI X tg e t)(i:∀σ H R,t' σ H R->t σ H R):PI X tg e t':=fun pins s σ H R I hw=>h pins s σ H R I (i σ H R hw)
theorem PG.imp{e:Expr}{t t':TG}(h:PG X e t)(i:∀v σ H Q,t' v σ H Q->t v σ H Q):PG X e t':=fun pins s σ H v u Q I r hw=>h pins s σ H v u Q I r (i v σ H Q hw)
variable {H0 G0 H G:Hp} {σ:L2.St} {ρ:Ro}
theorem tOf.at{f:Ro->Option D}{d:D}{Q:VK}(e:f ρ=some d)(s:SR K H0 G0 σ H G ρ)(h:∀v H' G',Gr H G H' G'->Rp K G' d v->SR K H0 G0 σ H' G' ρ->Q v H'):tOf K f σ H Q:=
 ⟨ρ,d,H0,G0,G,e,s,fun v H' G' g r=>h v H' G' g r (s.grow g)⟩
theorem tCof.at{f:Ro->Option D}{d:D}{Q:VK}(e:f ρ=some d)(s:SR K H0 G0 σ H G ρ)(h:∀v H' G',Gr H G H' G'->Ct K G' H' d v->SR K H0 G0 σ H' G' ρ->Q v H'):tCof K f σ H Q:=
 ⟨ρ,d,H0,G0,G,e,s,fun v H' G' g r=>h v H' G' g r (s.grow g)⟩
theorem tCAof.at{f:Ro->Option (List D)}{l:List D}{Q:List V->Hp->Prop}(e:f ρ=some l)(s:SR K H0 G0 σ H G ρ)(h:∀vs H' G',Gr H G H' G'->CtL K G' H' l vs->SR K H0 G0 σ H' G' ρ->Q vs H'):tCAof K f σ H Q:=
 ⟨ρ,l,H0,G0,G,e,s,fun v H' G' g r=>h v H' G' g r (s.grow g)⟩
theorem ME.mc{e:Expr}{f:Ro->Option D}(h:ME X e f):MC X e f:=PE.imp h fun σ H Q ⟨ρ,d,H0,G0,G,e,s,h⟩=>⟨ρ,d,H0,G0,G,e,s,fun v H' G' g r=>h v H' G' g (.of g.s r)⟩
theorem tTof.at{f:Ro->Option Bool}{b:Bool}{Q:Bool->Hp->Prop}(e:f ρ=some b)(s:SR K H0 G0 σ H G ρ)(h:∀H' G',Gr H G H' G'->SR K H0 G0 σ H' G' ρ->Q b H'):tTof K f σ H Q:=
 ⟨ρ,b,H0,G0,G,e,s,fun H' G' g=>h H' G' g (s.grow g)⟩
theorem tAof.at{f:Ro->Option (List D)}{l:List D}{Q:List V->Hp->Prop}(e:f ρ=some l)(s:SR K H0 G0 σ H G ρ)(h:∀vs H' G',Gr H G H' G'->RpL K G' l vs->SR K H0 G0 σ H' G' ρ->Q vs H'):tAof K f σ H Q:=
 ⟨ρ,l,H0,G0,G,e,s,fun v H' G' g r=>h v H' G' g r (s.grow g)⟩
end
end
section
variable {K:W.Frag}
def b2{α:Type}(fa fb:Ro->Option D)(g:D->D->Option α):Ro->Option α:=fun ρ=>(fa ρ).bind fun x=>(fb ρ).bind fun y=>g x y
def b1{α:Type}(fa:Ro->Option D)(g:D->Option α):Ro->Option α:=fun ρ=>(fa ρ).bind g
theorem Yic{α:Type}{fa fb:Ro->Option D}{g:D->D->Option α}{ρ:Ro}{r:α}(h:b2 fa fb g ρ=some r):∃x y,fa ρ=some x/\fb ρ=some y/\g x y=some r:=by
 unfold b2 at h
 obtain⟨x,h1,h⟩:=qa h
 obtain⟨y,h2,h⟩:=qa h
 exact⟨x,y,h1,h2,h⟩
theorem Ya3{α:Type}{fa:Ro->Option D}{g:D->Option α}{ρ:Ro}{r:α}(h:b1 fa g ρ=some r):∃x,fa ρ=some x/\g x=some r:=by
 unfold b1 at h
 obtain⟨x,h1,h⟩:=qa h
 exact⟨x,h1,h⟩
def Sem2(K:W.Frag)(r:R2)(g:D->D->Option D):Prop:=∀(x y:V) (dx dy d:D) (H G:Hp) (Q:VK),g dx dy=some d->Same G H->Ct K G H dx x->Ct K G H dy y->(∀v H' G',Gr H G H' G'->Rp K G' d v->Q v H')->r x y H Q
def Ye4(K:W.Frag)(r:R2)(g:D->D->Option Bool):Prop:=∀(x y:V) (dx dy:D) (b:Bool) (H G:Hp) (Q:VK),g dx dy=some b->Same G H->Ct K G H dx x->Ct K G H dy y->Q (.bl b) H->r x y H Q
def SemC(K:W.Frag)(r:List V->Hp->VK->Prop)(g:List D->Option D):Prop:=∀(vs:List V) (ds:List D) (d:D) (H G:Hp) (Q:VK),g ds=some d->Same G H->CtL K G H ds vs->(∀v H' G',Gr H G H' G'->Rp K G' d v->Q v H')->r vs H Q
section
variable {X:Cx} {a b c e:Expr} {es:List Expr} {fa fb fc f:Ro->Option D} {ga:Ro->Option (List D)} {pos:Pos}
def getV(i:Nat):Ro->Option D:=fun ρ=>match ρ[i]? with
 | some (some (B.sh d))=>some d
 | _=>none
def getO(i:Nat):Ro->Option (List D):=fun ρ=>match ρ[i]? with
 | some (some (B.ow l))=>some l
 | _=>none
theorem Yp1{i:Nat}{ρ:Ro}{d:D}(h:getV i ρ=some d):ρ[i]?=some (some (B.sh d)):=by
 unfold getV at h
 split at h
 ·cases h;assumption
 ·cases h
theorem Yga{i:Nat}{ρ:Ro}{l:List D}(h:getO i ρ=some l):ρ[i]?=some (some (B.ow l)):=by
 unfold getO at h
 split at h
 ·cases h;assumption
 ·cases h
theorem Yyo(i:Nat){x:Str}(hN:X.N[i]?=some x:=by rfl)(hv:Vis X.env.scope x:=by first | exact Or.inl rfl | exact Or.inr (Or.inl rfl) | exact Or.inr (Or.inr rfl))(hd:(x==("__debug__":Str))=false:=by decide)
 (hcd:(x==("__classdict__":Str))=false:=by decide):ME X (.Name x pos) (getV i):=
 PE.imp (Yej hN hv hd hcd) fun σ H Q hx_=>by
  obtain⟨ρ,d,H0,G0,G,e,s,h⟩:=hx_
  obtain⟨v,h1,h2⟩:=s.sh i d (Yp1 e)
  exact⟨v,h1,h v H G (.refl s.seen) h2⟩
def getC(i:Nat):Ro->Option D:=fun ρ=>match ρ[i]? with
 | some (some (B.sh d))=>some d
 | some (some (B.ow l))=>some (.lst l)
 | some (some (B.od t ks vs))=>some (.dct t ks vs)
 | _=>none
theorem Yyp(i:Nat){x:Str}(hN:X.N[i]?=some x:=by rfl)(hv:Vis X.env.scope x:=by first | exact Or.inl rfl | exact Or.inr (Or.inl rfl) | exact Or.inr (Or.inr rfl))(hd:(x==("__debug__":Str))=false:=by decide)
 (hcd:(x==("__classdict__":Str))=false:=by decide):MC X (.Name x pos) (getC i):=
 PE.imp (Yej hN hv hd hcd) fun σ H Q hx_=>by
  obtain⟨ρ,d,H0,G0,G,e,s,h⟩:=hx_
  unfold getC at e
  split at e
  ·rename_i d' hd'
   cases e
   obtain⟨v,h1,h2⟩:=s.sh i _ hd'
   exact⟨v,h1,h v H G (.refl s.seen) (.of s.seen h2)⟩
  ·rename_i l hl
   cases e
   obtain⟨a,xs,h1,h2,h3,h4,h5⟩:=s.ow i l hl
   exact⟨_,h1,h _ H G (.refl s.seen) (by rw[Ct];exact⟨a,xs,rfl,.inl h4,h5⟩)⟩
  ·rename_i t ks vs hl
   cases e
   obtain⟨a,kxs,vxs,h1,h2,h3,h4,h5⟩:=s.od i t ks vs hl
   exact⟨_,h1,h _ H G (.refl s.seen) (by rw[Ct];exact⟨a,kxs,vxs,rfl,h4,h5⟩)⟩
  ·cases e
def kD(d:D):Ro->Option D:=fun _=>some d
theorem Yew{v:V}{d:D}{t:TE}(h:PE X e t)(ht:∀σ H Q,Q v H->t σ H Q)(hr:∀G,Rp X.K G d v):ME X e (kD d):=
 PE.imp h fun σ H Q hx_=>by
  obtain⟨ρ,d',H0,G0,G,e,s,h⟩:=hx_
  cases e
  exact ht σ H Q (h v H G (.refl s.seen) (hr G))
theorem Yyq{i:Int}{j}:ME X (.Constant (.int i) j pos) (kD (.int i)):=Yew (v:=.int i) Ynu (fun _ _ _ q=>q) fun _=>by rw[Rp]
theorem y1d{k:Bool}{j}:ME X (.Constant (.bool k) j pos) (kD (.bl k)):=Yew (v:=.bl k) y0x (fun _ _ _ q=>q) fun _=>by rw[Rp]
theorem Yyr{j}:ME X (.Constant .none j pos) (kD .non):=Yew (v:=.non) Yxz (fun _ _ _ q=>q) fun _=>by rw[Rp]
theorem Yys{x:Str}{j}(hx:PyData.strOk x=true:=by decide +kernel):ME X (.Constant (.str x) j pos) (kD (.str x)):=Yew (v:=.str x) Yph (fun _ _ _ q=>q) fun _=>by rw[Rp];exact⟨rfl,hx⟩
theorem Yuz{r:R2}{g:D->D->Option D}(hr:Sem2 K r g){σ:L2.St}{H:Hp}{Q:VK}(h:tOf K (b2 fa fb g) σ H Q):tOp r (tCof K fa) (tCof K fb) σ H Q:=by
 obtain⟨ρ,d,H0,G0,G,e,s,h⟩:=h
 obtain⟨dx,dy,h1,h2,h3⟩:=Yic e
 exact tCof.at h1 s fun v H1 G1 g1 r1 s1=>tCof.at h2 s1 fun u H2 G2 g2 r2 s2=>hr v u dx dy d H2 G2 Q h3 s2.seen (r1.grow g2) r2 fun w H' G' g3 r3=>h w H' G' ((g1.trans g2).trans g3) r3
theorem Yv5{r:R2}{g:D->D->Option Bool}(hr:Ye4 K r g){σ:L2.St}{H:Hp}{Q:Bool->Hp->Prop}(h:tTof K (b2 fa fb g) σ H Q):Yvt (tOp r (tCof K fa) (tCof K fb)) σ H Q:=by
 obtain⟨ρ,d,H0,G0,G,e,s,h⟩:=h
 obtain⟨dx,dy,h1,h2,h3⟩:=Yic e
 exact tCof.at h1 s fun v H1 G1 g1 r1 s1=>tCof.at h2 s1 fun u H2 G2 g2 r2 s2=>hr v u dx dy d H2 G2 _ h3 s2.seen (r1.grow g2) r2 ⟨d,rfl,h H2 G2 (g1.trans g2)⟩
def mB(f:Ro->Option Bool):Ro->Option D:=fun ρ=>(f ρ).map D.bl
theorem Ymu{f:Ro->Option Bool}{ρ:Ro}{d:D}(h:mB f ρ=some d):∃b,f ρ=some b/\d=.bl b:=by
 unfold mB at h
 obtain⟨b,h1,h2⟩:=qc h
 exact⟨b,h1,h2.symm⟩
theorem Ys0{r:R2}{g:D->D->Option Bool}(hr:Ye4 K r g){σ:L2.St}{H:Hp}{Q:VK}(h:tOf K (mB (b2 fa fb g)) σ H Q):tOp r (tCof K fa) (tCof K fb) σ H Q:=by
 obtain⟨ρ,d,H0,G0,G,e,s,h⟩:=h
 obtain⟨b,eb,rfl⟩:=Ymu e
 obtain⟨dx,dy,h1,h2,h3⟩:=Yic eb
 exact tCof.at h1 s fun v H1 G1 g1 r1 s1=>tCof.at h2 s1 fun u H2 G2 g2 r2 s2=>hr v u dx dy b H2 G2 _ h3 s2.seen (r1.grow g2) r2 (h _ H2 G2 (g1.trans g2) (by rw[Rp]))
theorem Yj0{op:Operator}{r:R2}{g:D->D->Option D}(ho:OpR X (binaryOp op) r)(hr:Sem2 X.K r g)(ha:MC X a fa)(hb:MC X b fb):ME X (.BinOp a op b pos) (b2 fa fb g):=PE.imp (Yso ho ha hb) fun _ _ _ h=>Yuz hr h
theorem Yp2{op:CmpOp}{r:R2}{g:D->D->Option Bool}(ho:OpR X (compareOp op) r)(hr:Ye4 X.K r g)(ha:MC X a fa)(hb:MC X b fb)(hm:behindInMarks op b=false):ME X (.Compare a [op] [b] pos) (mB (b2 fa fb g)):=PE.imp (Yvs ho ha hb hm) fun _ _ _ h=>Ys0 hr h
theorem Yn0{op:CmpOp}{r:R2}{g:D->D->Option Bool}(ho:OpR X (compareOp op) r)(hr:Ye4 X.K r g)(ha:MC X a fa)(hb:MC X b fb)(hm:behindInMarks op b=false):MT X (.Compare a [op] [b] pos) (b2 fa fb g):=PT.imp (Ymp ho ha hb hm) fun _ _ _ h=>Yv5 hr h
theorem Yyt{r:R2}{g:D->D->Option D}(hi:IxR X r)(hr:Sem2 X.K r g)(ha:MC X a fa)(hb:MC X b fb)(hs:Ygy b):ME X (.Subscript a b pos) (b2 fa fb g):=PE.imp (y1c hi ha hb hs) fun _ _ _ h=>Yuz hr h
def i2(C:Int->Int->Bool)(g:Int->Int->Int):D->D->Option D
 | .int i,.int j=>if C i j=true then some (.int (g i j))else none
 | _,_=>none
def i2b(g:Int->Int->Bool):D->D->Option Bool
 | .int i,.int j=>some (g i j)
 | _,_=>none
theorem Yn1{C:Int->Int->Prop}{Cb:Int->Int->Bool}(hC:∀i j,Cb i j=true->C i j){g:Int->Int->Int}:Sem2 K (rI C fun i j=>.int (g i j)) (i2 Cb g):=by
 intro x y dx dy d H G Q h s rx ry q
 unfold i2 at h
 split at h
 ·split at h
  ·rename_i i j hc
   cases h
   rw[Ct]at rx ry
   subst rx;subst ry
   exact⟨i,j,rfl,rfl,hC i j hc,q _ H G (.refl s) (by rw[Rp])⟩
  ·cases h
 ·cases h
theorem Ymv{g:Int->Int->Int}:Sem2 K (rI0 fun i j=>.int (g i j)) (i2 (fun _ _=>true) g):=by
 intro x y dx dy d H G Q h s rx ry q
 unfold i2 at h
 split at h
 ·split at h
  ·rename_i i j hc
   cases h
   rw[Ct]at rx ry
   subst rx;subst ry
   exact⟨i,j,rfl,rfl,q _ H G (.refl s) (by rw[Rp])⟩
  ·cases h
 ·cases h
theorem Yid{g:Int->Int->Bool}:Ye4 K (rI0 fun i j=>.bl (g i j)) (i2b g):=by
 intro x y dx dy d H G Q h s rx ry q
 unfold i2b at h
 split at h
 ·rename_i i j
  cases h
  rw[Ct]at rx ry
  subst rx;subst ry
  exact⟨i,j,rfl,rfl,q⟩
 ·cases h
def addI:D->D->Option D:=i2 (fun _ _=>true) fun i j=>i+j
def subI:D->D->Option D:=i2 (fun _ _=>true) fun i j=>i - j
def mulI:D->D->Option D:=i2 (fun i j=>(decide (-(2 ^ 64) < i)&&decide (i < 2 ^ 64))||(decide (-(2 ^ 64) < j)&&decide (j < 2 ^ 64))) fun i j=>i * j
def divI:D->D->Option D:=i2 (fun _ j=>decide (0 < j)&&decide (j < 1073741824)) fun i j=>i / j
def modI:D->D->Option D:=i2 (fun _ j=>decide (0 < j)) fun i j=>i % j
theorem Yyu(ha:MC X a fa)(hb:MC X b fb):ME X (.BinOp a .Sub b pos) (b2 fa fb subI):=Yj0 Yx9 Ymv ha hb
theorem Yyv(ha:MC X a fa)(hb:MC X b fb):ME X (.BinOp a .Mult b pos) (b2 fa fb mulI):=Yj0 Yya (Yn1 fun i j h=>by
 simp only[Bool.or_eq_true,Qg,decide_eq_true_eq]at h
 exact h) ha hb
theorem Yyw(ha:MC X a fa)(hb:MC X b fb):ME X (.BinOp a .FloorDiv b pos) (b2 fa fb divI):=Yj0 Yvq (Yn1 fun i j h=>by
 simp only[Qg,decide_eq_true_eq]at h
 exact h) ha hb
theorem Yyx(ha:MC X a fa)(hb:MC X b fb):ME X (.BinOp a .Mod b pos) (b2 fa fb modI):=Yj0 Yup (Yn1 fun i j h=>of_decide_eq_true h) ha hb
def ltI:=i2b fun i j=>decide (i < j)
def leI:=i2b fun i j=>decide (i<=j)
def gtI:=i2b fun i j=>decide (j < i)
theorem y1e(ha:MC X a fa)(hb:MC X b fb):MT X (.Compare a [.Gt] [b] pos) (b2 fa fb gtI):=Yn0 y05 Yid ha hb (Yjt _)
mutual
def dep:D->Nat
 | .tup l=>depL l+1
 | .lst l=>depL l+1
 | .scr _=>1
 | .dct _ _ _=>1000
 | .obj _ _ _=>1000
 | .adr _=>1000
 | _=>0
def depL:List D->Nat
 | []=>0
 | d::l=>max (dep d) (depL l)
end
mutual
theorem Ydm:∀d:D,(toPy d).depth<=dep d
 | .non=>by simp[toPy,PyData.depth,dep]
 | .bl b=>by simp[toPy,PyData.depth,dep]
 | .int b=>by simp[toPy,PyData.depth,dep]
 | .str b=>by simp[toPy,PyData.depth,dep]
 | .tup l=>by have:=Yfi l;simp[toPy,PyData.depth,dep];lia
 | .lst l=>by have:=Yfi l;simp[toPy,PyData.depth,dep];lia
 | .scr ns=>by rw[toPy,PyData.depth,dep,W.ke_depthAll];exact qu _
 | .dct _ _ _=>by simp[toPy,PyData.depth,dep]
 | .obj _ _ _=>by simp[toPy,PyData.depth,dep]
 | .adr _=>by simp[toPy,PyData.depth,dep]
theorem Yfi:∀l:List D,PyData.depthAll (Yhl l)<=depL l
 | []=>by simp[Yhl,PyData.depthAll,depL]
 | d::l=>by have h1:=Ydm d;have h2:=Yfi l;simp[Yhl,PyData.depthAll,depL];lia
end
section
variable {pins:List (Addr × Obj)} {σ:L2.St} {H:Hp} {s:Shared}
mutual
theorem Ygb(I:Inv X pins σ H s):∀{d:D} {v:V} {u:Value},dep d<=100->Rp X.K H d v->RelV v u->∃as,Reads s.heap u (toPy d) as/\(toPy d).canLay0=true
 | .non,v,u,_,r,q=>by
   rw[Rp]at r;subst r
   cases q
   exact⟨_,by rw[toPy];exact .none,by simp[toPy,PyData.canLay0]⟩
 | .bl b,v,u,_,r,q=>by
   rw[Rp]at r;subst r
   cases q
   exact⟨_,by rw[toPy];exact .bool b,by simp[toPy,PyData.canLay0]⟩
 | .int i,v,u,_,r,q=>by
   rw[Rp]at r;subst r
   obtain⟨t,rfl⟩:=q
   exact⟨_,by rw[toPy];exact .int i t,by simp[toPy,PyData.canLay0]⟩
 | .str x,v,u,_,r,q=>by
   rw[Rp]at r;obtain⟨rfl,hx⟩:=r
   obtain⟨t,rfl⟩:=q
   exact⟨_,by rw[toPy];exact .str x t,by simp[toPy,PyData.canLay0,hx]⟩
 | .tup l,v,u,hd,r,q=>by
   rw[Rp]at r
   obtain⟨a,xs,rfl,g,rl⟩:=r
   cases q
   obtain⟨_,its,rv,ht⟩:=(show ObjOk X.prog X.w H s.heap a (.tup xs) from I.hok a _ g)
   obtain⟨o,h1,h2,n,h3⟩:=ht
   obtain⟨as,q,hc⟩:=Yie I (by simp only[dep]at hd;lia) rl rv
   exact⟨_,by rw[toPy];exact .tuple h1 h2 h3 (by simpa using q),by simpa [toPy,PyData.canLay0]using hc⟩
 | .lst l,v,u,hd,r,q=>by
   rw[Rp]at r
   obtain⟨a,xs,rfl,g,rl⟩:=r
   cases q
   obtain⟨its,rv,pl,_⟩:=I.list (.inl g)
   obtain⟨o,h1,h2,n,h3⟩:=pl.isList
   obtain⟨as,q,hc⟩:=Yie I (by simp only[dep]at hd;lia) rl rv
   exact⟨_,by rw[toPy];exact .list h1 h2 h3 (by simpa using q),by simpa [toPy,PyData.canLay0]using hc⟩
 | .dct _ _ _,v,u,hd,r,q=>by simp[dep]at hd
 | .obj _ _ _,v,u,hd,r,q=>by simp[dep]at hd
 | .adr _,v,u,hd,r,q=>by simp[dep]at hd
 | .scr ns,v,u,_,r,q=>by
   rw[Rp]at r
   obtain⟨a,rfl,g⟩:=r
   cases q
   obtain⟨its,rv,pl,_⟩:=I.list g
   exact⟨_,by rw[toPy];exact W.reads_of_ints pl.isList (Yo0 rv),by rw[toPy];simp[PyData.canLay0,W.ke_canLayAll0]⟩
theorem Yie(I:Inv X pins σ H s):∀{l:List D} {xs:List V} {us:List Value},depL l<=100->RpL X.K H l xs->Vals xs us->∃as,ReadsAll s.heap us (Yhl l) as/\PyData.canLayAll0 (Yhl l)=true
 | [],xs,us,_,r,q=>by
   rw[RpL]at r;subst r
   cases q
   exact⟨_,by rw[Yhl];exact .nil,by simp[Yhl,PyData.canLayAll0]⟩
 | d::l,xs,us,hd,r,q=>by
   rw[RpL]at r
   obtain⟨x,xs,rfl,r1,r2⟩:=r
   rw[depL]at hd
   cases q with
   | cons q1 q2=>
     obtain⟨as,h1,h2⟩:=Ygb I (by lia) r1 q1
     obtain⟨bs,h3,h4⟩:=Yie I (by lia) r2 q2
     exact⟨_,by rw[Yhl];exact .cons h1 h3,by simp[Yhl,PyData.canLayAll0,h2,h4]⟩
end
end
def eqM(neg:Bool):D->D->Option Bool:=fun d e=>if dep d<=60/\dep e<=60 then some (if neg then !eqD d e else eqD d e)else none
def rEqD(K:W.Frag)(neg:Bool):R2:=fun x y H Q=>∃d e,Rp K H d x/\Rp K H e y/\(dep d<=60/\dep e<=60)/\Q (.bl (if neg then !eqD d e else eqD d e)) H
theorem Yu0(hu:X.A.units+64 < cLine):OpR X (compareOp .Eq) (rEqD X.K false):=by
 intro pins s σ H x y v u Q I rx ry h
 obtain⟨d,e,r1,r2,hd,q⟩:=h
 obtain⟨as,h1,h2⟩:=Ygb I (by lia) r1 rx
 obtain⟨bs,h3,h4⟩:=Ygb I (by lia) r2 ry
 exact SeqAt.eqOverData X.prog X.w X.A X.xe s v u _ _ as bs _ h1 h3 h2 h4 (by have:=Ydm d;have:=Ydm e;lia) ⟨.bl _,H,I,rfl,by exact q⟩
theorem Yyy(hu:X.A.units+64 < cLine):OpR X (compareOp .NotEq) (rEqD X.K true):=by
 intro pins s σ H x y v u Q I rx ry h
 obtain⟨d,e,r1,r2,hd,q⟩:=h
 obtain⟨as,h1,h2⟩:=Ygb I (by lia) r1 rx
 obtain⟨bs,h3,h4⟩:=Ygb I (by lia) r2 ry
 exact SeqAt.neOverData X.prog X.w X.A X.xe s v u _ _ as bs _ h1 h3 h2 h4 (by have:=Ydm d;have:=Ydm e;lia) ⟨.bl _,H,I,rfl,by exact q⟩
theorem Ymw{neg:Bool}:Ye4 K (rEqD K neg) (eqM neg):=by
 intro x y dx dy b H G Q h s rx ry q
 unfold eqM at h
 split at h
 ·cases h
  exact⟨dx,dy,rx.rp s,ry.rp s,by assumption,q⟩
 ·cases h
theorem y1f(hu:X.A.units+64 < cLine)(ha:MC X a fa)(hb:MC X b fb):ME X (.Compare a [.Eq] [b] pos) (mB (b2 fa fb (eqM false))):=Yp2 (Yu0 hu) Ymw ha hb (Yjt _)
theorem y1g(hu:X.A.units+64 < cLine)(ha:MC X a fa)(hb:MC X b fb):MT X (.Compare a [.Eq] [b] pos) (b2 fa fb (eqM false)):=Yn0 (Yu0 hu) Ymw ha hb (Yjt _)
theorem y1h(hu:X.A.units+64 < cLine)(ha:MC X a fa)(hb:MC X b fb):MT X (.Compare a [.NotEq] [b] pos) (b2 fa fb (eqM true)):=Yn0 (Yyy hu) Ymw ha hb (Yjt _)
def Ybd:D->Option (List D)
 | .tup l=>some l
 | .lst l=>some l
 | .scr ns=>some (ns.map D.int)
 | _=>none
theorem Ycr{c:D}{l:List D}(h:Ybd c=some l):c=.tup l\/c=.lst l\/∃ns,c=.scr ns/\l=ns.map D.int:=by
 cases c with
 | tup m=>cases h;exact .inl rfl
 | lst m=>cases h;exact .inr (.inl rfl)
 | scr ns=>cases h;exact .inr (.inr ⟨ns,rfl,rfl⟩)
 | non=>cases h
 | bl _=>cases h
 | int _=>cases h
 | str _=>cases h
 | dct _ _ _=>cases h
 | obj _ _ _=>cases h
 | adr _=>cases h
end
end
section
variable {K:W.Frag}
section
variable {X:Cx} {a b c e:Expr} {es:List Expr} {fa fb f:Ro->Option D} {fc fd:Ro->Option Bool} {ga:Ro->Option (List D)} {pos:Pos} {rest:List Expr}
def truD:D->Option Bool
 | .non=>some false
 | .bl b=>some b
 | .int i=>some (i != 0)
 | .tup l=>some (!l.isEmpty)
 | .lst l=>some (!l.isEmpty)
 | .scr ns=>some (!ns.isEmpty)
 | .str _=>none
 | .dct _ _ _=>none
 | .obj _ _ _=>none
 | .adr _=>none
theorem Yv6{d:D}{v:V}{k:Bool}{H G:Hp}(h:truD d=some k)(r:Ct X.K G H d v):TruV X.K v H k:=by
 cases d with
 | non=>rw[Ct]at r;subst r;cases h;rfl
 | bl b=>rw[Ct]at r;subst r;cases h;rfl
 | int i=>rw[Ct]at r;subst r;cases h;rfl
 | str x=>cases h
 | dct _ _ _=>cases h
 | obj _ _ _=>cases h
 | adr _=>cases h
 | tup l=>
   rw[Ct]at r
   obtain⟨a,xs,rfl,g,rl⟩:=r
   cases h
   refine .inr (.inl ⟨xs,.inl (.inl g.1),?_⟩)
   have:=rl.length
   cases l<;>cases xs<;>simp_all
 | lst l=>
   rw[Ct]at r
   obtain⟨a,xs,rfl,g,rl⟩:=r
   cases h
   refine .inl ⟨xs,.inl g,?_⟩
   have:=rl.length
   cases l<;>cases xs<;>simp_all
 | scr ns=>
   rw[Ct]at r
   obtain⟨a,rfl,g⟩:=r
   cases h
   refine .inl ⟨_,g,?_⟩
   cases ns<;>simp
theorem Yyz(ha:MC X a fa)(he:∀whole,isTrue a X.env whole=(do let v <-whole;standAt a.pos;holding [v] (truthy v)):=by intro _;rfl):MT X a (b1 fa truD):=
 PT.imp (Ysr ha he) fun σ H Q hx_=>by
  obtain⟨ρ,k,H0,G0,G,e,s,h⟩:=hx_
  obtain⟨d,h1,h2⟩:=Ya3 e
  exact tCof.at h1 s fun v H1 G1 g1 r1 s1=>⟨k,Yv6 h2 r1,h H1 G1 g1⟩
def andT(fc fd:Ro->Option Bool):Ro->Option Bool:=fun ρ=>(fc ρ).bind fun k=>if k=true then fd ρ else some false
def orT(fc fd:Ro->Option Bool):Ro->Option Bool:=fun ρ=>(fc ρ).bind fun k=>if k=true then some true else fd ρ
def notT(fc:Ro->Option Bool):Ro->Option Bool:=fun ρ=>(fc ρ).map (!·)
abbrev MW(X:Cx)(e:Expr)(f:Ro->Option Bool):Prop:=PW X e (tTof X.K f)
theorem PW.imp{t t':TT}(h:PW X e t)(i:∀σ H Q,t' σ H Q->t σ H Q):PW X e t':=fun whole pins s σ H Q I hw=>h whole pins s σ H Q I (i σ H Q hw)
theorem Yv7(ha:MT X a fc):MW X (.BoolOp .And [a] pos) fc:=Yvn ha
theorem Yy0(ha:MT X a fc):MW X (.BoolOp .Or [a] pos) fc:=Yx1 ha
theorem Yv8{σ:L2.St}{H:Hp}{Q:Bool->Hp->Prop}(h:tTof K (andT fc fd) σ H Q):tAnd (tTof K fc) (tTof K fd) σ H Q:=by
 obtain⟨ρ,k,H0,G0,G,e,s,h⟩:=h
 unfold andT at e
 obtain⟨k1,h1,e⟩:=qa e
 refine tTof.at h1 s fun H1 G1 g1 s1=>?_
 cases k1 with
 | true=>
   rw[if_pos rfl]at e ⊢
   exact tTof.at e s1 fun H2 G2 g2 _=>h H2 G2 (g1.trans g2)
 | false=>
   rw[if_neg qi]at e ⊢
   cases e
   exact h H1 G1 g1
theorem Yy1{σ:L2.St}{H:Hp}{Q:Bool->Hp->Prop}(h:tTof K (orT fc fd) σ H Q):tOr (tTof K fc) (tTof K fd) σ H Q:=by
 obtain⟨ρ,k,H0,G0,G,e,s,h⟩:=h
 unfold orT at e
 obtain⟨k1,h1,e⟩:=qa e
 refine tTof.at h1 s fun H1 G1 g1 s1=>?_
 cases k1 with
 | false=>
   rw[if_neg qi]at e ⊢
   exact tTof.at e s1 fun H2 G2 g2 _=>h H2 G2 (g1.trans g2)
 | true=>
   rw[if_pos rfl]at e ⊢
   cases e
   exact h H1 G1 g1
theorem Yy2(ha:MT X a fc)(hb:MW X (.BoolOp .And (b::rest) pos) fd):MW X (.BoolOp .And (a::b::rest) pos) (andT fc fd):=PW.imp (Yx2 ha hb) fun _ _ _ h=>Yv8 h
theorem y1i(ha:MT X a fc)(hb:MW X (.BoolOp .Or (b::rest) pos) fd):MW X (.BoolOp .Or (a::b::rest) pos) (orT fc fd):=PW.imp (y0y ha hb) fun _ _ _ h=>Yy1 h
theorem Yy3(ha:MT X a fc):MT X (.UnaryOp .Not a pos) (notT fc):=PT.imp (Yun ha) fun σ H Q hx_=>by
 obtain⟨ρ,k,H0,G0,G,e,s,h⟩:=hx_
 obtain⟨k1,h1,rfl⟩:=qc e
 exact tTof.at h1 s fun H1 G1 g1 _=>h H1 G1 g1
def blD:D->Option Bool
 | .bl b=>some b
 | _=>none
theorem Yn2{d:D}{k:Bool}(h:blD d=some k):d=.bl k:=by cases d<;>simp[blD]at h;subst h;rfl
def andV(fa fb:Ro->Option D):Ro->Option D:=fun ρ=>(b1 fa blD ρ).bind fun k=>if k=true then fb ρ else some (.bl false)
def notV(fa:Ro->Option D):Ro->Option D:=fun ρ=>(b1 fa blD ρ).map fun k=>.bl (!k)
theorem Yv9(ha:ME X a fa):ME X (.BoolOp .And [a] pos) fa:=Yx3 ha
theorem Yy4(ha:ME X a fa)(hb:ME X (.BoolOp .And (b::rest) pos) fb):ME X (.BoolOp .And (a::b::rest) pos) (andV fa fb):=PE.imp (Yx4 ha hb) fun σ H Q hx_=>by
 obtain⟨ρ,d,H0,G0,G,e,s,h⟩:=hx_
 unfold andV at e
 obtain⟨k,h1,e⟩:=qa e
 obtain⟨d1,h2,h3⟩:=Ya3 h1
 cases Yn2 h3
 refine tOf.at h2 s fun v H1 G1 g1 r1 s1=>⟨k,by rw[Rp]at r1;exact r1,?_⟩
 cases k with
 | true=>
   rw[if_pos rfl]at e ⊢
   exact tOf.at e s1 fun w H2 G2 g2 r2 _=>h w H2 G2 (g1.trans g2) r2
 | false=>
   rw[if_neg qi]at e ⊢
   cases e
   exact h _ H1 G1 g1 (by rw[Rp])
theorem Yy5(ha:ME X a fa):ME X (.UnaryOp .Not a pos) (notV fa):=PE.imp (Yx5 ha) fun σ H Q hx_=>by
 obtain⟨ρ,d,H0,G0,G,e,s,h⟩:=hx_
 obtain⟨k,h1,rfl⟩:=qc e
 obtain⟨d1,h2,h3⟩:=Ya3 h1
 cases Yn2 h3
 exact tOf.at h2 s fun v H1 G1 g1 r1 s1=>⟨k,by rw[Rp]at r1;exact r1,h _ H1 G1 g1 (by rw[Rp])⟩
def ifV(fc:Ro->Option Bool)(fa fb:Ro->Option D):Ro->Option D:=fun ρ=>(fc ρ).bind fun k=>if k=true then fa ρ else fb ρ
theorem y1j(hc:MT X c fc)(ha:ME X a fa)(hb:ME X b fb):ME X (.IfExp c a b pos) (ifV fc fa fb):=PE.imp (Ysk hc ha hb) fun σ H Q hx_=>by
 obtain⟨ρ,d,H0,G0,G,e,s,h⟩:=hx_
 unfold ifV at e
 obtain⟨k,h1,e⟩:=qa e
 refine tTof.at h1 s fun H1 G1 g1 s1=>?_
 cases k with
 | true=>
   rw[if_pos rfl]at e ⊢
   exact tOf.at e s1 fun w H2 G2 g2 r2 _=>h w H2 G2 (g1.trans g2) r2
 | false=>
   rw[if_neg qi]at e ⊢
   exact tOf.at e s1 fun w H2 G2 g2 r2 _=>h w H2 G2 (g1.trans g2) r2
def Yif:D->Bool
 | .non=>true
 | _=>false
theorem Ys1{d:D}{v:V}{G H:Hp}(r:Ct K G H d v):decide (v=V.non)=Yif d:=by
 cases d with
 | non=>rw[Ct]at r;subst r;rfl
 | bl _=>rw[Ct]at r;subst r;rfl
 | int _=>rw[Ct]at r;subst r;rfl
 | str _=>rw[Ct]at r;obtain⟨rfl,_⟩:=r;rfl
 | tup _=>rw[Ct]at r;obtain⟨_,_,rfl,_⟩:=r;rfl
 | lst _=>rw[Ct]at r;obtain⟨_,_,rfl,_⟩:=r;rfl
 | scr _=>rw[Ct]at r;obtain⟨_,rfl,_⟩:=r;rfl
 | dct _ _ _=>rw[Ct]at r;obtain⟨_,_,_,rfl,_⟩:=r;rfl
 | obj _ _ _=>rw[Ct]at r;obtain⟨_,_,_,_,rfl,_⟩:=r;rfl
 | adr _=>rw[Ct]at r;subst r;rfl
def isN(neg:Bool):D->D->Option Bool:=fun d e=>if Yif e then some (if neg then !Yif d else Yif d)else none
theorem Yp3:Ye4 K (fun x y H Q=>y=.non/\Q (.bl (decide (x=.non))) H) (isN false):=by
 intro x y dx dy b H G Q h s rx ry q
 unfold isN at h
 split at h
 ·rename_i hn
  cases h
  cases dy<;>simp[Yif]at hn
  rw[Ct]at ry
  exact⟨ry,by rw[Ys1 rx];exact q⟩
 ·cases h
theorem Yy6(ha:MC X a fa)(hb:MC X b fb):ME X (.Compare a [.Is] [b] pos) (mB (b2 fa fb (isN false))):=Yp2 Yur Yp3 ha hb (Yjt _)
theorem Yy7(ha:MC X a fa)(hb:MC X b fb):MT X (.Compare a [.Is] [b] pos) (b2 fa fb (isN false)):=Yn0 Yur Yp3 ha hb (Yjt _)
def ixD:D->D->Option D
 | c,.int i=>(Ybd c).bind fun l=>atI l i
 | _,_=>none
theorem Yp4{G:Hp}{l:List D}{xs:List V}{i:Int}{d:D}(r:RpL K G l xs)(h:atI l i=some d):∃x,atI xs i=some x/\Rp K G d x:=by
 unfold atI at h ⊢
 rw[r.length]
 obtain⟨j,h1,h2⟩:=qa h
 obtain⟨x,h3,h4⟩:=r.get h2
 exact⟨x,by rw[h1];exact h3,h4⟩
theorem Yy8:Sem2 X.K (rIx X.K) ixD:=by
 intro x y dx dy d H G Q h s rx ry q
 unfold ixD at h
 split at h
 ·rename_i c i
  obtain⟨l,h1,h2⟩:=qa h
  rw[Ct]at ry
  subst ry
  rcases Ycr h1 with rfl | rfl | ⟨ns,rfl,rfl⟩
  ·rw[Ct]at rx
   obtain⟨p,xs,rfl,g,rl⟩:=rx
   obtain⟨v,h3,h4⟩:=Yp4 rl h2
   exact .inr (.inl ⟨p,xs,i,v,rfl,rfl,.inl (.inl g.1),h3,q v H G (.refl s) h4⟩)
  ·rw[Ct]at rx
   obtain⟨p,xs,rfl,g,rl⟩:=rx
   obtain⟨v,h3,h4⟩:=Yp4 rl h2
   exact .inl ⟨p,xs,i,v,rfl,rfl,.inl g,h3,q v H G (.refl s) h4⟩
  ·rw[Ct]at rx
   obtain⟨p,rfl,g⟩:=rx
   obtain⟨v,h3,h4⟩:=Yp4 (G:=G) (K:=X.K) (.ints ns) h2
   exact .inl ⟨p,_,i,v,rfl,rfl,g,h3,q v H G (.refl s) h4⟩
 ·cases h
theorem Ywa(ha:MC X a fa)(hb:MC X b fb)(hs:Ygy b:=by intro _ _;rfl):ME X (.Subscript a b pos) (b2 fa fb ixD):=Yyt Yyj Yy8 ha hb hs
def intD:D->Option Int
 | .int i=>some i
 | _=>none
def optI(f:Option (Ro->Option D)):Ro->Option (Option Int):=fun ρ=>match f with
 | none=>some none
 | some f=>(b1 f intD ρ).map some
def cutD(l:List D)(lo hi:Option Int):List D:=(l.drop (HT.sIx l.length 0 lo)).take (HT.sIx l.length l.length hi - HT.sIx l.length 0 lo)
def lstD:D->Option (List D)
 | .lst l=>some l
 | .scr ns=>some (ns.map D.int)
 | _=>none
theorem Yp5{d:D}{l:List D}{v:V}{G H:Hp}(h:lstD d=some l)(r:Ct K G H d v):∃p xs,v=.ref p/\SqL K H p xs/\RpL K G l xs:=by
 cases d with
 | lst m=>
   cases h
   rw[Ct]at r
   obtain⟨p,xs,e,g,q⟩:=r
   exact⟨p,xs,e,.inl g,q⟩
 | scr ns=>
   cases h
   rw[Ct]at r
   obtain⟨p,e,g⟩:=r
   exact⟨p,_,e,g,.ints ns⟩
 | non=>cases h
 | bl _=>cases h
 | int _=>cases h
 | str _=>cases h
 | tup _=>cases h
 | dct _ _ _=>cases h
 | obj _ _ _=>cases h
 | adr _=>cases h
abbrev tO(K:W.Frag)(f:Option (Ro->Option D)):TO:=match f with
 | none=>Ypu
 | some f=>Yyh (tCof K f)
theorem Yy9{H0 G0 H G:Hp}{σ:L2.St}{ρ:Ro}{f:Option (Ro->Option D)}{i:Option Int}{Q:Option Int->Hp->Prop}(e:optI f ρ=some i)(s:SR K H0 G0 σ H G ρ)(h:∀H' G',Gr H G H' G'->SR K H0 G0 σ H' G' ρ->Q i H'):tO K f σ H Q:=by
 cases f with
 | none=>
   cases e
   exact h H G (.refl s.seen) s
 | some f=>
   obtain⟨k,h1,rfl⟩:=qc e
   obtain⟨d,h2,h3⟩:=Ya3 h1
   refine tCof.at h2 s fun v H1 G1 g1 r1 s1=>⟨k,?_,h H1 G1 g1 s1⟩
   cases d<;>simp[intD]at h3
   subst h3
   rw[Ct]at r1
   exact r1
theorem y1k:PO X none (tO X.K none):=Ypv
theorem y1l(h:MC X e f):PO X (some e) (tO X.K (some f)):=Ypw h
def lF(f:Ro->Option (List D)):Ro->Option D:=fun ρ=>(f ρ).map D.lst
theorem MF.me{g:Ro->Option (List D)}(h:MF X e g):ME X e (lF g):=PE.imp h fun σ H Q hx_=>by
 obtain⟨ρ,d,H0,G0,G,e,s,h⟩:=hx_
 obtain⟨l,h1,rfl⟩:=qc e
 exact⟨ρ,l,H0,G0,G,h1,s,fun p xs H' G' g hp gp e' r=>h _ H' _ (g.show hp gp e') (by
  rw[Rp]
  refine⟨p,xs,rfl,.inl Ym,r.mono fun b o q=>?_⟩
  rw[Yk (Yv q gp)];exact q)⟩
def aNil:Ro->Option (List D):=fun _=>some []
def Yj(f:Ro->Option D)(g:Ro->Option (List D)):Ro->Option (List D):=fun ρ=>(f ρ).bind fun d=>(g ρ).map (d::·)
theorem Yu1:MA X [] aNil:=PA.imp Yek fun σ H Q hx_=>by
 obtain⟨ρ,l,H0,G0,G,e,s,h⟩:=hx_
 cases e
 exact h [] H G (.refl s.seen) .nil
theorem Ymx(ha:ME X e f)(hr:MA X es ga)(hs:starEach (e::es) X.env=(false,eval e X.env)::starEach es X.env:=by rfl):MA X (e::es) (Yj f ga):=PA.imp (Ybw ha hr hs) fun σ H Q hx_=>by
 obtain⟨ρ,l,H0,G0,G,e,s,h⟩:=hx_
 unfold Yj at e
 obtain⟨d,h1,e⟩:=qa e
 obtain⟨l',h2,rfl⟩:=qc e
 exact tOf.at h1 s fun v H1 G1 g1 r1 s1=>tAof.at h2 s1 fun vs H2 G2 g2 r2 _=>h (v::vs) H2 G2 (g1.trans g2) (.cons (r1.mono g2.g) r2)
theorem Yp6:MCA X [] aNil:=PA.imp Yek fun σ H Q hx_=>by
 obtain⟨ρ,l,H0,G0,G,e,s,h⟩:=hx_
 cases e
 exact h [] H G (.refl s.seen) rfl
theorem Yn3(ha:MC X e f)(hr:MCA X es ga)(hs:starEach (e::es) X.env=(false,eval e X.env)::starEach es X.env:=by rfl):MCA X (e::es) (Yj f ga):=PA.imp (Ybw ha hr hs) fun σ H Q hx_=>by
 obtain⟨ρ,l,H0,G0,G,e,s,h⟩:=hx_
 unfold Yj at e
 obtain⟨d,h1,e⟩:=qa e
 obtain⟨l',h2,rfl⟩:=qc e
 exact tCof.at h1 s fun v H1 G1 g1 r1 s1=>tCAof.at h2 s1 fun vs H2 G2 g2 r2 _=>h (v::vs) H2 G2 (g1.trans g2) ⟨v,vs,rfl,r1.grow g2,r2⟩
def cap6:Nat:=1000000
theorem Ycy{n:Nat}(h:n<=cap6):n<=sizeLine:=qx h (by rw[sizeLine_eq];decide)
def dTup(ga:Ro->Option (List D)):Ro->Option D:=fun ρ=>(ga ρ).bind fun l=>if l.length<=cap6 then some (.tup l)else none
theorem Yza{x1}(h:MA X es ga):ME X (.Tuple es x1 pos) (dTup ga):=PE.imp (Yuu h) fun σ H Q hx_=>by
 obtain⟨ρ,d,H0,G0,G,e,s,h⟩:=hx_
 unfold dTup at e
 obtain⟨l,h1,e⟩:=qa e
 split at e
 ·cases e
  refine tAof.at h1 s fun vs H1 G1 g1 r1 s1=>⟨by rw[r1.length];exact Ycy (by assumption),fun p hp=>?_⟩
  refine h _ _ _ (g1.trans (.new s1.seen hp (.tup vs))) ?_
  rw[Rp]
  exact⟨p,vs,rfl,Ym,r1.mono (Gr.new s1.seen hp (.tup vs)).g⟩
 ·cases e
def dLst(ga:Ro->Option (List D)):Ro->Option (List D):=fun ρ=>(ga ρ).bind fun l=>if l.length<=cap6 then some l else none
theorem Yzb(h:MA X es ga):MF X (.List es pos) (dLst ga):=PE.imp (Yyf h) fun σ H Q hx_=>by
 obtain⟨ρ,d,H0,G0,G,e,s,h⟩:=hx_
 unfold dLst at e
 obtain⟨l,h1,e⟩:=qa e
 split at e
 ·cases e
  refine tAof.at h1 s fun vs H1 G1 g1 r1 s1=>⟨by rw[r1.length];exact Ycy (by assumption),fun p hp=>?_⟩
  exact h p vs _ G1 (g1.trans (.hid s1.seen hp (.lst vs))) (g1.h.free hp) (s1.seen.free hp) Ym r1
 ·cases e
def cC(ga:Ro->Option (List D))(g:List D->Option D):Ro->Option D:=fun ρ=>(ga ρ).bind g
def cF(ga:Ro->Option (List D))(g:List D->Option (List D)):Ro->Option (List D):=fun ρ=>(ga ρ).bind g
theorem Yu2{r:List V->Hp->VK->Prop}{g:List D->Option D}(hr:SemC K r g){σ:L2.St}{H:Hp}{Q:VK}(h:tOf K (cC ga g) σ H Q):tCB r (tCAof K ga) σ H Q:=by
 obtain⟨ρ,d,H0,G0,G,e,s,h⟩:=h
 unfold cC at e
 obtain⟨l,h1,h2⟩:=qa e
 exact tCAof.at h1 s fun vs H1 G1 g1 r1 s1=>hr vs l d H1 G1 Q h2 s1.seen r1 fun v H' G' g2 r2=>h v H' G' (g1.trans g2) r2
section
variable {x:Str} {p:Pos} {id T:String} {r:List V->Hp->VK->Prop} {g:List D->Option D} {gf:List D->Option (List D)}
theorem Ys2(hc:Yf7 X (.builtin id) r)(hr:SemC X.K r g)(hg:Gl X x)(hm:X.mg x=none)(hv:bootBuiltins x=some (.builtin id))(ha:MCA X (e::es) ga)(hn:x≠"__name__":=by decide)(hdb:(x==("__debug__":Str))=false:=by decide)
 (he:starEach (e::es) X.env=(false,eval e X.env)::starEach es X.env:=by rfl) (hpl:(backTo pos (starEach es X.env)).any (·.1)=false:=by rfl):ME X (.Call (.Name x p) (e::es) [] pos) (cC ga g):=
 PE.imp (Ynx hc hg hm hv ha hn hdb he hpl) fun _ _ _ h=>Yu2 hr h
theorem Yp7(hc:Yf7 X (.type T) r)(hr:SemC X.K r g)(hg:Gl X x)(hm:X.mg x=none)(hv:bootBuiltins x=some (.type T))(ha:MCA X (e::es) ga)(hn:x≠"__name__":=by decide)(hdb:(x==("__debug__":Str))=false:=by decide)
 (he:starEach (e::es) X.env=(false,eval e X.env)::starEach es X.env:=by rfl) (hpl:(backTo pos (starEach es X.env)).any (·.1)=false:=by rfl):ME X (.Call (.Name x p) (e::es) [] pos) (cC ga g):=
 PE.imp (Ylj hc hg hm hv ha hn hdb he hpl) fun _ _ _ h=>Yu2 hr h
end
def spOf(K:W.Frag)(n:Nat)(fn:List D->Option D):Sp:=fun vs H Q _=>vs.length=n/\∃ds d G,Same G H/\RpL K G ds vs/\fn ds=some d/\∀v H' G',Gr H G H' G'->Rp K G' d v->Q v H'
theorem Ywb{k n:Nat}{fa':Addr}{fd':FuncData}{ps:List Str}{x:Str}{p:Pos}{fn:List D->Option D}(F:FnOk X.prog X.w X.K X.mg X.base CX0 k fa' fd' ps (spOf X.K n fn))(hr:Room k X.A)(hg:Gl X x)(hm:X.mg x=some (.ref fa'))(hk:W.keepIn X.K (.ref fa')=true)(hb:Binds X.K fd' ps [])
 (ha:MA X (e::es) ga) (hdb:(x==("__debug__":Str))=false:=by decide) (he:starEach (e::es) X.env=(false,eval e X.env)::starEach es X.env:=by rfl) (hpl:(backTo pos (starEach es X.env)).any (·.1)=false:=by rfl)
 (hl:∀ρ l,ga ρ=some l->l.length=n):ME X (.Call (.Name x p) (e::es) [] pos) (cC ga fn):=
 PE.imp (Yj9 (E:=E0) F hr hg hm hk hb .nil Yo2 ha hdb he hpl) fun σ H Q hx_=>by
  obtain⟨ρ,d,H0,G0,G,e,s,h⟩:=hx_
  unfold cC at e
  obtain⟨l,h1,h2⟩:=qa e
  refine tAof.at h1 s fun vs H1 G1 g1 r1 s1=>?_
  rw[List.append_nil]
  exact⟨by rw[r1.length];exact hl ρ l h1,l,d,G1,s1.seen,r1,h2,fun v H' G' g2 r2=>h v H' G' (g1.trans g2) r2⟩
theorem Ys3{ρ:Ro}{l:List D}(h:aNil ρ=some l):l.length=0:=by cases h;rfl
theorem Ylm{f:Ro->Option D}{g:Ro->Option (List D)}{n:Nat}(hg:∀ρ l,g ρ=some l->l.length=n):∀ρ l,Yj f g ρ=some l->l.length=n+1:=fun ρ l h=>by
 unfold Yj at h
 obtain⟨d,h1,e⟩:=qa h
 obtain⟨l',h2,rfl⟩:=qc e
 rw[qs,hg ρ l' h2]
def lenC:List D->Option D
 | [c]=>(Ybd c).map fun l=>.int l.length
 | _=>none
theorem Yzc{G H:Hp}{c:D}{l:List D}{v:V}(h:Ybd c=some l)(r:Ct K G H c v):∃p xs,v=.ref p/\(SqL K H p xs\/SqT K H p xs)/\RpL K G l xs:=by
 rcases Ycr h with rfl | rfl | ⟨ns,rfl,rfl⟩
 ·rw[Ct]at r
  obtain⟨p,xs,rfl,g,rl⟩:=r
  exact⟨p,xs,rfl,.inr (.inl (.inl g.1)),rl⟩
 ·rw[Ct]at r
  obtain⟨p,xs,rfl,g,rl⟩:=r
  exact⟨p,xs,rfl,.inl (.inl g),rl⟩
 ·rw[Ct]at r
  obtain⟨p,rfl,g⟩:=r
  exact⟨p,_,rfl,.inl g,.ints ns⟩
theorem Yig{G:Hp}{d:D}{vs:List V}(h:RpL K G [d] vs):∃v,vs=[v]/\Rp K G d v:=by
 rw[RpL]at h
 obtain⟨x,r,rfl,h1,h2⟩:=h
 rw[RpL]at h2
 subst h2
 exact⟨x,rfl,h1⟩
theorem Ydb{G H:Hp}{d:D}{vs:List V}(h:CtL K G H [d] vs):∃v,vs=[v]/\Ct K G H d v:=by
 obtain⟨x,r,rfl,h1,h2⟩:=h
 cases (show r=[] from h2)
 exact⟨x,rfl,h1⟩
theorem Ydc:SemC X.K (fun xs H Q=>∃p ys,xs=[.ref p]/\(SqL X.K H p ys\/SqT X.K H p ys)/\Q (.int ys.length) H) lenC:=by
 intro vs ds d H G Q h s r q
 match ds,h,r with
 | [c],h,r=>
   obtain⟨l,h1,rfl⟩:=qc h
   obtain⟨v,rfl,rv⟩:=Ydb r
   obtain⟨p,xs,rfl,h2,rl⟩:=Yzc (K:=X.K) h1 rv
   exact⟨p,xs,rfl,h2,q _ H G (.refl s) (by rw[Rp,rl.length])⟩
def tupC:List D->Option D
 | [c]=>(Ybd c).map D.tup
 | _=>none
theorem Ymy:SemC X.K (fun xs H Q=>∃p ys,xs=[.ref p]/\((SqL X.K H p ys/\∀l,H l=none->Q (.ref l) (upd H l (.tup ys)))\/(SqT X.K H p ys/\Q (.ref p) H))) tupC:=by
 intro vs ds d H G Q h s r q
 match ds,h,r with
 | [c],h,r=>
   obtain⟨l,h1,rfl⟩:=qc h
   obtain⟨v,rfl,rv⟩:=Ydb r
   rcases Ycr h1 with rfl | rfl | ⟨ns,rfl,rfl⟩
   ·rw[Ct]at rv
    obtain⟨p,xs,rfl,g,rl⟩:=rv
    exact⟨p,xs,rfl,.inr ⟨.inl (.inl g.1),q _ H G (.refl s) (by rw[Rp];exact⟨p,xs,rfl,g.2,rl⟩)⟩⟩
   ·rw[Ct]at rv
    obtain⟨p,xs,rfl,g,rl⟩:=rv
    refine⟨p,xs,rfl,.inl ⟨.inl g,fun m hm=>q _ _ _ (.new s hm (.tup xs)) ?_⟩⟩
    rw[Rp]
    exact⟨m,xs,rfl,Ym,rl.mono (Gr.new s hm (.tup xs)).g⟩
   ·rw[Ct]at rv
    obtain⟨p,rfl,g⟩:=rv
    refine⟨p,_,rfl,.inl ⟨g,fun m hm=>q _ _ _ (.new s hm (.tup _)) ?_⟩⟩
    rw[Rp]
    exact⟨m,_,rfl,Ym,.ints ns⟩
def intC:List D->Option D
 | [.int i]=>some (.int i)
 | [.bl k]=>some (.int (if k then 1 else 0))
 | _=>none
theorem Ymz:SemC X.K (fun xs H Q=>(∃i,xs=[.int i]/\Q (.int i) H)\/∃k,xs=[.bl k]/\Q (.int (if k then 1 else 0)) H) intC:=by
 intro vs ds d H G Q h s r q
 match ds,h,r with
 | [.int i],h,r=>
   cases h
   obtain⟨v,rfl,rv⟩:=Ydb r
   rw[Ct]at rv
   subst rv
   exact .inl ⟨i,rfl,q _ H G (.refl s) (by rw[Rp])⟩
 | [.bl k],h,r=>
   cases h
   obtain⟨v,rfl,rv⟩:=Ydb r
   rw[Ct]at rv
   subst rv
   exact .inr ⟨k,rfl,q _ H G (.refl s) (by rw[Rp])⟩
end
end
section
variable {K:W.Frag}
section
variable {X:Cx} {e:Expr} {f:Ro->Option D} {gl:Ro->Option (List D)} {pos pos':Pos} {st:Stmt} {sts:List Stmt} {fs gs:Ro->Option Out}
def sNil:Ro->Option Out:=fun ρ=>some (.nx ρ)
def sSeq(f g:Ro->Option Out):Ro->Option Out:=fun ρ=>(f ρ).bind fun
 | .nx ρ'=>g ρ'
 | o=>some o
theorem Yzd:MB X [] sNil:=PSs.imp Ypi fun F σ H hx_=>by
 obtain⟨ρ,out,H0,G0,G,e,s,h⟩:=hx_
 cases e
 exact h σ H G s
theorem Ywc(h1:MS X st fs)(h2:MB X sts gs):MB X (st::sts) (sSeq fs gs):=PSs.imp (Yf6 h1 h2) fun F σ H hx_=>by
 obtain⟨ρ,out,H0,G0,G,e,s,h⟩:=hx_
 unfold sSeq at e
 obtain⟨o,h3,e⟩:=qa e
 cases o with
 | nx ρ'=>exact⟨ρ,.nx ρ',H0,G0,G,h3,s,fun σ' H' G' s'=>⟨ρ',out,H0,G0,G',e,s',h⟩⟩
 | rt d=>cases e;exact⟨ρ,.rt d,H0,G0,G,h3,s,h⟩
 | bk ρ'=>cases e;exact⟨ρ,.bk ρ',H0,G0,G,h3,s,h⟩
 | ct ρ'=>cases e;exact⟨ρ,.ct ρ',H0,G0,G,h3,s,h⟩
theorem Yze(h1:MS X st fs):MB X [st] fs:=Ymm h1
def frz1(i:Nat)(ρ:Ro):Ro:=match ρ[i]? with
 | some (some (B.ow l))=>ρ.set i (some (.sh (.lst l)))
 | some (some (B.od t ks vs))=>ρ.set i (some (.sh (.dct t ks vs)))
 | _=>ρ
theorem SR.frz1{H0 G0 H G:Hp}{σ:L2.St}{ρ:Ro}(s:SR K H0 G0 σ H G ρ)(i:Nat):∃G',SR K H0 G0 σ H G' (M.frz1 i ρ):=by
 unfold M.frz1
 split
 ·rename_i l hl
  exact s.freeze hl
 ·rename_i t ks vs hl
  exact s.freezed hl
 ·exact⟨G,s⟩
def frz(is:List Nat)(ρ:Ro):Ro:=is.foldl (fun r i=>frz1 i r) ρ
theorem SR.frz{H0 G0 H:Hp}{σ:L2.St}:∀(is:List Nat) {G:Hp} {ρ:Ro},SR K H0 G0 σ H G ρ->∃G',SR K H0 G0 σ H G' (M.frz is ρ)
 | [],G,_,s=>⟨G,s⟩
 | i::is,_,ρ,s=>by
   obtain⟨G',s'⟩:=s.frz1 i
   exact SR.frz is s'
def wF(is:List Nat)(f:Ro->Option Out):Ro->Option Out:=fun ρ=>f (frz is ρ)
theorem Yzf(is:List Nat)(h:MS X st fs):MS X st (wF is fs):=PS.imp h fun F σ H hx_=>by
 obtain⟨ρ,out,H0,G0,G,e,s,h⟩:=hx_
 obtain⟨G',s'⟩:=SR.frz is s
 exact⟨frz is ρ,out,H0,G0,G',e,s',h⟩
def sSet(i:Nat)(f:Ro->Option D):Ro->Option Out:=fun ρ=>(f ρ).map fun d=>.nx (ρ.set i (some (.sh d)))
def sOwn(i:Nat)(f:Ro->Option (List D)):Ro->Option Out:=fun ρ=>(f ρ).map fun l=>.nx (ρ.set i (some (.ow l)))
theorem Yzg{i:Nat}{F:Ends}{σ:L2.St}{H:Hp}(h:sOf K (sSet i f) F σ H):tAsg (tOf K f) (Ysl i) F σ H:=by
 obtain⟨ρ,out,H0,G0,G,e,s,h⟩:=h
 obtain⟨d,h1,rfl⟩:=qc e
 exact tOf.at h1 s fun v H1 G1 g1 r1 s1=>h _ H1 G1 (s1.set_sh i r1)
theorem Yzh{i:Nat}{F:Ends}{σ:L2.St}{H:Hp}(h:sOf K (sOwn i gl) F σ H):tAsg (tFof K gl) (Ysl i) F σ H:=by
 obtain⟨ρ,out,H0,G0,G,e,s,h⟩:=h
 obtain⟨l,h1,rfl⟩:=qc e
 exact⟨ρ,l,H0,G0,G,h1,s,fun p xs H' G' g hp gp e' r=>h _ H' G' (s.set_ow i g hp gp e' r)⟩
theorem Yzi(i:Nat){x:Str}(hN:X.N.Nodup)(he:ME X e f)(hi:X.N[i]?=some x:=by rfl)(hx:Loc X.env.scope x:=by first | exact Or.inl rfl | exact Or.inr rfl)(hs:swapsWith e (some (.Name x pos')) pos.line X.env=pure false:=by rfl)
 (hf:X.fn x=true\/X.env.scope.names.lookup x=some .local:=by first | exact .inl rfl | exact .inr rfl):MS X (.Assign [.Name x pos'] e pos) (sSet i f):=PS.imp (Yld hN hi hx he hs hf) fun _ _ _ h=>Yzg h
theorem Yzj(i:Nat){x:Str}(hN:X.N.Nodup)(he:MF X e gl)(hi:X.N[i]?=some x:=by rfl)(hx:Loc X.env.scope x:=by first | exact Or.inl rfl | exact Or.inr rfl)(hs:swapsWith e (some (.Name x pos')) pos.line X.env=pure false:=by rfl)
 (hf:X.fn x=true\/X.env.scope.names.lookup x=some .local:=by first | exact .inl rfl | exact .inr rfl):MS X (.Assign [.Name x pos'] e pos) (sOwn i gl):=PS.imp (Yld hN hi hx he hs hf) fun _ _ _ h=>Yzh h
def sRet(f:Ro->Option D):Ro->Option Out:=fun ρ=>(f ρ).map .rt
theorem Yzk(he:ME X e f):MS X (.Return (some e) pos) (sRet f):=PS.imp (Ypj he) fun F σ H hx_=>by
 obtain⟨ρ,out,H0,G0,G,e,s,h⟩:=hx_
 obtain⟨d,h1,rfl⟩:=qc e
 exact tOf.at h1 s fun v H1 G1 g1 r1 s1=>h v H1 G1 s1.gr r1
def sIf(c:Ro->Option Bool)(f g:Ro->Option Out):Ro->Option Out:=fun ρ=>(c ρ).bind fun k=>if k=true then f ρ else g ρ
theorem y1m{c:Expr}{a b:List Stmt}{fc:Ro->Option Bool}(hc:MT X c fc)(ha:MB X a fs)(hb:MB X b gs):MS X (.If c a b pos) (sIf fc fs gs):=PS.imp (Yvo hc ha hb) fun F σ H hx_=>by
 obtain⟨ρ,out,H0,G0,G,e,s,h⟩:=hx_
 unfold sIf at e
 obtain⟨k,h1,e⟩:=qa e
 refine tTof.at h1 s fun H1 G1 g1 s1=>?_
 cases k with
 | true=>
   rw[if_pos rfl]at e ⊢
   exact⟨ρ,out,H0,G0,G1,e,s1,h⟩
 | false=>
   rw[if_neg qi]at e ⊢
   exact⟨ρ,out,H0,G0,G1,e,s1,h⟩
def sMut(i:Nat)(f:Ro->Option D)(g:List D->D->Option (List D)):Ro->Option Out:=fun ρ=>(getO i ρ).bind fun l=>(f ρ).bind fun d=>(g l d).map fun l'=>.nx (ρ.set i (some (.ow l')))
theorem Yn4{H0 G0 H G:Hp}{σ:L2.St}{ρ:Ro}{i:Nat}{l:List D}(s:SR K H0 G0 σ H G ρ)(h:getO i ρ=some l):∃a xs,σ[i]?=some (some (V.ref a))/\H a=some (.lst xs)/\RpL K G l xs/\G a=none:=by
 obtain⟨a,xs,h1,h2,h3,h4,h5⟩:=s.ow i l (Yga h)
 exact⟨a,xs,h1,h4,h5,h2⟩
def appD(l:List D)(d:D):Option (List D):=if l.length < cap6 then some (l++[d])else none
theorem Yp8(i:Nat){x:Str}{p2 apos cpos:Pos}(he:ME X e f)(hN:X.N[i]?=some x:=by rfl)(hv:Vis X.env.scope x:=by first | exact Or.inl rfl | exact Or.inr (Or.inl rfl) | exact Or.inr (Or.inr rfl))
 (hd:(x==("__debug__":Str))=false:=by decide) (hcd:(x==("__classdict__":Str))=false:=by decide) (hse:swapsWith (.Call (.Attribute (.Name x p2) "append" apos) [e] [] cpos) none pos.line X.env=pure false:=by rfl)
 (hs:starEach [e] X.env=[(false,eval e X.env)]:=by rfl)
 (hfew:((backTo cpos (starEach [e] X.env)).all (fun x=>!x.1)&&(backToKw cpos (keywordEach [] X.env)).all (fun x=>x.1.isSome)&&decide ([e].length+([]:List Keyword).length+(if ([]:List Keyword).isEmpty then 0 else 1) < 30))=true:=by rfl)
 (hline:(apos.endLine==cpos.line)=true:=by rfl) (hbase:attributeBase (.Name x p2) "append" X.env (eval (.Name x p2) X.env)=eval (.Name x p2) X.env:=by rfl) :
 MS X (.Expr (.Call (.Attribute (.Name x p2) "append" apos) [e] [] cpos) pos) (sMut i f appD):=
 PS.imp (Ymn (Ypx PySem.F.plainAttrs_list PySem.F.slot_list_append PySem.F.type_list_append Yh8 (Yej hN hv hd hcd) (Ybw he Yek hs) hbase hfew hline hs rfl) hse) fun F σ H hx_=>by
  obtain⟨ρ,out,H0,G0,G,e,s,h⟩:=hx_
  unfold sMut at e
  obtain⟨l,h1,e⟩:=qa e
  obtain⟨d,h2,e⟩:=qa e
  obtain⟨l',h3,rfl⟩:=qc e
  unfold appD at h3
  split at h3
  ·rename_i hl
   cases h3
   obtain⟨a,xs,ha,hH,hr,hG⟩:=Yn4 s h1
   refine⟨_,ha,.inl ⟨rfl,xs,SqL.of hH⟩,tOf.at h2 s fun v H1 G1 g1 r1 s1=>?_⟩
   refine⟨a,xs,v,rfl,rfl,g1.h _ _ hH,?_,h σ _ G1 (s1.mut (Yga h1) ha ((hr.mono g1.g).append (.one r1)))⟩
   rw[hr.length]
   exact Qe hl (Ycy (qu _))
  ·cases h3
theorem Yo4{J:It}{G':Hp}{ds:List D}(hz:ds.length<=sizeLine)(h:∀(i:Nat) H2 G2,Same G' G2->Same G2 H2->(∀d,ds[i]?=some d->J.go i H2/\∀y H3,J.yld i H2 y H3->H3=H2/\Rp K G2 d y)/\(ds.length<=i->J.stop i H2)):Wk K J G' ds:=
 ⟨hz,fun i H2 G2 s1 s2=>⟨fun d hd=>⟨((h i H2 G2 s1 s2).1 d hd).1,fun y H3 q=>by
  obtain⟨rfl,r⟩:=((h i H2 G2 s1 s2).1 d hd).2 y H3 q
  exact⟨G2,.refl s2,r⟩⟩,(h i H2 G2 s1 s2).2⟩⟩
variable {tg:Expr}
def iSeq(K:W.Frag)(tl:TE):TI:=fun σ H R=>tl σ H fun x H1=>∃a xs,x=.ref a/\((SqL K H1 a xs/\(xs.length<=sizeLine->R (Itl K a) H1))\/(SqT K H1 a xs/\(xs.length<=sizeLine->R (Itt K a) H1)))
theorem Yzl{l:Expr}{tl:TE}(hl:PE X l tl):PI X tg l (iSeq X.K tl):=by
 intro pins s σ H R I h
 refine thn (hl pins s σ H _ I h) fun v s1 hx_=>?_
 obtain⟨x,H1,I1,r1,q1⟩:=hx_
 obtain⟨a,xs,e,q1⟩:=q1
 subst e
 cases r1
 rcases q1 with⟨hq,q⟩ | ⟨hq,q⟩
 ·obtain⟨its,rv,p,hz⟩:=I1.list hq
  refine wpAny_pyIter_list p.isList ?_
  refine⟨s1.heap.objs.size,[s1.heap.objs.size],_,_,H1,rfl,I1.kept (t':=s1.toks) fun b o e=>qe _ e,Ypk a _,⟨_,qp _ rfl,rfl,rfl⟩,fun b hb=>?_,q hz⟩
  have e:b=s1.heap.objs.size:=by simpa using hb
  subst e
  exact I1.fpOk (qu _) (I1.hok.fresh (qu _))
 ·obtain⟨its,rv,p,hz⟩:=I1.tuple hq
  refine wpAny_pyIter_tuple (show s1.heap.IsTuple a its.toArray from p) ?_
  refine⟨s1.heap.objs.size,[s1.heap.objs.size],_,_,H1,rfl,I1.kept (t':=s1.toks) fun b o e=>qe _ e,Yjs a _,⟨_,qp _ rfl,rfl,rfl⟩,fun b hb=>?_,q hz⟩
  have e:b=s1.heap.objs.size:=by simpa using hb
  subst e
  exact I1.fpOk (qu _) (I1.hok.fresh (qu _))
theorem Yzm{l:Expr}(hl:ME X l f):MI X tg l (b1 f Ybd):=PI.imp (Yzl hl) fun σ H R hx_=>by
 obtain⟨ρ,ds,H0,G0,G,e,s,h⟩:=hx_
 obtain⟨c,h1,h2⟩:=Ya3 e
 refine tOf.at h1 s fun v H1 G1 g1 r1 s1=>?_
 rcases Ycr h2 with rfl | rfl | ⟨ns,rfl,rfl⟩
 ·rw[Rp]at r1
  obtain⟨p,xs,rfl,g,rl⟩:=r1
  refine⟨p,xs,rfl,.inr ⟨.inl (.inl (s1.seen _ _ g)),fun hz=>h _ H1 G1 g1 (Yo4 (by rw[<-rl.length];exact hz) fun i H2 G2 e1 e2=>⟨fun d hd=>?_,fun hi=>⟨xs,.inl (.inl (e2 _ _ (e1 _ _ g))),by rw[rl.length];exact hi⟩⟩)⟩⟩
  obtain⟨x,hx,rx⟩:=rl.get hd
  refine⟨⟨xs,x,.inl (.inl (e2 _ _ (e1 _ _ g))),hx⟩,fun y H3 q=>⟨q.1,?_⟩⟩
  have:=q.2 xs (.inl (.inl (e2 _ _ (e1 _ _ g))))
  rw[hx]at this
  cases this
  exact rx.mono e1
 ·rw[Rp]at r1
  obtain⟨p,xs,rfl,g,rl⟩:=r1
  refine⟨p,xs,rfl,.inl ⟨.inl (Ycx s1.seen g),fun hz=>h _ H1 G1 g1 (Yo4 (by rw[<-rl.length];exact hz) fun i H2 G2 e1 e2=>⟨fun d hd=>?_,fun hi=>⟨xs,.inl (Ycx e2 (Ycx e1 g)),by rw[rl.length];exact hi⟩⟩)⟩⟩
  obtain⟨x,hx,rx⟩:=rl.get hd
  refine⟨⟨xs,x,.inl (Ycx e2 (Ycx e1 g)),hx⟩,fun y H3 q=>⟨q.1,?_⟩⟩
  have:=q.2 xs (.inl (Ycx e2 (Ycx e1 g)))
  rw[hx]at this
  cases this
  exact rx.mono e1
 ·rw[Rp]at r1
  obtain⟨p,rfl,g⟩:=r1
  have rl:RpL X.K G1 (ns.map D.int) (ns.map V.int):=.ints ns
  refine⟨p,_,rfl,.inl ⟨s1.seen.seq g,fun hz=>h _ H1 G1 g1 (Yo4 (by rw[<-rl.length];exact hz) fun i H2 G2 e1 e2=>⟨fun d hd=>?_,fun hi=>⟨_,e2.seq (e1.seq g),by rw[rl.length];exact hi⟩⟩)⟩⟩
  obtain⟨x,hx,rx⟩:=rl.get hd
  refine⟨⟨_,x,e2.seq (e1.seq g),hx⟩,fun y H3 q=>⟨q.1,?_⟩⟩
  have:=q.2 _ (e2.seq (e1.seq g))
  rw[hx]at this
  cases this
  exact rx.mono e1
def rngD(a n:Int):List D:=(List.range (n - a).toNat).map fun i=>.int (a+(i:Nat))
theorem Yih(a n:Int):(rngD a n).length=(n - a).toNat:=by simp[rngD]
theorem Yp9{a n:Int}{G':Hp}(hz:(n - a).toNat<=sizeLine):Wk K (Itr a (n - a).toNat) G' (rngD a n):=
 Yo4 (by rw[Yih];exact hz) fun i H2 G2 _ _=>⟨fun d hd=>by
  unfold rngD at hd
  rw[qz]at hd
  obtain⟨j,h1,rfl⟩:=qc hd
  have hj:i < (n - a).toNat:=by
   have:=(qo h1).1
   simpa using this
  rw[List.getElem?_range hj]at h1
  cases h1
  exact⟨hj,fun y H3 q=>⟨q.1,by rw[Rp];exact q.2⟩⟩,fun hi=>by rw[Yih]at hi;exact hi⟩
def rng1:List D->Option (List D)
 | [.int n]=>if decide (-(cap6:Int)<=n)&&decide (n<=cap6)then some (rngD 0 n)else none
 | _=>none
theorem Yii{l ds:List D}(h:rng1 l=some ds):∃n:Int,l=[.int n]/\-1000000<=n/\n<=1000000/\ds=rngD 0 n:=by
 unfold rng1 at h
 split at h
 ·rename_i n
  split at h
  ·rename_i hc
   cases h
   simp only[Qg,decide_eq_true_eq]at hc
   have hcap:(cap6:Int)=1000000:=by decide
   exact⟨n,rfl,by lia,by lia,rfl⟩
  ·cases h
 ·cases h
theorem Yqa{a:Expr}{ga:Ro->Option (List D)}{p:Pos}(hg:Gl X "range")(hm:X.mg "range"=none)(ha:MA X [a] ga)(hs:starEach [a] X.env=[(false,eval a X.env)]:=by rfl):MI X tg (.Call (.Name "range" p) [a] [] pos) (cF ga rng1):=
 PI.imp (Yh1 hg hm ha hs) fun σ H R hx_=>by
  obtain⟨ρ,ds,H0,G0,G,e,s,h⟩:=hx_
  unfold cF at e
  obtain⟨l,h1,h2⟩:=qa e
  refine tAof.at h1 s fun vs H1 G1 g1 r1 s1=>?_
  obtain⟨n,rfl,c1,c2,rfl⟩:=Yii h2
  obtain⟨v,rfl,rv⟩:=Yig r1
  rw[Rp]at rv
  subst rv
  refine⟨n,rfl,by lia,by lia,?_⟩
  have:=h (Itr 0 (n - 0).toNat) H1 G1 g1 (Yp9 (Ycy (by unfold cap6;lia)))
  simpa using this
def gSet(i:Nat):D->Ro->Option Ro:=fun d ρ=>some (ρ.set i (some (.sh d)))
theorem Ywd(i:Nat){x:Str}(hN:X.N.Nodup)(hi:X.N[i]?=some x:=by rfl)(hx:Loc X.env.scope x:=by first | exact Or.inl rfl | exact Or.inr rfl)(hf:X.fn x=true\/X.env.scope.names.lookup x=some .local:=by first | exact .inl rfl | exact .inr rfl):MG X (.Name x pos) (gSet i):=
 PG.imp (Ymo hN hi hx hf) fun v σ H Q hx_=>by
  obtain⟨d,ρ,ρ',H0,G0,G,e,s,r,h⟩:=hx_
  cases e
  exact h _ (s.set_sh i r)
def Ys4(i j:Nat):D->Ro->Option Ro:=fun d ρ=>match d with
 | .tup [a,b]=>some ((ρ.set i (some (.sh a))).set j (some (.sh b)))
 | _=>none
theorem Ywe(i j:Nat){x y:Str}{px py:Pos}{k:Nat}(hc:X.calm=true)(hN:X.N.Nodup)(hi:X.N[i]?=some x:=by rfl)(hj:X.N[j]?=some y:=by rfl)(hx:Loc X.env.scope x:=by first | exact Or.inl rfl | exact Or.inr rfl)(hy:Loc X.env.scope y:=by first | exact Or.inl rfl | exact Or.inr rfl)
 (hf:X.fn x=true\/X.env.scope.names.lookup x=some .local:=by first | exact .inl rfl | exact .inr rfl) (hf2:X.fn y=true\/X.env.scope.names.lookup y=some .local:=by first | exact .inl rfl | exact .inr rfl):MG X (.Tuple [.Name x px,.Name y py] k pos) (Ys4 i j):=
 PG.imp (Yx6 (n:=2) hc (Ynv (Ymo hN hi hx hf) (Ynv (Ymo hN hj hy hf2) Yvp))) fun v σ H Q hx_=>by
  obtain⟨d,ρ,ρ',H0,G0,G,e,s,r,h⟩:=hx_
  match d,e,r with
  | .tup [a,b],e,r=>
    cases e
    rw[Rp]at r
    obtain⟨p,xs,rfl,g,rl⟩:=r
    rw[RpL]at rl
    obtain⟨u,us,rfl,ru,rl⟩:=rl
    obtain⟨w,rfl,rw'⟩:=Yig rl
    exact⟨p,[u,w],rfl,.inl (.inl (s.seen _ _ g)),rfl,u,[w],rfl,w,[],rfl,rfl,h _ ((s.set_sh i ru).set_sh j rw')⟩
def forM(gt:D->Ro->Option Ro)(fb:Ro->Option Out):List D->Ro->Option Out
 | [],ρ=>some (.nx ρ)
 | d::ds,ρ=>(gt d ρ).bind fun ρ1=>(fb ρ1).bind fun
   | .nx ρ2=>forM gt fb ds ρ2
   | .ct ρ2=>forM gt fb ds ρ2
   | .bk ρ2=>some (.nx ρ2)
   | .rt d=>some (.rt d)
def sFor(gl:Ro->Option (List D))(gt:D->Ro->Option Ro)(fb:Ro->Option Out):Ro->Option Out:=fun ρ=>(gl ρ).bind fun ds=>forM gt fb ds ρ
theorem Yfj{gt:D->Ro->Option Ro}{fb:Ro->Option Out}:∀(ds:List D) (ρ:Ro) (out:Out),forM gt fb ds ρ=some out->(∃ρ',out=.nx ρ')\/∃d,out=.rt d
 | [],ρ,out,h=>by cases h;exact .inl ⟨_,rfl⟩
 | d::ds,ρ,out,h=>by
   rw[forM]at h
   obtain⟨ρ1,h1,h⟩:=qa h
   obtain⟨o,h2,h⟩:=qa h
   cases o with
   | nx ρ2=>exact Yfj ds ρ2 out h
   | ct ρ2=>exact Yfj ds ρ2 out h
   | bk ρ2=>cases h;exact .inl ⟨_,rfl⟩
   | rt d=>cases h;exact .inr ⟨_,rfl⟩
theorem Yzn{iter:Expr}{body:List Stmt}{gt:D->Ro->Option Ro}(hp:PassesOwn (model X.prog X.w) X.A X.env X.xe)(hc:X.calm=true)(hi:MI X tg iter gl)(hg:MG X tg gt)(hb:MB X body fs)
 (hs:∀x,foldedSetIterable iter X.env x=pure x:=by intro _;rfl):MS X (.For tg iter body [] pos) (sFor gl gt fs):=
 PS.imp (Ypm hp hc hi hg hb hs) fun F σ H hx_=>by
  obtain⟨ρ,out,H0,G0,G,e,s,h⟩:=hx_
  unfold sFor at e
  obtain⟨ds,h1,h2⟩:=qa e
  refine⟨ρ,ds,H0,G0,G,h1,s,fun J H1 G1 g1 wk=>?_⟩
  obtain⟨Hb,sb,back⟩:=(s.grow g1).rebase
  have hout:=Yfj ds ρ out h2
  refine⟨fun i m σ' H'=>m=ds.length - i/\i<=ds.length/\∃ρ' G',SR X.K Hb G1 σ' H' G' ρ'/\forM gt fs (ds.drop i) ρ'=some out,⟨_,rfl,Nat.zero_le _,ρ,G1,sb,h2⟩,?_⟩
  rintro i m σ' H' ⟨rfl,hi,ρ',G',s',e'⟩
  have W:=wk.2 i H' G' s'.gr.g s'.seen
  by_cases hlt:i < ds.length
  ·have hd:ds[i]?=some ds[i]:=qr hlt
   obtain⟨go,yl⟩:=W.1 _ hd
   rw[List.drop_eq_getElem_cons hlt,forM]at e'
   obtain⟨ρ1,e1,e'⟩:=qa e'
   obtain⟨o,e2,e'⟩:=qa e'
   refine .inr ⟨go,fun σ' H'=>i+1<=ds.length/\∃ρ' G',SR X.K Hb G1 σ' H' G' ρ'/\forM gt fs (ds.drop (i+1)) ρ'=some out,fun σ2 H2 q=>⟨ds.length - (i+1),by lia,rfl,q.1,q.2⟩,fun x H2 y=>?_⟩
   obtain⟨G2,g2,r2⟩:=yl x H2 y
   refine⟨_,ρ',ρ1,Hb,G1,G2,e1,s'.grow g2,r2,fun σ3 s3=>?_⟩
   refine⟨ρ1,o,Hb,G1,G2,e2,s3,?_⟩
   cases o with
   | nx ρ2=>exact fun σ4 H4 G4 s4=>⟨hlt,ρ2,G4,s4,e'⟩
   | ct ρ2=>exact fun σ4 H4 G4 s4=>⟨hlt,ρ2,G4,s4,e'⟩
   | bk ρ2=>
     cases e'
     exact fun σ4 H4 G4 s4=>h σ4 H4 G4 (back _ _ _ _ s4)
   | rt d=>
     cases e'
     refine fun v H4 G4 g4 r4=>h v H4 G4 ?_ r4
     have:=(back [] H4 G4 [] (SR.mkSh g4 rfl (fun i d e=>(by simp at e)) (fun i l e=>(by simp at e)) (fun i t ks vs e=>(by simp at e)))).gr
     exact this
  ·have ei:i=ds.length:=by lia
   subst ei
   rw[List.drop_length,forM]at e'
   cases e'
   exact .inl ⟨W.2 (qu _),h σ' H' G' (back _ _ _ _ s')⟩
def capR(src:List (Option Nat))(ρ:Ro):Ro:=src.map fun o=>o.bind fun j=>match ρ[j]? with
 | some (some (B.sh d))=>some (.sh d)
 | _=>none
theorem SR.cap{H0 G0 H G:Hp}{σ:L2.St}{ρ:Ro}(s:SR K H0 G0 σ H G ρ)(src:List (Option Nat)):SR K H G (capσ src σ) H G (capR src ρ):=by
 have noow:∀(i:Nat) l,(capR src ρ)[i]?≠some (some (B.ow l)):=fun i l h=>by
  unfold capR at h
  rw[qz]at h
  obtain⟨o,h1,h2⟩:=qc h
  obtain⟨j,rfl,h3⟩:=qa h2
  split at h3<;>cases h3
 have nood:∀(i:Nat) t ks vs,(capR src ρ)[i]?≠some (some (B.od t ks vs)):=fun i t ks vs h=>by
  unfold capR at h
  rw[qz]at h
  obtain⟨o,h1,h2⟩:=qc h
  obtain⟨j,rfl,h3⟩:=qa h2
  split at h3<;>cases h3
 refine SR.mkSh (.refl s.seen) (by simp[capσ,capR]) (fun i d h=>?_) noow nood
 unfold capR at h
 rw[qz]at h
 obtain⟨o,h1,h2⟩:=qc h
 obtain⟨j,rfl,h3⟩:=qa h2
 split at h3
 ·rename_i d' hd
  cases h3
  obtain⟨v,q1,q2⟩:=s.sh j _ hd
  refine⟨v,?_,q2⟩
  unfold capσ
  rw[qz,h1]
  show some ((σ[j]?).join)=some (some v)
  rw[q1]
  rfl
 ·cases h3
def Yjg(gt:D->Ro->Option Ro)(fc:Ro->Option Bool)(fe:Ro->Option D)(ρ:Ro):List D->Option (List D)
 | []=>some []
 | d::ds=>(gt d ρ).bind fun ρ1=>(fc ρ1).bind fun k=>if k=true then (fe ρ1).bind fun v=>(Yjg gt fc fe ρ ds).map (v::·)else Yjg gt fc fe ρ ds
def Yjh(gl:Ro->Option (List D))(src:List (Option Nat))(gt:D->Ro->Option Ro)(fc:Ro->Option Bool)(fe:Ro->Option D):Ro->Option (List D):=fun ρ=>(gl ρ).bind fun ds=>Yjg gt fc fe (capR src ρ) ds
def tY:Ro->Option Bool:=fun _=>some true
theorem Ywf{σ:L2.St}{H:Hp}{Q:Bool->Hp->Prop}(h:tTof K tY σ H Q):tYes σ H Q:=by
 obtain⟨ρ,k,H0,G0,G,e,s,h⟩:=h
 cases e
 exact h H G (.refl s.seen)
theorem Yqb:PIfs X [] (tTof X.K tY):=fun pins s σ H Q I h=>Yv3 pins s σ H Q I (Ywf h)
theorem Yfk{src:List (Option Nat)}{i:Nat}(h:src[i]?=some none):∀ρ d ρ1,gSet i d (capR src ρ)=some ρ1->Le (capR src ρ) ρ1:=fun ρ d ρ1 e=>by
 cases e
 refine⟨by simp,fun j b hb=>?_⟩
 by_cases hj:j=i
 ·subst hj
  unfold capR at hb
  rw[qz,h]at hb
  cases hb
 ·rw[Qa (Ne.symm hj)];exact hb
theorem Ywg{src:List (Option Nat)}{gt:D->Ro->Option Ro}{fc:Ro->Option Bool}{fe:Ro->Option D}(hle:∀ρ d ρ1,gt d (capR src ρ)=some ρ1->Le (capR src ρ) ρ1){σ:L2.St}{H:Hp}{Q:VK}
 (h:tFof K (Yjh gl src gt fc fe) σ H Q):tLC (tIof K gl) src (gOf K gt) (tTof K fc) (tOf K fe) σ H Q:=by
 obtain⟨ρ,l,H0,G0,G,e,s,h⟩:=h
 unfold Yjh at e
 obtain⟨ds,h1,h2⟩:=qa e
 refine⟨ρ,ds,H0,G0,G,h1,s,fun J H1 G1 g1 wk p hp=>?_⟩
 have s1:=s.grow g1
 have sc:=s1.cap src
 have gp:G1 p=none:=s1.seen.free hp
 refine⟨fun i m σ' H'=>m=ds.length - i/\i<=ds.length/\∃G' done xs rest,SR K H1 G1 σ' H' G' (capR src ρ)/\H' p=some (.lst xs)/\G' p=none/\RpL K G' done xs/\xs.length<=i/\Yjg gt fc fe (capR src ρ) (ds.drop i)=some rest/\done++rest=l,
  ⟨_,rfl,Nat.zero_le _,G1,[],[],l,sc.grow (Gr.hid s1.seen hp _),Ym,gp,.nil,Nat.zero_le _,h2,rfl⟩,?_⟩
 rintro i m σ' H' ⟨rfl,hi,G',done,xs,rest,s',hx,gx,rx,hl,e',hd⟩
 have W:=wk.2 i H' G' s'.gr.g s'.seen
 by_cases hlt:i < ds.length
 ·have hdi:ds[i]?=some ds[i]:=qr hlt
  obtain⟨go,yl⟩:=W.1 _ hdi
  rw[List.drop_eq_getElem_cons hlt,Yjg]at e'
  obtain⟨ρ1,e1,e'⟩:=qa e'
  obtain⟨k,e2,e'⟩:=qa e'
  refine .inr ⟨go,fun x H2 y=>?_⟩
  obtain⟨G2,g2,r2⟩:=yl x H2 y
  have keep:∀{Ha Ga Hb Gb:Hp},Gr Ha Ga Hb Gb->Ha p=some (.lst xs)->Ga p=none->Hb p=some (.lst xs)/\Gb p=none:=fun {Ha Ga Hb Gb} g e1 e2=>by
   refine⟨g.h _ _ e1,?_⟩
   cases q:Gb p with
   | none=>rfl
   | some o=>
     have:=g.n p e2 (by rw[q];exact fun z=>nomatch z)
     rw[e1]at this
     cases this
  obtain⟨hx2,gx2⟩:=keep g2 hx gx
  refine⟨_,capR src ρ,ρ1,H1,G1,G2,e1,s'.grow g2,r2,fun σ3 s3=>?_⟩
  refine tTof.at e2 s3 fun H4 G4 g4 s4=>?_
  obtain⟨hx4,gx4⟩:=keep g4 hx2 gx2
  have le:=hle ρ _ ρ1 e1
  cases k with
  | false=>
    rw[if_neg qi]at e' ⊢
    exact⟨ds.length - (i+1),by lia,rfl,hlt,G4,done,xs,rest,s4.le le,hx4,gx4,(rx.mono g2.g).mono g4.g,by lia,e',hd⟩
  | true=>
    rw[if_pos rfl]at e' ⊢
    obtain⟨v,e3,e'⟩:=qa e'
    obtain⟨rest',e4,rfl⟩:=qc e'
    refine tOf.at e3 s4 fun w H5 G5 g5 r5 s5=>?_
    obtain⟨hx5,gx5⟩:=keep g5 hx4 gx4
    have hz:=wk.1
    refine⟨xs,hx5,by lia,ds.length - (i+1),by lia,rfl,hlt,G5,done++[v],xs++[w],rest',?_,Ym,gx5,(((rx.mono g2.g).mono g4.g).mono g5.g).append (.one r5),by simp;lia,e4,by simpa using hd⟩
    have s6:=s5.le le
    have noow:∀(i:Nat) l,(capR src ρ)[i]?≠some (some (B.ow l)):=fun i l h=>by
     unfold capR at h
     rw[qz]at h
     obtain⟨o,h1,h2⟩:=qc h
     obtain⟨j,rfl,h3⟩:=qa h2
     split at h3<;>cases h3
    have nood:∀(i:Nat) t ks vs,(capR src ρ)[i]?≠some (some (B.od t ks vs)):=fun i t ks vs h=>by
     unfold capR at h
     rw[qz]at h
     obtain⟨o,h1,h2⟩:=qc h
     obtain⟨j,rfl,h3⟩:=qa h2
     split at h3<;>cases h3
    refine SR.mkSh ⟨fun b o q=>?_,s6.gr.g,fun b o q=>?_,s6.gr.n⟩ s6.len s6.sh noow nood
    ·rw[Yk (Yv q hp)];exact s6.gr.h b o q
    ·rw[Yk (Yv q gx5)];exact s6.gr.s b o q
 ·have ei:i=ds.length:=by lia
  subst ei
  rw[List.drop_length,Yjg]at e'
  cases e'
  rw[List.append_nil]at hd
  subst hd
  exact .inl ⟨W.2 (qu _),h p xs H' G' (g1.trans s'.gr) (g1.h.free hp) gx hx rx⟩
section
variable {elt iter:Expr} {ifs:List Expr} {scope:Scope} {N:List Str} {src:List (Option Nat)} {gt:D->Ro->Option Ro} {fc:Ro->Option Bool} {fe:Ro->Option D}
theorem Ywh(S:CompSc X.N X.env.scope N src scope)(hc:X.calm=true)(hit:MI X tg iter gl)(hg:∀cl C fp s H,MG (Ya5 X scope N cl C fp s H) tg gt)(hi:∀cl C fp s H,PIfs (Ya5 X scope N cl C fp s H) ifs (tTof X.K fc))(he:∀cl C fp s H,ME (Ya5 X scope N cl C fp s H) elt fe)
 (hle:∀ρ d ρ1,gt d (capR src ρ)=some ρ1->Le (capR src ρ) ρ1) (hs:∀x,foldedSetIterable iter X.env x=pure x:=by intro _;rfl):MF X (.ListComp elt [⟨tg,iter,ifs,0⟩] scope pos) (Yjh gl src gt fc fe):=
 PE.imp (Ymt S hc hit hg hi he hs) fun _ _ _ h=>Ywg hle h
end
def Yq(n:Nat)(ds:List D):Ro:=ds.map (fun d=>some (.sh d))++List.replicate (n - ds.length) none
def runB(k n:Nat)(fb:Ro->Option Out)(ds:List D):Option D:=if ds.length=k then (fb (Yq n ds)).bind fun
 | .rt d=>some d
 | .nx _=>some .non
 | _=>none
 else none
theorem SR.start{H G:Hp}{ds:List D}{vs:List V}{N:List Str}(s:Same G H)(r:RpL K G ds vs):SR K H G (start N vs) H G (Yq N.length ds):=by
 have hl:=r.length
 have noow:∀(i:Nat) l,(Yq N.length ds)[i]?≠some (some (B.ow l)):=fun i l h=>by
  unfold Yq at h
  rw[List.getElem?_append]at h
  split at h
  ·rw[qz]at h
   obtain⟨d,_,h2⟩:=qc h
   cases h2
  ·rw[List.getElem?_replicate]at h
   split at h<;>cases h
 have nood:∀(i:Nat) t ks vs,(Yq N.length ds)[i]?≠some (some (B.od t ks vs)):=fun i t ks vs h=>by
  unfold Yq at h
  rw[List.getElem?_append]at h
  split at h
  ·rw[qz]at h
   obtain⟨d,_,h2⟩:=qc h
   cases h2
  ·rw[List.getElem?_replicate]at h
   split at h<;>cases h
 refine SR.mkSh (.refl s) (by simp[L2.start,Yq,hl]) (fun i d h=>?_) noow nood
 unfold Yq at h
 rw[List.getElem?_append]at h
 split at h
 ·rename_i hi
  rw[qz]at h
  obtain⟨d',h1,h2⟩:=qc h
  cases h2
  obtain⟨v,h3,h4⟩:=r.get h1
  refine⟨v,?_,h4⟩
  unfold L2.start
  rw[List.getElem?_append_left (by rw[qf,hl];simpa using hi),qz,h3]
  rfl
 ·rw[List.getElem?_replicate]at h
  split at h<;>cases h
section
variable {P:Program} {w:World} {mg:Str->Option Value} {base:Heap}
theorem Yqc{x qual:Str}{st:Stmt}{f:Addr}{fd:FuncData}{N ps:List Str}{k n m:Nat}{fb:Ro->Option Out}(F:Fun K x qual st f fd)(S:FnScope N ps (defScope st))(hn:N.length=n)(hm:ps.length=m)
 (hb:∀(cdv:Value) (A:Around) (outer:List Env) (s:Shared) (H:Hp) (E:XK),Room k (A.deeper (envOfC qual (defScope st) s.heap.objs.size f cdv))->MB (cxOf CX0 P w K mg base N qual (defScope st) f cdv A outer s H E).nox (defBody st) fb) :
 FnOk P w K mg base CX0 (k+1) f fd ps (spOf K m (runB m n fb)):=by
 refine F.ok S (fun vs H Q E h=>by rw[h.1,hm]) fun cdv A outer s H vs Q E hr h=>?_
 obtain⟨hl,ds,d,G,sm,r,e,q⟩:=h
 refine⟨_,hb cdv A outer s H E hr,?_⟩
 unfold runB at e
 split at e
 ·rename_i hds
  obtain⟨o,h1,h2⟩:=qa e
  refine⟨Yq n ds,o,H,G,G,h1,by rw[<-hn];exact SR.start sm r,?_⟩
  cases o with
  | rt d'=>cases h2;exact fun v H' G' g r'=>q v H' G' g r'
  | nx ρ=>cases h2;exact fun σ' H' G' s'=>q .non H' G' s'.gr (by rw[Rp])
  | bk ρ=>cases h2
  | ct ρ=>cases h2
 ·cases e
end
end
end
section
variable {K:W.Frag}
def Okf(P:Program)(w:World)(K:W.Frag)(mg:Str->Option Value)(base:Heap)(k n:Nat)(x:Str)(ps:List Str)(fn:List D->Option D):Prop:=
 ∃a fd,FnOk P w K mg base CX0 k a fd ps (spOf K n fn)/\Binds K fd ps []/\W.keepIn K (.ref a)=true/\mg x=some (.ref a)
theorem Yzo{P:Program}{w:World}{K:W.Frag}{mg:Str->Option Value}{base:Heap}{k n:Nat}{x q:Str}{ps:List Str}{fn:List D->Option D}{st:Stmt}{a:Addr}{fd:FuncData}(F:Fun K x q st a fd)(b:Binds K fd ps [])
 (hm:mg x=some (.ref a)) (h:FnOk P w K mg base CX0 k a fd ps (spOf K n fn)):Okf P w K mg base k n x ps fn:=⟨a,fd,h,b,F.kp,hm⟩
section
variable {X:Cx} {a b e:Expr} {es:List Expr} {fa fb:Ro->Option D} {ga:Ro->Option (List D)} {pos:Pos}
theorem Ys5{j k n:Nat}{x:Str}{p:Pos}{ps:List Str}{fn:List D->Option D}(c:Okf X.prog X.w X.K X.mg X.base j n x ps fn)(hr:Room k X.A)(hg:Gl X x)(ha:MA X (e::es) ga)(hl:∀ρ l,ga ρ=some l->l.length=n)
 (hj:j<=k:=by first | exact qu _ | lia) (hdb:(x==("__debug__":Str))=false:=by decide) (he:starEach (e::es) X.env=(false,eval e X.env)::starEach es X.env:=by rfl) (hpl:(backTo pos (starEach es X.env)).any (·.1)=false:=by rfl) :
 ME X (.Call (.Name x p) (e::es) [] pos) (cC ga fn):=by
 obtain⟨a,fd,F,hb,hk,hm⟩:=c
 exact Ywb F (hr.mono hj) hg hm hk hb ha hdb he hpl hl
theorem Yzp(ha:MC X a fa)(hb:MC X b fb):ME X (.BinOp a .Add b pos) (b2 fa fb addI):=Yj0 Yuo Ymv ha hb
def catD:D->D->Option (List D)
 | .lst a,.lst b=>if a.length+b.length<=cap6 then some (a++b)else none
 | _,_=>none
def y1n:R2:=fun x y H Q=>∃l b xs zs,x=.ref l/\y=.ref b/\Rd H l (.lst xs)/\Rd H b (.lst zs)/\xs.length+zs.length<=sizeLine/\∀p,H p=none->Q (.ref p) (upd H p (.lst (xs++zs)))
theorem Ywi:OpR X (binaryOp .Add) y1n:=by
 intro pins s σ H x y v u Q I rx ry h
 obtain⟨l,b,xs,zs,rfl,rfl,hH,hB,hz,q⟩:=h
 cases rx
 cases ry
 obtain⟨z,its,n,r,e⟩:=hH.ok I.hok
 obtain⟨z2,its2,n2,r2,e2⟩:=hB.ok I.hok
 have hl:=r.length
 have hl2:=r2.length
 refine PySem.P.add_list e e2 ?_ (by rw[qk,qk];lia)
 have ea:its.toArray++its2.toArray=(its++its2).toArray:=by simp
 rw[ea]
 exact⟨.ref _,_,I.lnew (t':=s.toks) (r.append r2) (by rw[qw];lia),rfl,q _ I.fresh⟩
theorem Yzq(ha:MC X a fa)(hb:MC X b fb):MF X (.BinOp a .Add b pos) (b2 fa fb catD):=PE.imp (Yso Ywi ha hb) fun σ H Q hx_=>by
 obtain⟨ρ,l,H0,G0,G,e,s,h⟩:=hx_
 obtain⟨dx,dy,h1,h2,h3⟩:=Yic e
 refine tCof.at h1 s fun v H1 G1 g1 r1 s1=>tCof.at h2 s1 fun u H2 G2 g2 r2 s2=>?_
 unfold catD at h3
 split at h3
 ·rename_i l1 l2
  split at h3
  ·rename_i hz
   cases h3
   have r1':=r1.grow g2
   rw[Ct]at r1' r2
   obtain⟨p,xs,rfl,gp,rl⟩:=r1'
   obtain⟨q,zs,rfl,gq,rm⟩:=r2
   refine⟨p,q,xs,zs,rfl,rfl,gp,gq,by rw[rl.length,rm.length];exact Ycy hz,fun m hm=>?_⟩
   exact h m _ _ G2 ((g1.trans g2).trans (.hid s2.seen hm _)) (g1.h.free (g2.h.free hm)) (s2.seen.free hm) Ym (rl.append rm)
  ·cases h3
 ·cases h3
def Yc8:D->String
 | .non=>"NoneType"
 | .bl _=>"bool"
 | .int _=>"int"
 | .str _=>"str"
 | .tup _=>"tuple"
 | .lst _=>"list"
 | .scr _=>"list"
 | .dct _ _ _=>"dict"
 | .obj _ _ _=>"dict"
 | .adr _=>"dict"
def Yke:D->Bool
 | .scr _=>false
 | .dct t _ _=>!t
 | .obj _ _ _=>false
 | .adr _=>false
 | _=>true
def isiD(T:String)(d:D):Option Bool:=if Yke d=true then some (Yc8 d==T||(T=="int"&&Yc8 d=="bool"))else none
theorem Ywj{G H:Hp}{d:D}{v:V}(hn:Yke d=true)(r:Ct K G H d v):TyOf K H v (.type (Yc8 d)):=by
 cases d<;>rw[Ct]at r
 ·subst r;exact .non
 ·subst r;exact .bl _
 ·subst r;exact .int _
 ·obtain⟨rfl,_⟩:=r;exact .str _
 ·obtain⟨a,xs,rfl,g,_⟩:=r;exact .tup g.1
 ·obtain⟨a,xs,rfl,g,_⟩:=r
  rcases g with g | ⟨o,g⟩
  ·exact .lst g
  ·exact .frz g
 ·cases hn
 ·rename_i t _ _
  cases t with
  | true=>cases hn
  | false=>
    obtain⟨a,_,_,rfl,g,_⟩:=r
    rcases g with⟨_,_,g,_⟩ | ⟨g,_⟩
    ·exact .dK g
    ·cases g
 ·cases hn
 ·cases hn
def Kit(T:String):Prop:=∀(K:W.Frag) (d:D),W.kitOne K (.type (Yc8 d)) (.type T)=some (Yc8 d==T||(T=="int"&&Yc8 d=="bool"))
theorem Yqd:Kit "int":=fun K d=>by cases d<;>rfl
theorem Ygc:Kit "bool":=fun K d=>by cases d<;>rfl
theorem Yqe:Kit "str":=fun K d=>by cases d<;>rfl
theorem Yln:Kit "tuple":=fun K d=>by cases d<;>rfl
theorem Ys6{T:String}(hk:Kit T):Yf7 X (.builtin "isinstance") (fun xs H Q=>∃x d G,xs=[x,.ty T]/\Yke d=true/\Ct X.K G H d x/\Q (.bl (Yc8 d==T||(T=="int"&&Yc8 d=="bool"))) H):=by
 intro pins s σ H xs us Q I r h
 obtain⟨x,d,G,rfl,hn,rx,q⟩:=h
 obtain⟨u,w',rfl,r1,r2⟩:=Yyc r
 cases (show w'=Value.type T from r2)
 exact Ypr I r1 (Ywj hn rx) (hk X.K d) fun tk=>⟨.bl _,H,I.tok tk,rfl,q⟩
theorem Yzr{T:String}{tn:Str}{p p2:Pos}(ha:MC X a fa)(hg:Gl X "isinstance")(hg2:Gl X tn)(hm:X.mg "isinstance"=none)(hm2:X.mg tn=none)(hv2:bootBuiltins tn=some (.type T))(hk:Kit T)(hv:bootBuiltins "isinstance"=some (.builtin "isinstance"):=by decide +kernel)
 (hn2:tn≠"__name__":=by decide) (hd2:(tn==("__debug__":Str))=false:=by decide)
 (hs:starEach [a,.Name tn p2] X.env=(false,eval a X.env)::starEach [.Name tn p2] X.env:=by rfl) (hs2:starEach [.Name tn p2] X.env=(false,eval (.Name tn p2) X.env)::starEach [] X.env:=by rfl) (hpl:(backTo pos (starEach [.Name tn p2] X.env)).any (·.1)=false:=by rfl) :
 ME X (.Call (.Name "isinstance" p) [a,.Name tn p2] [] pos) (mB (b1 fa (isiD T))):=
 PE.imp (Ynx (Ys6 hk) hg hm hv (Ybw ha (Ybw (Yvm hg2 hm2 hv2 (v:=.ty T) rfl hn2 hd2) Yek hs2) hs) (by decide) (by decide) hs hpl) fun σ H Q hx_=>by
  obtain⟨ρ,d,H0,G0,G,e,s,h⟩:=hx_
  obtain⟨k,ek,rfl⟩:=Ymu e
  obtain⟨x,h1,h2⟩:=Ya3 ek
  unfold isiD at h2
  split at h2
  ·cases h2
   exact tCof.at h1 s fun v H1 G1 g1 r1 s1=>⟨v,x,G1,rfl,by assumption,r1,h _ H1 G1 g1 (by rw[Rp])⟩
  ·cases h2
end
end
section
variable {K:W.Frag}
def Yfl:List D->Option (List Int)
 | []=>some []
 | .int i::l=>(Yfl l).map (i::·)
 | _=>none
theorem Yj1:∀{l:List D} {ns:List Int},Yfl l=some ns->l=ns.map D.int
 | [],ns,h=>by cases h;rfl
 | .int i::l,ns,h=>by
   rw[Yfl]at h
   obtain⟨m,h1,rfl⟩:=qc h
   rw[Yj1 h1]
   rfl
 | .non::l,ns,h=>by simp[Yfl]at h
 | .bl _::l,ns,h=>by simp[Yfl]at h
 | .str _::l,ns,h=>by simp[Yfl]at h
 | .tup _::l,ns,h=>by simp[Yfl]at h
 | .lst _::l,ns,h=>by simp[Yfl]at h
 | .scr _::l,ns,h=>by simp[Yfl]at h
 | .dct _ _ _::l,ns,h=>by simp[Yfl]at h
 | .obj _ _ _::l,ns,h=>by simp[Yfl]at h
 | .adr _::l,ns,h=>by simp[Yfl]at h
theorem Yn5{G:Hp}:∀{ns:List Int} {xs:List V},RpL K G (ns.map D.int) xs->xs=ns.map V.int
 | [],xs,h=>by rw[List.map_nil,RpL]at h;exact h
 | n::ns,xs,h=>by
   rw[qy,RpL]at h
   obtain⟨x,r,rfl,h1,h2⟩:=h
   rw[Rp]at h1
   rw[h1,Yn5 h2]
   rfl
end
section
variable {K:W.Frag}
theorem Yn6{P:Program}{w:World}{mg:Str->Option Value}{base:Heap}{k n:Nat}{x q:Str}{ps:List Str}{st:Stmt}{a:Addr}{fd:FuncData}(F:Fun K x q st a fd)(b:Binds K fd ps [])(hm:mg x=some (.ref a))(hn:ps.length=n) :
 Okf P w K mg base k n x ps (fun _=>none):=by
 have no:∀vs H Q E,¬spOf K n (fun _=>none) vs H Q E:=fun vs H Q E h=>by
  obtain⟨_,ds,d,G,_,_,e,_⟩:=h
  cases e
 exact⟨a,fd,⟨fun vs H Q E h=>absurd h (no vs H Q E),fun A outer s H args us vs Q E _ _ _ _ h=>absurd h (no vs H Q E)⟩,b,F.kp,hm⟩
section
variable {X:Cx} {e:Expr} {f fb:Ro->Option D} {pos pos':Pos}
def blsD:List D->Option (List Bool)
 | []=>some []
 | .bl b::l=>(blsD l).map (b::·)
 | _=>none
theorem Ylo:∀{l:List D} {bs:List Bool},blsD l=some bs->l=bs.map D.bl
 | [],bs,h=>by cases h;rfl
 | .bl i::l,bs,h=>by
   rw[blsD]at h
   obtain⟨m,h1,rfl⟩:=qc h
   rw[Ylo h1]
   rfl
 | .non::l,ns,h=>by simp[blsD]at h
 | .int _::l,ns,h=>by simp[blsD]at h
 | .str _::l,ns,h=>by simp[blsD]at h
 | .tup _::l,ns,h=>by simp[blsD]at h
 | .lst _::l,ns,h=>by simp[blsD]at h
 | .scr _::l,ns,h=>by simp[blsD]at h
 | .dct _ _ _::l,ns,h=>by simp[blsD]at h
 | .obj _ _ _::l,ns,h=>by simp[blsD]at h
 | .adr _::l,ns,h=>by simp[blsD]at h
theorem Yqf{G:Hp}:∀{bs:List Bool} {xs:List V},RpL K G (bs.map D.bl) xs->xs=bs.map V.bl
 | [],xs,h=>by rw[List.map_nil,RpL]at h;exact h
 | n::ns,xs,h=>by
   rw[qy,RpL]at h
   obtain⟨x,r,rfl,h1,h2⟩:=h
   rw[Rp]at h1
   rw[h1,Yqf h2]
   rfl
theorem Yn7:∀{bs:List Bool} {us:List Value},Vals (bs.map V.bl) us->us=bs.map Value.bool
 | [],us,h=>by cases h;rfl
 | b::bs,us,h=>by
   cases h with
   | cons r t=>
     cases (show _=Value.bool b from r)
     rw[Yn7 t]
     rfl
theorem Yqg(bs:List Bool):((List.range bs.length).all fun i=>bs.getD i false)=bs.all id:=by
 induction bs with
 | nil=>rfl
 | cons b bs ih=>
   rw[qs,List.range_succ_eq_map,List.all_cons,List.all_map,List.all_cons]
   have:(List.range bs.length).all ((fun i=>(b::bs).getD i false) ∘ Nat.succ)=(List.range bs.length).all fun i=>bs.getD i false:=by
    congr 1
   rw[this,ih]
   rfl
def rBls(g:List Bool->V):List V->Hp->VK->Prop:=fun vs H Q=>∃(a:Addr) (bs:List Bool),vs=[.ref a]/\Rd H a (.lst (bs.map V.bl))/\Q (g bs) H
theorem Yqh(A:Around)(prog:Program)(w:World)(bs:List Bool):TruthOf prog w A (fun i v=>((bs.map Value.bool).toArray)[i]?=some v) (fun i=>bs.getD i false):=fun i v s Q E hP hQ=>by
 have hP':(bs.map Value.bool)[i]?=some v:=by simpa using hP
 rw[qz]at hP'
 obtain⟨b,h1,rfl⟩:=qc hP'
 refine wpAny_truthy_bool ?_
 have:bs.getD i false=b:=by simp[h1]
 rw[<-this]
 exact hQ
theorem Yqi{pins:List (Addr × Obj)}{s:Shared}{σ:L2.St}{H:Hp}{a:Addr}{its:List Value}{A:Around}{E:Value->Shared->Prop}{Q:Value->Shared->Prop}(hh:A.handled=none)(hl:s.heap.IsList a its.toArray)
 (h:∀s₂,s₂={ s with heap:=s.heap.push { cls:=.type "list_iterator",data:=.fields #[.ref a,.int 0 0] } }->Walks X.prog X.w A s.heap.objs.size [s.heap.objs.size,a] [s.heap.objs.size] its.toArray.size (fun i v=>its.toArray[i]?=some v) (fun i h=>h.IsListIter s.heap.objs.size a i/\h.IsList a its.toArray)->
  (s₂.heap.IsListIter s.heap.objs.size a 0/\s₂.heap.IsList a its.toArray)->Q (.ref s.heap.objs.size) s₂):wpAny (model X.prog X.w) A (pyIter (.ref a)) Q E s:=by
 have hne:a≠s.heap.objs.size:=by
  obtain⟨o,ho,_⟩:=hl
  exact qm (ql ho)
 refine wpAny_pyIter_list hl (h _ rfl (Walks.list hh _ a hne _) ⟨⟨_,qp _ rfl,rfl,rfl⟩,?_⟩)
 obtain⟨o,ho,r⟩:=hl
 exact⟨o,qe _ ho,r⟩
theorem Ylp{pins:List (Addr × Obj)}{s:Shared}{σ:L2.St}{H:Hp}{h':Heap}{tk:Nat}{o:Obj}(I:Inv X pins σ H s)(k:∀b u,b∉[s.heap.objs.size]->(s.heap.push o).get? b=some u->h'.get? b=some u):Inv X pins σ H { s with heap:=h',toks:=tk }:=
 I.kept fun b u q=>k b u (by
  intro z
  have e:b=s.heap.objs.size:=by simpa using z
  exact absurd (ql q) (by rw[e];exact Nat.lt_irrefl _)) (qe _ q)
theorem Ylq(hc:X.calm=true):Yf7 X (.builtin "all") (rBls fun bs=>.bl (bs.all id)):=by
 intro pins s σ H xs us Q I r h
 obtain⟨a,bs,rfl,hr,q⟩:=h
 obtain⟨u,rfl,ru⟩:=Yh2 r
 cases ru
 obtain⟨its,rv,pl,hz⟩:=I.list (.inl hr)
 cases Yn7 rv
 refine call_all_walk (Yqi (X:=X) (pins:=pins) (σ:=σ) (H:=H) (show X.A.in1.handled=none from I.ok.hd hc) pl.isList fun s₂ e W st=>?_)
 subst e
 refine⟨_,_,_,_,_,_,fun i=>bs.getD i false,rfl,W,st,Yqh _ _ _ bs,fun h' tk k=>⟨.bl _,H,(show Inv X pins σ H { s with heap:=h',toks:=tk } from Ylp I k),?_,q⟩⟩
 show Value.bool _=Value.bool _
 rw[qk,qf,Yqg]
def allC:List D->Option D
 | [.lst l]=>(blsD l).map fun bs=>.bl (bs.all id)
 | _=>none
theorem Ywk{g:List Bool->V}{gd:List Bool->D}{m:List D->Option D}(hm:∀ds d,m ds=some d->∃l bs,ds=[.lst l]/\blsD l=some bs/\d=gd bs)(hg:∀G bs,Rp K G (gd bs) (g bs)):SemC K (rBls g) m:=by
 intro vs ds d H G Q h s r q
 obtain⟨l,bs,rfl,h1,rfl⟩:=hm ds d h
 obtain⟨v,rfl,rv⟩:=Ydb r
 rw[Ct]at rv
 obtain⟨a,xs,rfl,g',rl⟩:=rv
 cases Ylo h1
 cases Yqf rl
 exact⟨a,bs,rfl,g',q _ H G (.refl s) (hg G bs)⟩
theorem Yqj:SemC K (rBls fun bs=>.bl (bs.all id)) allC:=Ywk (gd:=fun bs=>.bl (bs.all id)) (fun ds d h=>by
 unfold allC at h
 split at h
 ·obtain⟨bs,h1,rfl⟩:=qc h
  exact⟨_,bs,rfl,h1,rfl⟩
 ·cases h) fun G bs=>by rw[Rp]
end
end
section
variable {K:W.Frag}
section
variable {prog:Program} {w:World} {A:Around} {E:Value->Shared->Prop} {s:Shared}
theorem Yb8{it t:Addr}{i:Nat}{items:Array Value}{x:Value}{Q:Value->Shared->Prop}(hit:s.heap.IsTupleIter it t i)
 (ht:s.heap.IsTuple t items) (hx:items[i]?=some x)
 (hQ:∀h',h'.IsTupleIter it t (i+1)->Heap.SameBut it s.heap h'->Q x { s with heap:=h' }) :
 wpAny (model prog w) A (Builtin.SmallTypes.nextOf (.ref it)) Q E s:=by
 obtain⟨o,ho,hc,hd⟩:=id hit
 obtain⟨ol,hol,_,nl,hdl⟩:=ht
 unfold Builtin.SmallTypes.nextOf
 refine wpAny_bind (wpAny_callSpecial?_slot (name:=Str.ofString "__next__") hit.typeIs F.slot_tuple_iterator_next
  (wpAny_call_entry F.slot_tuple_iterator_next hit.typeIs F.entry_tuple_iterator_next ?_ (F.args_tuple_iterator_next_1 _)))
 show wpAny _ _ (field (.ref it) 0 >>= _) _ _ s
 refine wpAny_bind (wpAny_field ho hd (x:=.ref t) rfl ?_)
 show wpAny _ _ (if (Value.ref t==Value.none)=true then _ else _) _ _ s
 rw[if_neg (show ¬((Value.ref t==Value.none)=true) from qi)]
 show wpAny _ _ (field (.ref it) 1 >>= _) _ _ s
 refine wpAny_bind (wpAny_field ho hd (x:=.int i 0) rfl ?_)
 show wpAny _ _ (seqItems? (.ref t) >>= _) _ _ s
 refine wpAny_bind (wpAny_seqItems hol hdl ?_)
 simp only[Int.toNat_natCast,hx]
 refine wpAny_bind (wpAny_setField ho hd (by simp) (wpAny_pure ⟨x,rfl,wpAny_pure (hQ _ ?_ (Heap.SameBut.update ..))⟩))
 exact⟨_,Heap.get?_update_self _ ho (Obj.isFreed_of_fields (Obj.data_mapFields hd _)),(Obj.cls_mapFields ..).trans hc,by
  rw[Obj.data_mapFields hd];simp[rawInt]⟩
theorem Yd5{it l:Addr}{i:Nat}{items:Array Value}{Q:Value->Shared->Prop}(hh:A.handled=none)
 (hit:s.heap.IsTupleIter it l i) (hl:s.heap.IsTuple l items) (hx:items[i]?=none)
 (hE:∀h' e,Heap.ExtBut it s.heap h'->(∃o,h'.get? e=some o/\o.cls=.type "StopIteration")->E (.ref e) { s with heap:=h' }) :
 wpAny (model prog w) A (Builtin.SmallTypes.nextOf (.ref it)) Q E s:=by
 obtain⟨o,ho,hc,hd⟩:=id hit
 obtain⟨ol,hol,_,nl,hdl⟩:=hl
 unfold Builtin.SmallTypes.nextOf
 refine wpAny_bind (wpAny_callSpecial?_slot (name:=Str.ofString "__next__") hit.typeIs F.slot_tuple_iterator_next
  (wpAny_call_entry F.slot_tuple_iterator_next hit.typeIs F.entry_tuple_iterator_next ?_ (F.args_tuple_iterator_next_1 _)))
 show wpAny _ _ (field (.ref it) 0 >>= _) _ _ s
 refine wpAny_bind (wpAny_field ho hd (x:=.ref l) rfl ?_)
 show wpAny _ _ (if (Value.ref l==Value.none)=true then _ else _) _ _ s
 rw[if_neg (show ¬((Value.ref l==Value.none)=true) from qi)]
 show wpAny _ _ (field (.ref it) 1 >>= _) _ _ s
 refine wpAny_bind (wpAny_field ho hd (x:=.int i 0) rfl ?_)
 show wpAny _ _ (seqItems? (.ref l) >>= _) _ _ s
 refine wpAny_bind (wpAny_seqItems hol hdl ?_)
 simp only[Int.toNat_natCast,hx]
 refine wpAny_bind (wpAny_rule (wpAny_bind (wpAny_setField ho hd (by simp) ?_)))
 show wpAny _ _ (newExc (.type "StopIteration") [] >>= _) _ _ _
 refine wpAny_bind ?_
 simp only[newExc,newTuple]
 refine wpAny_bind (wpAny_newObj_type ?_ (by size_fits))
 refine wpAny_bind (m:=firstArgMember _ _) (wpAny_of_eq (a:=Value.none) (by first | rfl | (simp only[firstArgMember];rfl)) ?_)
 refine wpAny_newObj_type ?_ (by size_fits)
 simp only[raiseNew]
 refine wpAny_bind (wpAny_handled ?_)
 first | rw[show A.in1.handled=none from hh] | rw[hh]
 refine wpAny_bind (wpAny_pure (wpAny_throw ?_))
 exact hE _ _ (((Heap.SameBut.update ..).extBut.push _).push _) ⟨_,qp _ rfl,rfl⟩
end
theorem Ykf{X:Cx}{pins:List (Addr × Obj)}{σ:L2.St}{H:Hp}{s:Shared}{h':Heap}{t':Nat}{ch:List Addr}{T:Addr}{o:HO}(I:Inv X pins σ H s)(hf:∀b∈ch,FpOk X pins H b)
 (k:∀b u,b∉ch->s.heap.get? b=some u->h'.get? b=some u) (hT:s.heap.objs.size<=T) (new:ObjOk X.prog X.w (upd H T o) h' T o):Inv X pins σ (upd H T o) { s with heap:=h',toks:=t' }:=by
 have fr:H T=none:=I.hok.fresh hT
 have nch:∀b u,H b=some u->b∉ch:=fun b u e z=>by rw[(hf b z).1]at e;cases e
 refine I.step (g':=s.gens) (d':=s.drawn) (ch:=ch) (fun b hb=>?_) (fun b u _ _ hc e _=>k b u hc e) (fun b u _ _ hc e _=>⟨u.slots,k b u hc e⟩) (fun b u _ e n=>?_)
  (fun b u hc e=>⟨u,k b u hc e⟩) (fun b xs e=>?_) (fun b u xs e=>?_) (fun b ps e=>⟨#[],?_⟩) (fun m hm=>?_) (fun b u e=>?_) I.bare
 ·obtain⟨_,f1,_,f3,f4,f5⟩:=hf b hb
  exact⟨f3,f1,f4,f5⟩
 ·rw[Yk (qm (Qe (ql e) hT))];exact n
 ·rw[Yk (Yv e fr)];exact e
 ·rw[Yk (Yv e fr)];exact e
 ·rw[Yk (Yv e fr),e];simp
 ·obtain⟨ob,es,ep,ho,r⟩:=hm
  exact⟨ob,es,ep,k _ ob (fun z=>(hf _ z).2.1 rfl) ho,r⟩
 ·by_cases hb:b=T
  ·subst hb;rw[Ym]at e;cases e;exact new
  ·rw[Yk hb]at e
   refine(I.hok b u e).stay (fun c v hc q=>k c v ?_ q) (fun c q=>by rw[Yk (Yv q fr)];exact q) fun c xs q=>by rw[Yk (Yv q fr)];exact q
   rcases hc with z | z
   ·rw[z];exact nch b u e
   ·exact nch c _ z
end
section
variable {K:W.Frag}
end
section
open Sem (wp)
variable {K:W.Frag}
theorem Yqk:typeLookup (.type "list_reverseiterator") "__len__"=pure none:=by rw[typeLookup_type,builtinLookup_eq_fast];kernel_rfl
theorem Ys7:typeLookup (.type "list_reverseiterator") "__length_hint__"=pure (some (.builtin "list_reverseiterator.__length_hint__")):=by rw[typeLookup_type,builtinLookup_eq_fast];kernel_rfl
set_option maxRecDepth 100000 in
theorem Yo5{prog:Program}{w:World}{A:Around}{s:Shared}{R:Result->Shared->Prop}{I:Addr}{fp wr:List Addr}{G:Array GenState->Array GenState->Prop}{n:Nat}{P:Nat->Value->Prop}{St:Nat->Shared->Prop}
 (W:WalksS prog w A.in1 I fp wr G n P St) (hT:∀i s,St i s->s.TypeIs (.ref I) "list_reverseiterator") (S:Addr) (res:Value) (c₀:Nat) (hst:St 0 s) (hSf:S∉fp) (hI:I∈fp)
 (hS:s.heap.get? S=some { cls:=.type "list",data:=.seq #[] c₀ })
 (hR:∀s' acc' c',Moved (S::wr) G s s'->s'.heap.get? S=some { cls:=.type "list",dict:=none,data:=.seq acc' c',slots:=#[] }->ItemsOf P acc' n->R (.ok (.ret res)) s') (hn:n<=sizeLine) :
 wpAny (model prog w) A.in1 (Builtin.List.listExtendWith (.ref S) (.ref I) res)
  (fun fin s'=>match fin with | .done f=>R (.ok f) s' | .again c'=>c'.quiet=true/\codeAny (model prog w) A c' R s') (fun e s'=>R (.error e) s') s:=by
 have hSI:S≠I:=fun e=>hSf (e ▸ hI)
 have h1:Builtin.List.listSameRef (.ref S) (.ref I)=false:=by simp[Builtin.List.listSameRef,hSI]
 unfold Builtin.List.listExtendWith
 refine wpAny_bind (wpAny_typeOf (hT 0 _ hst) ?_)
 rw[if_neg (by rw[h1];decide)]
 refine wpAny_bind (W.self 0 _ _ _ hst ?_)
 refine wpAny_bind (wpAny_holding ?_)
 unfold Builtin.List.listLengthHint
 refine wpAny_bind (wpAny_specialOf (hT 0 _ hst) Yqk ?_)
 show wpAny _ A.in1 (specialOf (Value.ref I) (Str.ofString "__length_hint__") >>= _) _ _ _
 refine wpAny_bind (wpAny_specialOf (hT 0 _ hst) Ys7 ?_)
 (generalize hid:("list_reverseiterator.__length_hint__":String)=id0;(fail_if_success (clear hid id0));wp_delta;rw[show splitId id0=some ("list_reverseiterator","__length_hint__") from by subst hid;decide +kernel];subst hid)
 refine wpAny_bind (wpAny_isInstance (b:=true) (hT 0 _ hst) (by rw[isSubtype_type];kernel_rfl) ?_)
 refine wpAny_pure ?_
 rw[if_neg (by decide)]
 exact wpAny_pure ⟨plainId_quiet F.plain_extend_loop _,codeAny_extend_loopS W hn _ hSf _ n 0 _ _ _ rfl (Nat.zero_le _) hst hS (ItemsOf.nil P) hR⟩
theorem Ykg{prog:Program}{w:World}{A:Around}{s:Shared}{R:Result->Shared->Prop}{I:Addr}{fp wr:List Addr}{G:Array GenState->Array GenState->Prop}{n:Nat}{P:Nat->Value->Prop}{St:Nat->Shared->Prop}
 (W:WalksS prog w A.in1 I fp wr G n P St) (hT:∀i s,St i s->s.TypeIs (.ref I) "list_reverseiterator") (S:Addr) (hst:St 0 s) (hSf:S∉fp) (hI:I∈fp)
 (hS:s.heap.get? S=some { cls:=.type "list",data:=.seq #[] })
 (hR:∀s' acc' c',Moved (S::wr) G s s'->s'.heap.get? S=some { cls:=.type "list",dict:=none,data:=.seq acc' c',slots:=#[] }->ItemsOf P acc' n->R (.ok (.ret .none)) s') (hn:n<=sizeLine) :
 wpAny (model prog w) A.in1 (Builtin.«list.__init__» ⟨[.ref S,.ref I],[]⟩)
  (fun fin s'=>match fin with | .done f=>R (.ok f) s' | .again c'=>c'.quiet=true/\codeAny (model prog w) A c' R s') (fun e s'=>R (.error e) s') s:=by
 show wpAny _ A.in1 (do let old <-Builtin.List.listItems (.ref S);Builtin.List.listUpdate (.ref S) (fun _=>#[]);letGo old.toList.reverse;Builtin.List.listExtendWith (.ref S) (.ref I) .none) _ _ s
 refine wpAny_bind ?_
 unfold Builtin.List.listItems
 refine wpAny_bind (wpAny_seqItems hS rfl (wpAny_pure ?_))
 show wpAny _ A.in1 (updateSeq S (fun _=>#[]) >>= fun _=>letGo (#[]:Array Value).toList.reverse >>= fun _=>Builtin.List.listExtendWith (.ref S) (.ref I) .none) _ _ s
 refine wpAny_bind (wpAny_updateSeq hS rfl ?_)
 have hS₂:=Heap.get?_update_self (Obj.mapSeq (fun _=>(#[]:Array Value))) hS rfl
 have oth:∀b o,b≠S->s.heap.get? b=some o->(s.heap.update S (Obj.mapSeq (fun _=>(#[]:Array Value)))).get? b=some o:=
  fun b o hb e=>(Heap.get?_update_other _ _ (Ne.symm hb)).trans e
 refine wpAny_bind (wpAny_letGo ?_)
 refine Yo5 (hn:=hn) W hT S .none _ (W.frame 0 s _ s.toks hst (qu _) fun b hb o e=>oth b o (fun h=>hSf (h ▸ hb)) e) hSf hI hS₂ fun s' acc' c' hm hS' hacc=>?_
 exact hR s' acc' c' (Moved.trans W.gtrans ((Moved.refl W.grefl).then_heap (qu _) fun b o hb e=>oth b o (fun h=>hb (h ▸ qh)) e) hm) hS' hacc
section
variable {prog:Program} {w:World} {A:Around} {E:Value->Shared->Prop} {s:Shared} {I:Addr} {fp wr:List Addr} {G:Array GenState->Array GenState->Prop} {n:Nat} {P:Nat->Value->Prop} {St:Nat->Shared->Prop}
theorem Yij{Q:Value->Shared->Prop}(W:WalksS prog w A.in1.in1 I fp wr G n P St)(hT:∀i s,St i s->s.TypeIs (.ref I) "list_reverseiterator")(hst:St 0 s)(hfp:∀b∈fp,b < s.heap.objs.size)(hI:I∈fp)
 (hQ:∀s' acc' c',Moved (s.heap.objs.size::wr) G { s with heap:=s.heap.push { cls:=.type "list",data:=.seq #[] } } s'->
  s'.heap.get? s.heap.objs.size=some { cls:=.type "list",dict:=none,data:=.seq acc' c',slots:=#[] }->ItemsOf P acc' n->Q (.ref s.heap.objs.size) s') (hn:n<=sizeLine) :
 wpAny (model prog w) A (call (.type "list") [.ref I]) Q E s:=by
 have hSf:s.heap.objs.size∉fp:=fun hm=>Nat.lt_irrefl _ (hfp _ hm)
 refine callType_codes (Q₁:=fun obj s₁=>obj=.ref s.heap.objs.size/\s₁={ s with heap:=s.heap.push { cls:=.type "list",data:=.seq #[] } }) F.called_list (F.typeCall_list_1 _) F.entry_list_init
  (code_list_new _ ⟨rfl,rfl⟩) fun obj s₁ h₁=>?_
 obtain⟨rfl,rfl⟩:=h₁
 have hS:(s.heap.push { cls:=.type "list",data:=.seq #[] }).get? s.heap.objs.size=some { cls:=.type "list",data:=.seq #[] }:=qp _ rfl
 refine⟨⟨_,hS,rfl⟩,F.args_list_init_2 _ _,Ykg (hn:=hn) W hT _ (W.frame 0 s _ s.toks hst (qu _) fun b _ o e=>qe _ e) hSf hI hS fun s' acc' c' hm hS' hacc=>?_⟩
 exact⟨rfl,hQ s' acc' c' hm hS' hacc⟩
end
theorem Yql{items acc:Array Value}(h:ItemsOf (fun i v=>items[items.size - 1 - i]?=some v) acc items.size):acc.toList=items.toList.reverse:=by
 obtain⟨h1,h2⟩:=h
 apply List.ext_getElem?
 intro i
 by_cases hi:i < items.size
 ·have hi2:i < acc.size:=by rw[h1];exact hi
  have e:=h2 i acc[i] (Array.getElem?_eq_getElem hi2)
  rw[List.getElem?_reverse (by simpa using hi)]
  rw[Array.getElem?_toList,Array.getElem?_toList,Array.getElem?_eq_getElem hi2,<-e]
  simp
 ·rw[List.getElem?_eq_none (by simp;lia),List.getElem?_eq_none (by simp;lia)]
theorem Yhe:∀{xs:List V} {us:List Value},Vals xs us->Vals xs.reverse us.reverse
 | _,_,.nil=>.nil
 | _,_,.cons r t=>by
   rw[List.reverse_cons,List.reverse_cons]
   exact(Yhe t).append (.cons r .nil)
section
variable {X:Cx} {e:Expr} {ta:TA} {p p2 pos pos2:Pos}
theorem Ys8{pins:List (Addr × Obj)}{σ:L2.St}{H:Hp}{s:Shared}{Q:Value->Shared->Prop}{q:List V->Hp->Prop}(I:Inv X pins σ H s)(hg2:Gl X "reversed")(hm2:X.mg "reversed"=none)(ha:PA X [e] ta)(h:ta σ H q)
 (hs:starEach [e] X.env=[(false,eval e X.env)])
 (k:∀vs H1 s1,Inv X pins σ H1 s1->q vs H1->∃a xs its,vs=[.ref a]/\SqL X.K H1 a xs/\Vals xs its/\s1.heap.IsList a its.toArray/\Q (.ref s1.heap.objs.size) { s1 with heap:=s1.heap.push (revObj a ((its.toArray.size:Int) - 1)) }) :
 wpAny (model X.prog X.w) X.A (eval (.Call (.Name "reversed" p2) [e] [] pos2) X.env) Q X.xe s:=by
 refine Call_ (Yh0 I hg2 hm2 boot_reversed (PyProof.Rows.callWith_type1 (thn (ha pos2 pins s σ H _ I h) fun us s1 hx_=>?_) hs rfl))
 obtain⟨vs,H1,I1,r1,q1⟩:=hx_
 obtain⟨a,xs,its,rfl,hq,rv,pl,z⟩:=k vs H1 s1 I1 q1
 obtain⟨u,rfl,ru⟩:=Yh2 r1
 cases ru
 exact call_reversed_list pl z
def y1o(K:W.Frag)(ta:TA):TE:=fun σ H Q=>ta σ H fun vs H1=>∃a xs,vs=[.ref a]/\SqL K H1 a xs/\∀l,H1 l=none->Q (.ref l) (upd H1 l (.lst xs.reverse))
theorem Yo6(hc:X.calm=true)(hg:Gl X "list")(hm:X.mg "list"=none)(hg2:Gl X "reversed")(hm2:X.mg "reversed"=none)(ha:PA X [e] ta)(hs:starEach [e] X.env=[(false,eval e X.env)]:=by rfl)
 (he:starEach [.Call (.Name "reversed" p2) [e] [] pos2] X.env=[(false,eval (.Call (.Name "reversed" p2) [e] [] pos2) X.env)]:=by rfl) :
 PE X (.Call (.Name "list" p) [.Call (.Name "reversed" p2) [e] [] pos2] [] pos) (y1o X.K ta):=by
 intro pins s σ H Q I h
 refine wpAny_Call_Name_kw (Yh0 I hg hm boot_list ?_ (by decide) (by decide))
 refine PyProof.Rows.callWith_type1 ?_ he rfl
 rw[he]
 refine Calls.spliced_cons (Ys8 I hg2 hm2 ha h hs fun vs H1 s1 I1 q1=>?_)
 obtain⟨a,xs,rfl,hq,q⟩:=q1
 obtain⟨its,rv,pl,hz⟩:=I1.list hq
 refine⟨a,xs,its,rfl,hq,rv,pl.isList,Calls.spliced_nil ?_⟩
 have hne:a≠s1.heap.objs.size:=by
  obtain⟨o,ho,_⟩:=pl.isList
  exact qm (ql ho)
 have hlt:a < s1.heap.objs.size:=by
  obtain⟨o,ho,_⟩:=pl.isList
  exact ql ho
 have hl:=rv.length
 refine Yij (Walks.listRev (show X.A.in1.in1.handled=none from I1.ok.hd hc) s1.heap.objs.size a hne its.toArray).toS (fun i s st=>st.2.1.typeIs) ⟨Nat.zero_le _,⟨_,qp _ rfl,rfl,by simp[revObj]⟩,pl.isList.push _⟩ (fun b hb=>?_) (by simp) (fun s' acc' c' hm' hS' hacc=>?_) (by rw[qk];lia)
 ·show b < (s1.heap.push _).objs.size
  rw[Heap.size_push]
  rcases qt hb with rfl | hb
  ·exact Nat.lt_succ_self _
  ·rw[List.mem_singleton.mp hb];exact Nat.lt_succ_of_lt hlt
 ·have hsz:(s1.heap.push (revObj a ((its.toArray.size:Int) - 1))).objs.size=s1.heap.objs.size+1:=Heap.size_push ..
  rw[Moved.eq_with hm']at hS' ⊢
  rw[hsz]at hS' ⊢
  have kp:∀b u,s1.heap.get? b=some u->s'.heap.get? b=some u:=fun b u qb=>by
   have hb:b < s1.heap.objs.size:=ql qb
   refine hm'.heap b u (fun z=>?_) (qe _ (qe _ qb))
   rw[hsz]at z
   rcases qt z with z | z
   ·exact absurd hb (by rw[z];exact Nat.not_lt.mpr (Nat.le_succ _))
   ·rw[List.mem_singleton.mp z]at hb;exact absurd hb (Nat.lt_irrefl _)
  have ev:acc'.toList=its.reverse:=by simpa using Yql hacc
  refine⟨.ref (s1.heap.objs.size+1),upd H1 (s1.heap.objs.size+1) (.lst xs.reverse),?_,rfl,q _ (I1.hok.fresh (Nat.le_succ _))⟩
  exact I1.laid (t':=s'.toks) kp (Nat.le_succ _) (show ObjOk X.prog X.w _ _ _ (.lst xs.reverse) from⟨by rw[List.length_reverse];exact hz,acc'.toList,c',by rw[ev];exact Yhe rv,by rw[Array.toArray_toList];exact hS'⟩)
def revF(f:Ro->Option D):Ro->Option (List D):=fun ρ=>(b1 f lstD ρ).map List.reverse
variable {f:Ro->Option D}
theorem Yo7(hc:X.calm=true)(hg:Gl X "list")(hm:X.mg "list"=none)(hg2:Gl X "reversed")(hm2:X.mg "reversed"=none)(ha:MC X e f)(hs:starEach [e] X.env=[(false,eval e X.env)]:=by rfl)
 (he:starEach [.Call (.Name "reversed" p2) [e] [] pos2] X.env=[(false,eval (.Call (.Name "reversed" p2) [e] [] pos2) X.env)]:=by rfl) :
 MF X (.Call (.Name "list" p) [.Call (.Name "reversed" p2) [e] [] pos2] [] pos) (revF f):=
 PE.imp (Yo6 hc hg hm hg2 hm2 (Yn3 ha Yp6 hs) hs he) fun σ H Q hx_=>by
  obtain⟨ρ,l,H0,G0,G,e,s,h⟩:=hx_
  obtain⟨l0,h1,rfl⟩:=qc e
  obtain⟨d,h2,h3⟩:=Ya3 h1
  refine tCAof.at (show Yj f aNil ρ=some [d] by simp[Yj,aNil,h2]) s fun vs H1 G1 g1 r1 s1=>?_
  obtain⟨v,rfl,rv⟩:=Ydb r1
  obtain⟨q,xs,rfl,g,rl⟩:=Yp5 h3 rv
  exact⟨q,xs,rfl,g,fun m hm'=>h m _ _ G1 (g1.trans (.hid s1.seen hm' _)) (g1.h.free hm') (s1.seen.free hm') Ym rl.reverse⟩
end
end
section
variable {K:W.Frag}
section
variable {X:Cx} {e ie:Expr} {f fb:Ro->Option D} {pos:Pos}
def rExt:V->List V->Hp->VK->Prop:=fun x vs H Q=>∃l b xs zs,x=.ref l/\vs=[.ref b]/\H l=some (.lst xs)/\Rd H b (.lst zs)/\xs.length+zs.length<=sizeLine/\Q .non (upd H l (.lst (xs++zs)))
theorem Yzs:MtM X "list.extend" rExt:=by
 intro pins s σ H x vs v us Q I rx rv h
 obtain⟨l,b,xs,zs,rfl,rfl,hH,hB,hz,q⟩:=h
 cases rx
 obtain⟨u,rfl,ru⟩:=rv.one
 cases ru
 obtain⟨z,its,n,r,hl,e⟩:=I.lstM hH
 obtain⟨z2,its2,n2,r2,e2⟩:=hB.ok I.hok
 have hl2:=r2.length
 have hsz:its.toArray.size+its2.toArray.size<=sizeLine:=by rw[qk,qk];lia
 have hlong:¬(!its.toArray.isEmpty&&Builtin.List.listTooLong (its.toArray.size+its2.toArray.size))=true:=by
  rw[Ysx hsz,Bool.and_false]
  exact qi
 refine call_meets F.slot_list_extend ⟨_,e,rfl⟩ F.entry_list_extend (F.args_list_extend_2 _ _)
  (AutoSeq1.list_extend_list_list_0 l its.toArray n b its2.toArray n2 hlong (by rw[qk];lia) (by lia)) ⟨e,e2,?_⟩
 refine⟨.non,_,I.lset (its':=its++its2) hH e (by simp) (r.append r2) ?_,rfl,q⟩
 rw[qw]
 lia
def extD(l:List D)(d:D):Option (List D):=match d with
 | .lst m=>if l.length+m.length<=cap6 then some (l++m)else none
 | _=>none
theorem Yqm(i:Nat){x:Str}{p2 apos cpos:Pos}(he:ME X e f)(hN:X.N[i]?=some x:=by rfl)(hv:Vis X.env.scope x:=by first | exact Or.inl rfl | exact Or.inr (Or.inl rfl) | exact Or.inr (Or.inr rfl))
 (hd:(x==("__debug__":Str))=false:=by decide) (hcd:(x==("__classdict__":Str))=false:=by decide) (hse:swapsWith (.Call (.Attribute (.Name x p2) "extend" apos) [e] [] cpos) none pos.line X.env=pure false:=by rfl)
 (hs:starEach [e] X.env=[(false,eval e X.env)]:=by rfl)
 (hfew:((backTo cpos (starEach [e] X.env)).all (fun x=>!x.1)&&(backToKw cpos (keywordEach [] X.env)).all (fun x=>x.1.isSome)&&decide ([e].length+([]:List Keyword).length+(if ([]:List Keyword).isEmpty then 0 else 1) < 30))=true:=by rfl)
 (hline:(apos.endLine==cpos.line)=true:=by rfl) (hbase:attributeBase (.Name x p2) "extend" X.env (eval (.Name x p2) X.env)=eval (.Name x p2) X.env:=by rfl) :
 MS X (.Expr (.Call (.Attribute (.Name x p2) "extend" apos) [e] [] cpos) pos) (sMut i f extD):=
 PS.imp (Ymn (Ypx PySem.F.plainAttrs_list PySem.F.slot_list_extend PySem.F.type_list_extend Yzs (Yej hN hv hd hcd) (Ybw he Yek hs) hbase hfew hline hs rfl) hse) fun F σ H hx_=>by
  obtain⟨ρ,out,H0,G0,G,e,s,h⟩:=hx_
  unfold sMut at e
  obtain⟨l,h1,e⟩:=qa e
  obtain⟨d,h2,e⟩:=qa e
  obtain⟨l',h3,rfl⟩:=qc e
  unfold extD at h3
  split at h3
  ·rename_i m
   split at h3
   ·rename_i hl
    cases h3
    obtain⟨a,xs,ha,hH,hr,hG⟩:=Yn4 s h1
    refine⟨_,ha,.inl ⟨rfl,xs,SqL.of hH⟩,tOf.at h2 s fun v H1 G1 g1 r1 s1=>?_⟩
    rw[Rp]at r1
    obtain⟨b,zs,rfl,gb,rz⟩:=r1
    refine⟨a,b,xs,zs,rfl,rfl,g1.h _ _ hH,Ycx s1.seen gb,?_,h σ _ G1 (s1.mut (Yga h1) ha ((hr.mono g1.g).append rz))⟩
    rw[hr.length,rz.length]
    exact Ycy hl
   ·cases h3
  ·cases h3
end
end
section
variable {K:W.Frag}
def SE(w:World):List DictEntry->List (Str × Str)->Prop:=Paired fun e p=>e.hash=PyData.keyHash w.params p.1/\(∃t,e.key=.str p.1 t)/\(∃t,e.val=.str p.2 t)/\PyData.strOk p.2=true
def GD(K:W.Frag)(w:World)(mg:Str->Option Value)(x:Str)(kvs:List (Str × Str)):Prop:=∃p o es ep,mg x=some (.ref p)/\K.lookup p=some o/\o.ExactDict/\o.data=.dict es ep/\SE w es.toList kvs
def GI(mg:Str->Option Value)(x:Str)(i:Int):Prop:=∃t,mg x=some (.int i t)
theorem Yqn{P:Program}{w:World}{k v:Str}:∀{l:List DictEntry} {kvs:List (Str × Str)},SE w l kvs->kvs.lookup k=some v->∃e t,l.find? (fun e=>(PySem.strKind P w).is k e.key)=some e/\e.val=.str v t
 | _,_,.nil,h=>by simp at h
 | _,_,.cons (a:=e) (b:=p) r t,h=>by
   obtain⟨_,⟨t1,h1⟩,⟨t2,h2⟩,_⟩:=r
   obtain⟨a,b⟩:=p
   by_cases q:a=k
   ·subst q
    simp at h
    subst h
    exact⟨e,t2,by simp[List.find?_cons,h1,PySem.strKind,Value.isStrOf],h2⟩
   ·have q':¬k=a:=fun z=>q z.symm
    simp[Qb,q']at h
    have hn:(k==a)=false:=by simpa using q'
    obtain⟨e',t',h3,h4⟩:=Yqn (P:=P) t (by simpa [Qb,hn]using h)
    refine⟨e',t',?_,h4⟩
    rw[List.find?_cons]
    have:(PySem.strKind P w).is k e.key=false:=by
     rw[h1]
     show(a==k)=false
     simpa using q
    rw[this]
    exact h3
theorem Yqo{P:Program}{w:World}:∀{l:List DictEntry} {kvs:List (Str × Str)},SE w l kvs->∀e∈l,∃k,(PySem.strKind P w).is k e.key=true/\e.hash=(PySem.strKind P w).hash k
 | _,_,.nil,e,h=>by cases h
 | _,_,.cons (b:=p) r t,e,h=>by
   rcases qt h with rfl | h
   ·obtain⟨h0,⟨t1,h1⟩,_⟩:=r
    exact⟨p.1,by rw[h1];simp[PySem.strKind,Value.isStrOf],h0⟩
   ·exact Yqo t e h
theorem Yzt{w:World}{k v:Str}:∀{l:List DictEntry} {kvs:List (Str × Str)},SE w l kvs->kvs.lookup k=some v->PyData.strOk v=true
 | _,_,.nil,h=>by simp at h
 | _,_,.cons (b:=p) r t,h=>by
   obtain⟨_,_,_,h1⟩:=r
   obtain⟨a,b⟩:=p
   by_cases q:k=a
   ·subst q
    simp at h
    subst h
    exact h1
   ·have hn:(k==a)=false:=by simpa using q
    exact Yzt t (by simpa [Qb,hn]using h)
section
variable {X:Cx} {ke:Expr} {fk:Ro->Option D} {pos px:Pos} {x:Str}
def Ylr(kvs:List (Str × Str)):D->Option D
 | .str k=>(kvs.lookup k).map D.str
 | _=>none
theorem Ys9{kvs:List (Str × Str)}(g:GD X.K X.w X.mg x kvs)(hg:Gl X x)(hk:MC X ke fk)(hs:NoSl ke:=by intro _ _;rfl)(hd:(x==("__debug__":Str))=false:=by decide):ME X (.Subscript (.Name x px) ke pos) (b1 fk (Ylr kvs)):=by
 obtain⟨p,o,es,ep,hm,hl,hx,hdt,hse⟩:=g
 intro pins s σ H Q I ⟨ρ,d,H0,G0,G,e,sr,h⟩
 obtain⟨dk,h1,h2⟩:=Ya3 e
 refine Ymq PySem.F.slot_dict_getitem.lookup hs (Yfg I hg hm ?_ hd)
 refine thn (hk pins s σ H (fun(v':V) (H':Hp)=>∃k r,v'=.str k/\kvs.lookup k=some r/\Q (.str r) H') I (tCof.at h1 sr fun v H1 G1 g1 r1 s1=>?_)) fun iv s2 q0=>?_
 ·unfold Ylr at h2
  split at h2
  ·rename_i k
   obtain⟨r,h3,rfl⟩:=qc h2
   rw[Ct]at r1
   exact⟨k,r,r1.1,h3,h _ H1 G1 g1 (by rw[Rp];exact⟨rfl,Yzt hse h3⟩)⟩
  ·cases h2
 ·obtain⟨y,H2,I2,ry,k,r,rfl,h3,q⟩:=q0
  obtain⟨t,rfl⟩:=ry
  have ho:s2.heap.get? p=some o:=I2.kIn p o hl
  obtain⟨e',t',f1,f2⟩:=Yqn (P:=X.prog) hse h3
  refine⟨⟨o,ho,hx.1⟩,wpAny_getItem_of (knd:=PySem.strKind X.prog X.w) (k:=k) (f:=fun k=>findBy (PySem.strKind X.prog X.w).is es k) (v:=.str r t') (by simp[PySem.strKind,Value.isStrOf]) ⟨o,es,ep,ho,hx,hdt,?_,fun _=>rfl⟩ ?_ ⟨.str r,H2,I2.tok _,⟨t',rfl⟩,q⟩⟩
  ·intro e'' he
   exact Yqo hse e'' (by simpa using he)
  ·show(es.find? fun e=>(PySem.strKind X.prog X.w).is k e.key).map (·.val)=_
   rw[<-Array.find?_toList,f1,Option.map_some,f2]
theorem Ywl{i:Int}(g:GI X.mg x i)(hg:Gl X x)(hd:(x==("__debug__":Str))=false:=by decide):ME X (.Name x px) (kD (.int i)):=by
 obtain⟨t,hm⟩:=g
 exact Yew (v:=.int i) (Yj7 (v:=.int i) hg hm ⟨t,rfl⟩ hd) (fun _ _ _ q=>q) fun _=>by rw[Rp]
end
def tK(x:Str):TE:=fun _ H Q=>Q (.str x) H
structure MP(X:Cx)(pos:Pos)(keys:List (Option Expr))(values:List Expr)(ks:List Str)(fs:List (Ro->Option D)):Prop where
 len:ks.length=fs.length
 pps:PPs X pos keys values ((ks.zip fs).map fun p=>(tK p.1,tOf X.K p.2))
 all:keys.all (·.isSome)=true
 kv:keys.length=values.length
 kk:keys.length=ks.length
end
section
variable {K:W.Frag}
def numD:D->Option Int
 | .int i=>some i
 | .bl b=>some (if b then 1 else 0)
 | _=>none
def numsD:List D->Option (List Int)
 | []=>some []
 | d::l=>(numD d).bind fun i=>(numsD l).map (i::·)
structure DtH(H:Hp)(a:Addr)(nks:List (List Int × Addr))(vxs:List V):Prop where
 at':∃ep,H a=some (dTo a nks vxs ep)
 len:nks.length=vxs.length
 nd:(nks.map (·.1)).Nodup
 keys:∀p∈nks,∃ys,H p.2=some (.tup ys)/\Yv4 ys=some p.1
end
section
end
section
section
variable {X:Cx} {a b c e:Expr} {fa fb fc:Ro->Option D} {pos:Pos} {st:Stmt}
def ch3(fa fb fc:Ro->Option D)(g g':D->D->Option Bool):Ro->Option Bool:=fun ρ=>
 (fa ρ).bind fun x=>(fb ρ).bind fun y=>(g x y).bind fun k=>if k=true then (fc ρ).bind fun z=>g' y z else some false
theorem Yn8{g g':D->D->Option Bool}{ρ:Ro}{k:Bool}(h:ch3 fa fb fc g g' ρ=some k) :
 ∃x y,fa ρ=some x/\fb ρ=some y/\((g x y=some false/\k=false)\/(g x y=some true/\∃z,fc ρ=some z/\g' y z=some k)):=by
 unfold ch3 at h
 obtain⟨x,h1,h⟩:=qa h
 obtain⟨y,h2,h⟩:=qa h
 obtain⟨q,h3,h⟩:=qa h
 refine⟨x,y,h1,h2,?_⟩
 cases q with
 | false=>
   rw[if_neg (by simp)]at h
   cases h
   exact .inl ⟨h3,rfl⟩
 | true=>
   rw[if_pos rfl]at h
   obtain⟨z,h4,h⟩:=qa h
   exact .inr ⟨h3,z,h4,h⟩
theorem Yta{op op':CmpOp}{r r':R2}{g g':D->D->Option Bool}(ho:OpR X (compareOp op) r)(hr:Ye4 X.K r g)(ho':OpR X (compareOp op') r')(hr':Ye4 X.K r' g')(ha:MC X a fa)(hb:MC X b fb)(hc:MC X c fc)
 (hm:lastMarks [op,op'] [b,c]=false:=by with_unfolding_all rfl):ME X (.Compare a [op,op'] [b,c] pos) (mB (ch3 fa fb fc g g')):=
 PE.imp (Ysp ho ho' ha hb hc hm) fun σ H Q h=>by
  obtain⟨ρ,d,H0,G0,G,e,s,h⟩:=h
  obtain⟨k,ek,rfl⟩:=Ymu e
  obtain⟨x,y,h1,h2,h3⟩:=Yn8 ek
  refine tCof.at h1 s fun v H1 G1 g1 r1 s1=>tCof.at h2 s1 fun u H2 G2 g2 r2 s2=>?_
  rcases h3 with⟨h3,rfl⟩ | ⟨h3,z,h4,h5⟩
  ·exact hr v u x y false H2 G2 _ h3 s2.seen (r1.grow g2) r2 ⟨false,rfl,by rw[if_neg (by simp)];exact h _ H2 G2 (g1.trans g2) (by rw[Rp])⟩
  ·refine hr v u x y true H2 G2 _ h3 s2.seen (r1.grow g2) r2 ⟨true,rfl,?_⟩
   rw[if_pos rfl]
   exact tCof.at h4 s2 fun w H3 G3 g3 r3 s3=>hr' u w y z k H3 G3 _ h5 s3.seen (r2.grow g3) r3 (h _ H3 G3 ((g1.trans g2).trans g3) (by rw[Rp]))
theorem Ytb{op op':CmpOp}{r r':R2}{g g':D->D->Option Bool}(ho:OpR X (compareOp op) r)(hr:Ye4 X.K r g)(ho':OpR X (compareOp op') r')(hr':Ye4 X.K r' g')(ha:MC X a fa)(hb:MC X b fb)(hc:MC X c fc)
 (hm:lastMarks [op,op'] [b,c]=false:=by with_unfolding_all rfl):MT X (.Compare a [op,op'] [b,c] pos) (ch3 fa fb fc g g'):=
 PT.imp (Ysq ho ho' ha hb hc hm) fun σ H Q h=>by
  obtain⟨ρ,k,H0,G0,G,ek,s,h⟩:=h
  obtain⟨x,y,h1,h2,h3⟩:=Yn8 ek
  refine tCof.at h1 s fun v H1 G1 g1 r1 s1=>tCof.at h2 s1 fun u H2 G2 g2 r2 s2=>?_
  rcases h3 with⟨h3,rfl⟩ | ⟨h3,z,h4,h5⟩
  ·exact hr v u x y false H2 G2 _ h3 s2.seen (r1.grow g2) r2 ⟨false,rfl,by rw[if_neg (by simp)];exact⟨false,rfl,h H2 G2 (g1.trans g2)⟩⟩
  ·refine hr v u x y true H2 G2 _ h3 s2.seen (r1.grow g2) r2 ⟨true,rfl,?_⟩
   rw[if_pos rfl]
   exact tCof.at h4 s2 fun w H3 G3 g3 r3 s3=>hr' u w y z k H3 G3 _ h5 s3.seen (r2.grow g3) r3 ⟨k,rfl,h H3 G3 ((g1.trans g2).trans g3)⟩
def nS:Ro->Option Out:=fun _=>none
theorem Ytc:MS X st nS:=fun _ _ _ _ _ _ ⟨_,_,_,_,_,h,_⟩=>nomatch h
end
end
section
section
variable {X:Cx} {e:Expr} {f:Ro->Option D} {fc:Ro->Option Bool} {gl:Ro->Option (List D)} {K:W.Frag}
def Ytd:D->Bool
 | .non | .bl _ | .int _ | .str _=>true
 | _=>false
def scal(d:D):Option D:=if Ytd d=true then some d else none
theorem Rp.scal{G G':Hp}{d:D}{v:V}(h:Ytd d=true)(r:Rp K G d v):Rp K G' d v:=by
 cases d<;>first | (rw[Rp]at r ⊢;exact r) | cases h
theorem Gr.back{H G H' G' G1:Hp}(s:Same G H)(g:Gr H G1 H' G'):Gr H G H' G:=⟨g.h,Same.refl _,s.trans g.h,fun _ h h'=>absurd h h'⟩
end
end
section
variable {K:W.Frag}
set_option maxRecDepth 100000
section
variable {X:Cx} {e:Expr} {f:Ro->Option D} {p pos:Pos}
theorem nr1{α:Sort _}{a b:α}(h:a=b):a=b:=h
end
end
section
end
section
set_option maxRecDepth 100000
variable {K:W.Frag}
end
section
def Yzu:List Value->List Str->Prop:=Paired fun v k=>(∃t,v=.str k t)/\PyData.strOk k=true
def inG(neg:Bool)(ks:List Str):D->Option Bool
 | .str k=>some (decide (k∈ks) != neg)
 | _=>none
def rInG(p:Addr)(ks:List Str)(neg:Bool):R2:=fun x y H Q=>∃k,x=.str k/\PyData.strOk k=true/\y=.ref p/\Q (.bl (decide (k∈ks) != neg)) H
section
variable {X:Cx} {a:Expr} {fa:Ro->Option D} {pos px:Pos} {x:Str} {ks:List Str}
@[simp] theorem inG_str(neg:Bool)(ks:List Str)(k:Str):inG neg ks (.str k)=some (decide (k∈ks) != neg):=nr1 rfl
end
end
section
section
variable {prog:Program} {w:World} {A:Around} {E:Value->Shared->Prop} {s:Shared}
theorem Ym0{t sl:Addr}{items:Array Value}{vl vu:Value}{lo hi:Option Int}{Q:Value->Shared->Prop}(ht:IsTup s.heap t items)(hs:s.heap.IsSliceOf sl vl vu .none)(pl:IsPart vl lo)(pu:IsPart vu hi)
 (h0:HT.sIx items.size 0 lo=0) (h1:HT.sIx items.size items.size hi=items.size) (h:Q (.ref t) s):wpAny (model prog w) A (getItem (.ref t) (.ref sl)) Q E s:=by
 obtain⟨os,hos,hcs,hds⟩:=id hs
 have hTs:s.TypeIs (.ref sl) "slice":=⟨os,hos,hcs⟩
 unfold getItem
 try with_reducible refine wpAny_holding ?_
 first | refine wpAny_bind (wpAny_pure ?_) | skip
 refine wpAny_bind (wpAny_sequenceKey ht.typeIs (by decide) ?_)
 refine wpAny_bind (wpAny_callSpecial?_slot (name:=Str.ofString "__getitem__") ht.typeIs PyProof.Rows.slot_tuple_getitem (wpAny_call_entry PyProof.Rows.slot_tuple_getitem ht.typeIs entry_tuple_getitem ?_ (args_tuple_getitem _ _)))
 show wpAny _ _ (Builtin.Tuple.tupleItemsOf (.ref t) >>= _) _ _ s
 refine wpAny_bind (tupleItemsOf_ ht ?_)
 refine wpAny_bind (wpAny_typeOf hTs ?_)
 rw[if_pos (by decide)]
 refine wpAny_bind (HT.sliceApplied_gen hs pl pu ?_)
 show wpAny _ _ (if (((HT.sIx items.size 0 lo:Nat):Int)==0&&(1:Int)==1&&(HT.sIx items.size items.size hi - HT.sIx items.size 0 lo)==items.size)=true then _ else _) _ _ s
 rw[if_pos (by rw[h0,h1];simp)]
 refine wpAny_bind ?_
 unfold Builtin.Tuple.tupleIsExact
 refine wpAny_bind (wpAny_typeOf ht.typeIs (wpAny_pure ?_))
 rw[if_pos (by decide)]
 exact wpAny_bind (wpAny_rule (wpAny_pure ⟨_,rfl,wpAny_pure h⟩))
end
section
variable {X:Cx}
def rSlW(K:W.Frag):V->Option Int->Option Int->Hp->VK->Prop:=fun x lo hi H Q=>∃a xs,x=.ref a/\SqT K H a xs/\HT.sIx xs.length 0 lo=0/\HT.sIx xs.length xs.length hi=xs.length/\Q (.ref a) H
theorem Yte:SlR X (rSlW X.K):=by
 intro pins s σ H x v vl vu lo hi sl Q I rx hs pl pu h
 obtain⟨a,xs,rfl,hx,h0,h1,q⟩:=h
 cases rx
 obtain⟨its,r,ht,hz⟩:=I.tuple hx
 have hlen:its.toArray.size=xs.length:=by rw[qk];exact r.length.symm
 refine⟨"tuple",_,PyProof.Rows.slot_tuple_getitem.lookup,ht.typeIs,Ym0 ht hs pl pu (by rw[hlen];exact h0) (by rw[hlen];exact h1) ?_⟩
 exact⟨.ref a,H,I,rfl,q⟩
def cutC(i j:Option Int):D->Option D
 | .lst l=>some (.lst (cutD l i j))
 | .tup l=>some (.tup (cutD l i j))
 | _=>none
def slD(fa:Ro->Option D)(lo hi:Option (Ro->Option D)):Ro->Option D:=fun ρ=>(fa ρ).bind fun d=>(optI lo ρ).bind fun i=>(optI hi ρ).bind fun j=>cutC i j d
variable {a e:Expr} {fa f:Ro->Option D} {pos:Pos}
theorem Ytf{lo hi:Option Expr}{fl fh:Option (Ro->Option D)}{p2:Pos}(ha:MC X a fa)(hl:PO X lo (tO X.K fl))(hh:PO X hi (tO X.K fh)):ME X (.Subscript a (.Slice lo hi none p2) pos) (slD fa fl fh):=
 PE.imp (Yny (SlR.or Yv1 (SlR.or Yyi Yte)) ha hl hh) fun σ H Q hx_=>by
  obtain⟨ρ,d,H0,G0,G,e,s,h⟩:=hx_
  unfold slD at e
  obtain⟨d0,h1,e⟩:=qa e
  obtain⟨i,h2,e⟩:=qa e
  obtain⟨j,h3,e⟩:=qa e
  refine tCof.at h1 s fun v H1 G1 g1 r1 s1=>Yy9 h2 s1 fun H2 G2 g2 s2=>Yy9 h3 s2 fun H3 G3 g3 s3=>?_
  have r3:=(r1.grow g2).grow g3
  have gg:=(g1.trans g2).trans g3
  unfold cutC at e
  split at e
  ·rename_i l
   cases e
   rw[Ct]at r3
   obtain⟨p,xs,rfl,g,rl⟩:=r3
   refine .inl ⟨p,xs,rfl,.inl g,fun q hq=>?_⟩
   refine h _ _ _ (gg.trans (Gr.new (p:=q) s3.seen hq (.lst (cutV xs i j)))) ?_
   rw[Rp]
   refine⟨q,_,rfl,.inl Ym,?_⟩
   unfold cutD cutV
   rw[rl.length]
   exact((rl.drop _).take _).mono (Gr.new (p:=q) s3.seen hq _).g
  ·cases e
   rw[Ct]at r3
   obtain⟨p,xs,rfl,⟨g,gG⟩,rl⟩:=r3
   by_cases hw:HT.sIx xs.length 0 i=0/\HT.sIx xs.length xs.length j=xs.length
   ·refine .inr (.inr ⟨p,xs,rfl,.of g,hw.1,hw.2,h _ H3 G3 gg ?_⟩)
    rw[Rp]
    refine⟨p,xs,rfl,gG,?_⟩
    unfold cutD
    rw[<-rl.length,hw.1,hw.2,List.drop_zero,Nat.sub_zero,rl.length,List.take_length]
    exact rl
   ·refine .inr (.inl ⟨p,xs,rfl,.of g,hw,fun q hq=>?_⟩)
    refine h _ _ _ (gg.trans (Gr.new (p:=q) s3.seen hq (.tup (cutV xs i j)))) ?_
    rw[Rp]
    refine⟨q,_,rfl,Ym,?_⟩
    unfold cutD cutV
    rw[rl.length]
    exact((rl.drop _).take _).mono (Gr.new (p:=q) s3.seen hq _).g
  ·cases e
@[simp] theorem ap_slD{ρ:Ro}(lo hi:Option (Ro->Option D)):slD fa lo hi ρ=(fa ρ).bind fun d=>(optI lo ρ).bind fun i=>(optI hi ρ).bind fun j=>cutC i j d:=nr1 rfl
end
end
section
set_option maxRecDepth 100000
end
section
def y1p:List Nat:=[8,16,32,64,128]
end
section
end
section
set_option maxRecDepth 100000
end
section
set_option maxRecDepth 100000
section
variable {prog:Program} {w:World} {A:Around} {E:Value->Shared->Prop} {s:Shared}
structure SetQ(w:World)(h:Heap)(a:Addr)(us:List (Int × Addr)):Prop where
 ex:∃o es ep t,h.get? a=some o/\o.ExactSet/\o.data=.set es ep t/\es.toList=us.map (fun u=>(u.1,Value.ref u.2))/\t.fits es.size=true/\t.mask=7/\t.dummies=#[]/\t.place.toList=us.map (fun u=>SetTable.bits u.1 % 8)/\Tab (byT w) t
end
end
section
set_option maxRecDepth 100000
end
section
end
section
set_option maxRecDepth 100000
def advM(mask:Nat)(p:SetTable.Probe):SetTable.Probe:=SetTable.advance { mask:=mask,place:=#[],dummies:=#[],finger:=0,led:=false,moves:=0,plain:=false } p
def itP(mask:Nat):Nat->SetTable.Probe->SetTable.Probe
 | 0,p=>p
 | k+1,p=>itP mask k (advM mask p)
def stP(mask i perturb:Nat):SetTable.Probe:={ j:=i,more:=SetTable.runEnd mask i - i,i,perturb,dummy:=none }
def Way(mask:Nat)(occ:Nat->Prop)(p:SetTable.Probe)(j:Nat):Prop:=∃k,(itP mask k p).j=j/\∀m,m < k->occ (itP mask m p).j
abbrev hSt(mask:Nat)(h:Int):SetTable.Probe:=stP mask (SetTable.bits h % (mask+1)) (SetTable.bits h)
section
variable {t:SetTable} {hA:Nat->Int} {h:Int}
structure Clean(t:SetTable)(n:Nat):Prop where
 hs:t.mask+1∈y1p
 dm:t.dummies=#[]
 rise:Rise t.place
 le:∀j∈t.place.toList,j<=t.mask
 sz:t.place.size=n
 room:n<=t.mask
end
end
section
set_option maxRecDepth 100000
def bI(b:Bool):Int:=if b then 1 else 0
def bH(bs:List Bool):Int:=Yyn (bs.map bI)
def TupB(h:Heap)(u:Addr)(bs:List Bool):Prop:=bs.length<=4/\∃o n,h.get? u=some o/\o.cls=.type "tuple"/\o.data=.seq (bs.map Value.bool).toArray n
structure SetB(w:World)(h:Heap)(S:Addr)(us:List (Addr × List Bool)):Prop where
 ex:∃o es ep t,h.get? S=some o/\o.ExactSet/\o.data=.set es ep t/\es.toList.Perm (us.map fun u=>(bH u.2,Value.ref u.1))/\t.fits es.size=true/\Clean t es.size/\Tab (byT w) t/\es.size * 5 < t.mask * 3/\∀q∈es.toList.zip t.place.toList,Way t.mask (·∈t.place.toList) (hSt t.mask q.1.1) q.2
 keys:(us.map (·.2)).Nodup
 tups:∀u∈us,TupB h u.1 u.2
 few:us.length<=24
end
section
set_option maxRecDepth 100000
section
variable {n:Nat} {key:Nat->Nat} {cmp:Nat->Nat->(Bool->Shared->Prop)->Shared->Prop} {s:Shared}
variable (hinj:∀i j,i < n->j < n->key i=key j->i=j) (hc:∀i j (C:Bool->Shared->Prop),i < n->j < n->C (decide (key i < key j)) s->cmp i j C s)
include hinj hc
omit hinj hc in
omit hinj hc in
omit hinj hc in
end
end
section
section
variable {X:Cx} {e:Expr} {f:Ro->Option D} {p p2 pos pos2:Pos}
def Yqp:D->D->Option D
 | .tup a,.tup b=>if a.length+b.length<=cap6 then some (.tup (a++b))else none
 | _,_=>none
def y1q(K:W.Frag):R2:=fun x y H Q=>∃a b xs ys,x=.ref a/\y=.ref b/\SqT K H a xs/\SqT K H b ys/\xs.length+ys.length<=sizeLine/\
 (xs=[]->Q (.ref b) H)/\(xs≠[]->ys=[]->Q (.ref a) H)/\(xs≠[]->ys≠[]->∀p,H p=none->Q (.ref p) (upd H p (.tup (xs++ys))))
theorem Ywm:OpR X (binaryOp .Add) (y1q X.K):=by
 intro pins s σ H x y v u Q I rx ry h
 obtain⟨a,b,xs,ys,rfl,rfl,ha,hb,hz,q0,q1,q2⟩:=h
 by_cases hx:xs=[]
 ·cases rx
  cases ry
  obtain⟨its,r1,p1,_⟩:=I.tuple ha
  obtain⟨its2,r2,p2,_⟩:=I.tuple hb
  have he:its=[]:=r1.nil_iff.mpr hx
  obtain⟨⟨cls,dd,data,sl⟩,ho,hc,n,hd⟩:=p1
  obtain⟨⟨cls2,dd2,data2,sl2⟩,ho2,hc2,n2,hd2⟩:=p2
  simp only at hc hd hc2 hd2
  subst hc hd hc2 hd2
  exact concat_meets ⟨_,ho,rfl⟩ ⟨_,ho2,rfl⟩ noFill_tuple_add seq_tuple_add PySem.F.slot_tuple_add PySem.F.entry_tuple_add (PySem.F.args_tuple_add_2 _ _)
   (tuple_addW0 a b its.toArray its2.toArray n n2 dd dd2 sl sl2 (by simp[he])) ⟨ho,ho2,⟨.ref b,H,I,rfl,q0 hx⟩⟩
 ·exact Yvz pins s σ H _ _ _ _ Q I rx ry ⟨a,b,xs,ys,rfl,rfl,ha,hb,hx,hz,q1 hx,q2 hx⟩
theorem Ywn{a b:Expr}{fa fb:Ro->Option D}(ha:MC X a fa)(hb:MC X b fb):ME X (.BinOp a .Add b pos) (b2 fa fb Yqp):=PE.imp (Yso Ywm ha hb) fun σ H Q hx_=>by
 obtain⟨ρ,l,H0,G0,G,e,s,h⟩:=hx_
 obtain⟨dx,dy,h1,h2,h3⟩:=Yic e
 refine tCof.at h1 s fun v H1 G1 g1 r1 s1=>tCof.at h2 s1 fun u H2 G2 g2 r2 s2=>?_
 unfold Yqp at h3
 split at h3
 ·rename_i l1 l2
  split at h3
  ·rename_i hz
   cases h3
   have r1':=r1.grow g2
   rw[Ct]at r1'
   rw[Ct]at r2
   obtain⟨p,xs,rfl,gp,rl⟩:=r1'
   obtain⟨q,zs,rfl,gq,rm⟩:=r2
   refine⟨p,q,xs,zs,rfl,rfl,.of gp.1,.of gq.1,by rw[rl.length,rm.length];exact Ycy hz,fun hx=>?_,fun _ hy=>?_,fun _ _ m hm=>h _ _ _ ((g1.trans g2).trans (.new s2.seen hm (.tup (xs++zs)))) ?_⟩
   ·subst hx
    have:l1=[]:=List.eq_nil_of_length_eq_zero (by rw[<-rl.length];rfl)
    subst this
    refine h _ _ G2 (g1.trans g2) ?_
    rw[Qd,Rp]
    exact⟨q,zs,rfl,gq.2,rm⟩
   ·subst hy
    have:l2=[]:=List.eq_nil_of_length_eq_zero (by rw[<-rm.length];rfl)
    subst this
    refine h _ _ G2 (g1.trans g2) ?_
    rw[List.append_nil,Rp]
    exact⟨p,xs,rfl,gp.2,rl⟩
   ·rw[Rp]
    exact⟨m,_,rfl,Ym,(rl.append rm).mono (Gr.new s2.seen hm _).g⟩
  ·cases h3
 ·cases h3
end
end
section
set_option maxRecDepth 100000
end
section
structure ZE(X:Cx)(e:Expr)(f:Ro->Option D):Prop where
 un:ME X e f
structure ZC(X:Cx)(e:Expr)(f:Ro->Option D):Prop where
 un:MC X e f
structure ZCA(X:Cx)(es:List Expr)(f:Ro->Option (List D)):Prop where
 un:MCA X es f
structure ZF(X:Cx)(e:Expr)(f:Ro->Option (List D)):Prop where
 un:MF X e f
structure ZT(X:Cx)(e:Expr)(f:Ro->Option Bool):Prop where
 un:MT X e f
structure ZW(X:Cx)(e:Expr)(f:Ro->Option Bool):Prop where
 un:MW X e f
structure ZA(X:Cx)(es:List Expr)(f:Ro->Option (List D)):Prop where
 un:MA X es f
structure ZI(X:Cx)(tg iter:Expr)(f:Ro->Option (List D)):Prop where
 un:MI X tg iter f
structure ZS(X:Cx)(st:Stmt)(f:Ro->Option Out):Prop where
 un:MS X st f
structure ZB(X:Cx)(sts:List Stmt)(f:Ro->Option Out):Prop where
 un:MB X sts f
structure ZG(X:Cx)(tg:Expr)(gt:D->Ro->Option Ro):Prop where
 un:MG X tg gt
structure ZIfs(X:Cx)(K:W.Frag)(ifs:List Expr)(f:Ro->Option Bool):Prop where
 un:PIfs X ifs (tTof K f)
structure ZO(X:Cx)(e:Option Expr)(f:Option (Ro->Option D)):Prop where
 un:PO X e (tO X.K f)
structure ZP(X:Cx)(pos:Pos)(keys:List (Option Expr))(values:List Expr)(ks:List Str)(fs:List (Ro->Option D)):Prop where
 un:MP X pos keys values ks fs
section
variable {K:W.Frag} {X:Cx} {H0 G0 H G:Hp} {σ:L2.St} {ρ:Ro} {a b c e:Expr} {es:List Expr} {fa fb fc f:Ro->Option D} {ga:Ro->Option (List D)} {pos:Pos}
theorem Yc{e:Expr}{f:Ro->Option D}(h:ZE X e f):ZC X e f:=⟨ME.mc h.un⟩
theorem Yn(i:Nat){x:Str}(hN:X.N[i]?=some x:=by rfl)(hv:Vis X.env.scope x:=by first | exact Or.inl rfl | exact Or.inr (Or.inl rfl) | exact Or.inr (Or.inr rfl))(hd:(x==("__debug__":Str))=false:=by decide)(hcd:(x==("__classdict__":Str))=false:=by decide):ZE X (.Name x pos) (getV i):=⟨Yyo i hN hv hd hcd⟩
theorem Yb(i:Nat){x:Str}(hN:X.N[i]?=some x:=by rfl)(hv:Vis X.env.scope x:=by first | exact Or.inl rfl | exact Or.inr (Or.inl rfl) | exact Or.inr (Or.inr rfl))(hd:(x==("__debug__":Str))=false:=by decide)(hcd:(x==("__classdict__":Str))=false:=by decide):ZC X (.Name x pos) (getC i):=⟨Yyp i hN hv hd hcd⟩
theorem Yi{i:Int}{j}:ZE X (.Constant (.int i) j pos) (kD (.int i)):=⟨Yyq ⟩
theorem Yn9{k:Bool}{j}:ZE X (.Constant (.bool k) j pos) (kD (.bl k)):=⟨y1d ⟩
theorem Ybq{j}:ZE X (.Constant .none j pos) (kD .non):=⟨Yyr ⟩
theorem Yw{x:Str}{j}(hx:PyData.strOk x=true:=by decide +kernel):ZE X (.Constant (.str x) j pos) (kD (.str x)):=⟨Yys hx⟩
theorem Yqq(ha:ZC X a fa)(hb:ZC X b fb):ZE X (.BinOp a .Sub b pos) (b2 fa fb subI):=⟨Yyu ha.un hb.un⟩
theorem Yfm(ha:ZC X a fa)(hb:ZC X b fb):ZE X (.BinOp a .Mult b pos) (b2 fa fb mulI):=⟨Yyv ha.un hb.un⟩
theorem Ydu(ha:ZC X a fa)(hb:ZC X b fb):ZE X (.BinOp a .FloorDiv b pos) (b2 fa fb divI):=⟨Yyw ha.un hb.un⟩
theorem Ybe(ha:ZC X a fa)(hb:ZC X b fb):ZE X (.BinOp a .Mod b pos) (b2 fa fb modI):=⟨Yyx ha.un hb.un⟩
theorem Yqr(ha:ZC X a fa)(hb:ZC X b fb):ZT X (.Compare a [.Gt] [b] pos) (b2 fa fb gtI):=⟨y1e ha.un hb.un⟩
theorem Yik(hu:X.A.units+64 < cLine)(ha:ZC X a fa)(hb:ZC X b fb):ZE X (.Compare a [.Eq] [b] pos) (mB (b2 fa fb (eqM false))):=⟨y1f hu ha.un hb.un⟩
theorem Yav(hu:X.A.units+64 < cLine)(ha:ZC X a fa)(hb:ZC X b fb):ZT X (.Compare a [.Eq] [b] pos) (b2 fa fb (eqM false)):=⟨y1g hu ha.un hb.un⟩
theorem Yzv(hu:X.A.units+64 < cLine)(ha:ZC X a fa)(hb:ZC X b fb):ZT X (.Compare a [.NotEq] [b] pos) (b2 fa fb (eqM true)):=⟨y1h hu ha.un hb.un⟩
end
section
variable {K:W.Frag} {X:Cx} {a b c e tg elt iter ie ke:Expr} {es rest ifs:List Expr} {fa fb f fe fk:Ro->Option D} {fc fd:Ro->Option Bool} {ga gl:Ro->Option (List D)} {pos p pos' p2 pos2 px:Pos} {x:Str} {id T:String} {r:List V->Hp->VK->Prop} {g:List D->Option D} {gf:List D->Option (List D)} {st:Stmt} {sts:List Stmt} {fs gs:Ro->Option Out} {scope:Scope} {N:List Str} {src:List (Option Nat)} {gt:D->Ro->Option Ro} {P:Program} {w:World} {mg:Str->Option Value} {base:Heap} {ta:TA}
theorem Ycz(ha:ZC X a fa)(he:∀whole,isTrue a X.env whole=(do let v <-whole;standAt a.pos;holding [v] (truthy v)):=by intro _;rfl):ZT X a (b1 fa truD):=⟨Yyz ha.un he⟩
theorem Ykh(ha:ZT X a fc):ZW X (.BoolOp .And [a] pos) fc:=⟨Yv7 ha.un⟩
theorem Ydv(ha:ZT X a fc):ZW X (.BoolOp .Or [a] pos) fc:=⟨Yy0 ha.un⟩
theorem Ym1(ha:ZT X a fc)(hb:ZW X (.BoolOp .And (b::rest) pos) fd):ZW X (.BoolOp .And (a::b::rest) pos) (andT fc fd):=⟨Yy2 ha.un hb.un⟩
theorem Ygd(ha:ZT X a fc)(hb:ZW X (.BoolOp .Or (b::rest) pos) fd):ZW X (.BoolOp .Or (a::b::rest) pos) (orT fc fd):=⟨y1i ha.un hb.un⟩
theorem Yil(ha:ZT X a fc):ZT X (.UnaryOp .Not a pos) (notT fc):=⟨Yy3 ha.un⟩
theorem Yhx(ha:ZE X a fa):ZE X (.BoolOp .And [a] pos) fa:=⟨Yv9 ha.un⟩
theorem Yg0(ha:ZE X a fa)(hb:ZE X (.BoolOp .And (b::rest) pos) fb):ZE X (.BoolOp .And (a::b::rest) pos) (andV fa fb):=⟨Yy4 ha.un hb.un⟩
theorem Ywo(ha:ZE X a fa):ZE X (.UnaryOp .Not a pos) (notV fa):=⟨Yy5 ha.un⟩
theorem Yls(hc:ZT X c fc)(ha:ZE X a fa)(hb:ZE X b fb):ZE X (.IfExp c a b pos) (ifV fc fa fb):=⟨y1j hc.un ha.un hb.un⟩
theorem Ywp(ha:ZC X a fa)(hb:ZC X b fb):ZE X (.Compare a [.Is] [b] pos) (mB (b2 fa fb (isN false))):=⟨Yy6 ha.un hb.un⟩
theorem Yg1(ha:ZC X a fa)(hb:ZC X b fb):ZT X (.Compare a [.Is] [b] pos) (b2 fa fb (isN false)):=⟨Yy7 ha.un hb.un⟩
theorem y3(ha:ZC X a fa)(hb:ZC X b fb)(hs:Ygy b:=by intro _ _;rfl):ZE X (.Subscript a b pos) (b2 fa fb ixD):=⟨Ywa ha.un hb.un hs⟩
theorem Yzw :ZO X none none:=⟨y1k ⟩
theorem Yzx(h:ZC X e f):ZO X (some e) (some f):=⟨y1l h.un⟩
theorem Ybb{g:Ro->Option (List D)}(h:ZF X e g):ZE X e (lF g):=⟨MF.me h.un⟩
theorem Yg :ZA X [] aNil:=⟨Yu1 ⟩
theorem Yd(ha:ZE X e f)(hr:ZA X es ga)(hs:starEach (e::es) X.env=(false,eval e X.env)::starEach es X.env:=by rfl):ZA X (e::es) (Yj f ga):=⟨Ymx ha.un hr.un hs⟩
theorem Yz :ZCA X [] aNil:=⟨Yp6 ⟩
theorem Yt(ha:ZC X e f)(hr:ZCA X es ga)(hs:starEach (e::es) X.env=(false,eval e X.env)::starEach es X.env:=by rfl):ZCA X (e::es) (Yj f ga):=⟨Yn3 ha.un hr.un hs⟩
theorem Yim{x1}(h:ZA X es ga):ZE X (.Tuple es x1 pos) (dTup ga):=⟨Yza h.un⟩
theorem Ya4(h:ZA X es ga):ZF X (.List es pos) (dLst ga):=⟨Yzb h.un⟩
theorem Yaw(hc:Yf7 X (.builtin id) r)(hr:SemC X.K r g)(hg:Gl X x)(hm:X.mg x=none)(hv:bootBuiltins x=some (.builtin id))(ha:ZCA X (e::es) ga)(hn:x≠"__name__":=by decide)(hdb:(x==("__debug__":Str))=false:=by decide)(he:starEach (e::es) X.env=(false,eval e X.env)::starEach es X.env:=by rfl)(hpl:(backTo pos (starEach es X.env)).any (·.1)=false:=by rfl):ZE X (.Call (.Name x p) (e::es) [] pos) (cC ga g):=⟨Ys2 hc hr hg hm hv ha.un hn hdb he hpl⟩
theorem Yad(hc:Yf7 X (.type T) r)(hr:SemC X.K r g)(hg:Gl X x)(hm:X.mg x=none)(hv:bootBuiltins x=some (.type T))(ha:ZCA X (e::es) ga)(hn:x≠"__name__":=by decide)(hdb:(x==("__debug__":Str))=false:=by decide)(he:starEach (e::es) X.env=(false,eval e X.env)::starEach es X.env:=by rfl)(hpl:(backTo pos (starEach es X.env)).any (·.1)=false:=by rfl):ZE X (.Call (.Name x p) (e::es) [] pos) (cC ga g):=⟨Yp7 hc hr hg hm hv ha.un hn hdb he hpl⟩
theorem Yag :ZB X [] sNil:=⟨Yzd ⟩
theorem Yu(h1:ZS X st fs)(h2:ZB X sts gs):ZB X (st::sts) (sSeq fs gs):=⟨Ywc h1.un h2.un⟩
theorem Ys(h1:ZS X st fs):ZB X [st] fs:=⟨Yze h1.un⟩
theorem Yki(is:List Nat)(h:ZS X st fs):ZS X st (wF is fs):=⟨Yzf is h.un⟩
theorem Yg2(i:Nat){x:Str}(hN:X.N.Nodup)(he:ZE X e f)(hi:X.N[i]?=some x:=by rfl)(hx:Loc X.env.scope x:=by first | exact Or.inl rfl | exact Or.inr rfl)(hs:swapsWith e (some (.Name x pos')) pos.line X.env=pure false:=by rfl)(hf:X.fn x=true\/X.env.scope.names.lookup x=some .local:=by first | exact .inl rfl | exact .inr rfl):ZS X (.Assign [.Name x pos'] e pos) (sSet i f):=⟨Yzi i hN he.un hi hx hs hf⟩
theorem Ybr(i:Nat){x:Str}(hN:X.N.Nodup)(he:ZF X e gl)(hi:X.N[i]?=some x:=by rfl)(hx:Loc X.env.scope x:=by first | exact Or.inl rfl | exact Or.inr rfl)(hs:swapsWith e (some (.Name x pos')) pos.line X.env=pure false:=by rfl)(hf:X.fn x=true\/X.env.scope.names.lookup x=some .local:=by first | exact .inl rfl | exact .inr rfl):ZS X (.Assign [.Name x pos'] e pos) (sOwn i gl):=⟨Yzj i hN he.un hi hx hs hf⟩
theorem Yx(he:ZE X e f):ZS X (.Return (some e) pos) (sRet f):=⟨Yzk he.un⟩
theorem Yas{c:Expr}{a b:List Stmt}{fc:Ro->Option Bool}(hc:ZT X c fc)(ha:ZB X a fs)(hb:ZB X b gs):ZS X (.If c a b pos) (sIf fc fs gs):=⟨y1m hc.un ha.un hb.un⟩
theorem Ydn(i:Nat){x:Str}{p2 apos cpos:Pos}(he:ZE X e f)(hN:X.N[i]?=some x:=by rfl)(hv:Vis X.env.scope x:=by first | exact Or.inl rfl | exact Or.inr (Or.inl rfl) | exact Or.inr (Or.inr rfl))(hd:(x==("__debug__":Str))=false:=by decide)(hcd:(x==("__classdict__":Str))=false:=by decide)(hse:swapsWith (.Call (.Attribute (.Name x p2) "append" apos) [e] [] cpos) none pos.line X.env=pure false:=by rfl)(hs:starEach [e] X.env=[(false,eval e X.env)]:=by rfl)(hfew:((backTo cpos (starEach [e] X.env)).all (fun x=>!x.1)&&(backToKw cpos (keywordEach [] X.env)).all (fun x=>x.1.isSome)&&decide ([e].length+([]:List Keyword).length+(if ([]:List Keyword).isEmpty then 0 else 1) < 30))=true:=by rfl)(hline:(apos.endLine==cpos.line)=true:=by rfl)(hbase:attributeBase (.Name x p2) "append" X.env (eval (.Name x p2) X.env)=eval (.Name x p2) X.env:=by rfl):ZS X (.Expr (.Call (.Attribute (.Name x p2) "append" apos) [e] [] cpos) pos) (sMut i f appD):=⟨Yp8 i he.un hN hv hd hcd hse hs hfew hline hbase⟩
theorem Yin{l:Expr}(hl:ZE X l f):ZI X tg l (b1 f Ybd):=⟨Yzm hl.un⟩
theorem Yj2{a:Expr}{ga:Ro->Option (List D)}{p:Pos}(hg:Gl X "range")(hm:X.mg "range"=none)(ha:ZA X [a] ga)(hs:starEach [a] X.env=[(false,eval a X.env)]:=by rfl):ZI X tg (.Call (.Name "range" p) [a] [] pos) (cF ga rng1):=⟨Yqa hg hm ha.un hs⟩
theorem Ybl(i:Nat){x:Str}(hN:X.N.Nodup)(hi:X.N[i]?=some x:=by rfl)(hx:Loc X.env.scope x:=by first | exact Or.inl rfl | exact Or.inr rfl)(hf:X.fn x=true\/X.env.scope.names.lookup x=some .local:=by first | exact .inl rfl | exact .inr rfl):ZG X (.Name x pos) (gSet i):=⟨Ywd i hN hi hx hf⟩
theorem Ytg(i j:Nat){x y:Str}{px py:Pos}{k:Nat}(hc:X.calm=true)(hN:X.N.Nodup)(hi:X.N[i]?=some x:=by rfl)(hj:X.N[j]?=some y:=by rfl)(hx:Loc X.env.scope x:=by first | exact Or.inl rfl | exact Or.inr rfl)(hy:Loc X.env.scope y:=by first | exact Or.inl rfl | exact Or.inr rfl)(hf:X.fn x=true\/X.env.scope.names.lookup x=some .local:=by first | exact .inl rfl | exact .inr rfl)(hf2:X.fn y=true\/X.env.scope.names.lookup y=some .local:=by first | exact .inl rfl | exact .inr rfl):ZG X (.Tuple [.Name x px,.Name y py] k pos) (Ys4 i j):=⟨Ywe i j hc hN hi hj hx hy hf hf2⟩
theorem Ym2{iter:Expr}{body:List Stmt}{gt:D->Ro->Option Ro}(hp:PassesOwn (model X.prog X.w) X.A X.env X.xe)(hc:X.calm=true)(hi:ZI X tg iter gl)(hg:ZG X tg gt)(hb:ZB X body fs)(hs:∀x,foldedSetIterable iter X.env x=pure x:=by intro _;rfl):ZS X (.For tg iter body [] pos) (sFor gl gt fs):=⟨Yzn hp hc hi.un hg.un hb.un hs⟩
theorem Yio :ZIfs X X.K [] tY:=⟨Yqb ⟩
theorem Yge(S:CompSc X.N X.env.scope N src scope)(hc:X.calm=true)(hit:ZI X tg iter gl)(hg:∀cl C fp s H,ZG (Ya5 X scope N cl C fp s H) tg gt)(hi:∀cl C fp s H,ZIfs (Ya5 X scope N cl C fp s H) X.K ifs fc)(he:∀cl C fp s H,ZE (Ya5 X scope N cl C fp s H) elt fe)(hle:∀ρ d ρ1,gt d (capR src ρ)=some ρ1->Le (capR src ρ) ρ1)(hs:∀x,foldedSetIterable iter X.env x=pure x:=by intro _;rfl):ZF X (.ListComp elt [⟨tg,iter,ifs,0⟩] scope pos) (Yjh gl src gt fc fe):=⟨Ywh S hc hit.un (fun cl C fp s H=>(hg cl C fp s H).un) (fun cl C fp s H=>(hi cl C fp s H).un) (fun cl C fp s H=>(he cl C fp s H).un) hle hs⟩
theorem Yj3{x qual:Str}{st:Stmt}{f:Addr}{fd:FuncData}{N ps:List Str}{k n m:Nat}{fb:Ro->Option Out}(F:Fun K x qual st f fd)(S:FnScope N ps (defScope st))(hn:N.length=n)(hm:ps.length=m)(hb:∀(cdv:Value) (A:Around) (outer:List Env) (s:Shared) (H:Hp) (E:XK),Room k (A.deeper (envOfC qual (defScope st) s.heap.objs.size f cdv))->ZB (cxOf CX0 P w K mg base N qual (defScope st) f cdv A outer s H E).nox (defBody st) fb):FnOk P w K mg base CX0 (k+1) f fd ps (spOf K m (runB m n fb)):=Yqc F S hn hm (fun cdv A outer s H E hr=>(hb cdv A outer s H E hr).un)
theorem Yr{j k n:Nat}{x:Str}{p:Pos}{ps:List Str}{fn:List D->Option D}(c:Okf X.prog X.w X.K X.mg X.base j n x ps fn)(hr:Room k X.A)(hg:Gl X x)(ha:ZA X (e::es) ga)(hl:∀ρ l,ga ρ=some l->l.length=n)(hj:j<=k:=by first | exact qu _ | lia)(hdb:(x==("__debug__":Str))=false:=by decide)(he:starEach (e::es) X.env=(false,eval e X.env)::starEach es X.env:=by rfl)(hpl:(backTo pos (starEach es X.env)).any (·.1)=false:=by rfl):ZE X (.Call (.Name x p) (e::es) [] pos) (cC ga fn):=⟨Ys5 c hr hg ha.un hl hj hdb he hpl⟩
theorem Ywq(ha:ZC X a fa)(hb:ZC X b fb):ZE X (.BinOp a .Add b pos) (b2 fa fb addI):=⟨Yzp ha.un hb.un⟩
theorem Ybs(ha:ZC X a fa)(hb:ZC X b fb):ZF X (.BinOp a .Add b pos) (b2 fa fb catD):=⟨Yzq ha.un hb.un⟩
theorem Yc0{T:String}{tn:Str}{p p2:Pos}(ha:ZC X a fa)(hg:Gl X "isinstance")(hg2:Gl X tn)(hm:X.mg "isinstance"=none)(hm2:X.mg tn=none)(hv2:bootBuiltins tn=some (.type T))(hk:Kit T)(hv:bootBuiltins "isinstance"=some (.builtin "isinstance"):=by decide +kernel)(hn2:tn≠"__name__":=by decide)(hd2:(tn==("__debug__":Str))=false:=by decide)(hs:starEach [a,.Name tn p2] X.env=(false,eval a X.env)::starEach [.Name tn p2] X.env:=by rfl)(hs2:starEach [.Name tn p2] X.env=(false,eval (.Name tn p2) X.env)::starEach [] X.env:=by rfl)(hpl:(backTo pos (starEach [.Name tn p2] X.env)).any (·.1)=false:=by rfl):ZE X (.Call (.Name "isinstance" p) [a,.Name tn p2] [] pos) (mB (b1 fa (isiD T))):=⟨Yzr ha.un hg hg2 hm hm2 hv2 hk hv hn2 hd2 hs hs2 hpl⟩
theorem Ym3(hc:X.calm=true)(hg:Gl X "list")(hm:X.mg "list"=none)(hg2:Gl X "reversed")(hm2:X.mg "reversed"=none)(ha:ZC X e f)(hs:starEach [e] X.env=[(false,eval e X.env)]:=by rfl)(he:starEach [.Call (.Name "reversed" p2) [e] [] pos2] X.env=[(false,eval (.Call (.Name "reversed" p2) [e] [] pos2) X.env)]:=by rfl):ZF X (.Call (.Name "list" p) [.Call (.Name "reversed" p2) [e] [] pos2] [] pos) (revF f):=⟨Yo7 hc hg hm hg2 hm2 ha.un hs he⟩
theorem Yj4(i:Nat){x:Str}{p2 apos cpos:Pos}(he:ZE X e f)(hN:X.N[i]?=some x:=by rfl)(hv:Vis X.env.scope x:=by first | exact Or.inl rfl | exact Or.inr (Or.inl rfl) | exact Or.inr (Or.inr rfl))(hd:(x==("__debug__":Str))=false:=by decide)(hcd:(x==("__classdict__":Str))=false:=by decide)(hse:swapsWith (.Call (.Attribute (.Name x p2) "extend" apos) [e] [] cpos) none pos.line X.env=pure false:=by rfl)(hs:starEach [e] X.env=[(false,eval e X.env)]:=by rfl)(hfew:((backTo cpos (starEach [e] X.env)).all (fun x=>!x.1)&&(backToKw cpos (keywordEach [] X.env)).all (fun x=>x.1.isSome)&&decide ([e].length+([]:List Keyword).length+(if ([]:List Keyword).isEmpty then 0 else 1) < 30))=true:=by rfl)(hline:(apos.endLine==cpos.line)=true:=by rfl)(hbase:attributeBase (.Name x p2) "extend" X.env (eval (.Name x p2) X.env)=eval (.Name x p2) X.env:=by rfl):ZS X (.Expr (.Call (.Attribute (.Name x p2) "extend" apos) [e] [] cpos) pos) (sMut i f extD):=⟨Yqm i he.un hN hv hd hcd hse hs hfew hline hbase⟩
theorem Ylt{kvs:List (Str × Str)}(g:GD X.K X.w X.mg x kvs)(hg:Gl X x)(hk:ZC X ke fk)(hs:NoSl ke:=by intro _ _;rfl)(hd:(x==("__debug__":Str))=false:=by decide):ZE X (.Subscript (.Name x px) ke pos) (b1 fk (Ylr kvs)):=⟨Ys9 g hg hk.un hs hd⟩
theorem Ykj{i:Int}(g:GI X.mg x i)(hg:Gl X x)(hd:(x==("__debug__":Str))=false:=by decide):ZE X (.Name x px) (kD (.int i)):=⟨Ywl g hg hd⟩
end
section
variable {X:Cx} {a b c e:Expr} {fa fb fc f:Ro->Option D} {pos:Pos} {st:Stmt}
theorem Yqs{op op':CmpOp}{r r':R2}{g g':D->D->Option Bool}(ho:OpR X (compareOp op) r)(hr:Ye4 X.K r g)(ho':OpR X (compareOp op') r')(hr':Ye4 X.K r' g')(ha:ZC X a fa)(hb:ZC X b fb)(hc:ZC X c fc)(hm:lastMarks [op,op'] [b,c]=false:=by with_unfolding_all rfl):ZE X (.Compare a [op,op'] [b,c] pos) (mB (ch3 fa fb fc g g')):=⟨Yta ho hr ho' hr' ha.un hb.un hc.un hm⟩
theorem Yqt{op op':CmpOp}{r r':R2}{g g':D->D->Option Bool}(ho:OpR X (compareOp op) r)(hr:Ye4 X.K r g)(ho':OpR X (compareOp op') r')(hr':Ye4 X.K r' g')(ha:ZC X a fa)(hb:ZC X b fb)(hc:ZC X c fc)(hm:lastMarks [op,op'] [b,c]=false:=by with_unfolding_all rfl):ZT X (.Compare a [op,op'] [b,c] pos) (ch3 fa fb fc g g'):=⟨Ytb ho hr ho' hr' ha.un hb.un hc.un hm⟩
theorem Ygf :ZS X st nS:=⟨Ytc ⟩
theorem Yqu{lo hi:Option Expr}{fl fh:Option (Ro->Option D)}{p2:Pos}(ha:ZC X a fa)(hl:ZO X lo fl)(hh:ZO X hi fh):ZE X (.Subscript a (.Slice lo hi none p2) pos) (slD fa fl fh):=⟨Ytf ha.un hl.un hh.un⟩
end
theorem Yd6{X:Cx}{e:Expr}{f:Ro->Option Bool}(h:ZW X e f):ZT X e f:=⟨PW.pt h.un⟩
end
section
section
variable {X:Cx} {e:Expr} {f:Ro->Option D} {p p2 pos pos2:Pos}
theorem Yth{a b:Expr}{fa fb:Ro->Option D}(ha:ZC X a fa)(hb:ZC X b fb):ZE X (.BinOp a .Add b pos) (b2 fa fb Yqp):=⟨Ywn ha.un hb.un⟩
end
end
section
variable {K:W.Frag}
def y1r(K:W.Frag)(j:Nat)(x:Option (Option V))(H0 G0:Hp)(F:Ends):Out->Prop
 | .nx ρ'=>∀σ' H' G',SR K H0 G0 σ' H' G' ρ'->σ'[j]?=x->F.nx σ' H'
 | .rt _=>False
 | .bk ρ'=>∀σ' H' G',SR K H0 G0 σ' H' G' ρ'->σ'[j]?=x->F.bk σ' H'
 | .ct ρ'=>∀σ' H' G',SR K H0 G0 σ' H' G' ρ'->σ'[j]?=x->F.ct σ' H'
def sOfK(K:W.Frag)(j:Nat)(f:Ro->Option Out):TS:=fun F σ H=>∃ρ out H0 G0 G,f ρ=some out/\SR K H0 G0 σ H G ρ/\y1r K j σ[j]? H0 G0 F out
structure KS(j:Nat)(X:Cx)(st:Stmt)(f:Ro->Option Out):Prop where
 un:PS X st (sOfK X.K j f)
structure KB(j:Nat)(X:Cx)(sts:List Stmt)(f:Ro->Option Out):Prop where
 un:PSs X sts (sOfK X.K j f)
def sOfR(K:W.Frag)(j r:Nat)(fb:Ro->Option Out):TS:=fun F σ H=>∃ρ ρ' l d H0 G0 G,fb ρ=some (.nx ρ')/\getO j ρ'=some l/\getV r (frz [r] ρ')=some d/\SR K H0 G0 σ H G ρ/\
 ∀v σ' H' G',SR K H0 G0 σ' H' G' (frz [r] ρ')->σ'[j]?=σ[j]?->Rp K G' d v->F.rt v H'
structure KR(j r:Nat)(X:Cx)(sts:List Stmt)(f:Ro->Option Out):Prop where
 un:PSs X sts (sOfR X.K j r f)
def sOfL(K:W.Frag)(gl:Ro->Option (List D))(fb:Ro->Option Out):TS:=fun F σ H=>∃ρ ρ' l H0 G0 G,fb ρ=some (.nx ρ')/\gl ρ'=some l/\SR K H0 G0 σ H G ρ/\
 ∀p xs H' G',Gr H0 G0 H' G'->H0 p=none->G' p=none->H' p=some (.lst xs)->RpL K G' l xs->F.rt (.ref p) H'
structure KL(gl:Ro->Option (List D))(X:Cx)(sts:List Stmt)(f:Ro->Option Out):Prop where
 un:PSs X sts (sOfL X.K gl f)
theorem len1{us:List Value}(h:us.length=1):∃a0,us=[a0]:=List.length_eq_one_iff.mp h
theorem len2{us:List Value}(h:us.length=2):∃a0 a1,us=[a0,a1]:=by
 cases us with
 | nil=>cases h
 | cons a us=>
   obtain⟨b0,rfl⟩:=len1 (Nat.succ.inj h)
   exact⟨a,b0,rfl⟩
theorem len3{us:List Value}(h:us.length=3):∃a0 a1 a2,us=[a0,a1,a2]:=by
 cases us with
 | nil=>cases h
 | cons a us=>
   obtain⟨b0,b1,rfl⟩:=len2 (Nat.succ.inj h)
   exact⟨a,b0,b1,rfl⟩
theorem len4{us:List Value}(h:us.length=4):∃a0 a1 a2 a3,us=[a0,a1,a2,a3]:=by
 cases us with
 | nil=>cases h
 | cons a us=>
   obtain⟨b0,b1,b2,rfl⟩:=len3 (Nat.succ.inj h)
   exact⟨a,b0,b1,b2,rfl⟩
theorem len5{us:List Value}(h:us.length=5):∃a0 a1 a2 a3 a4,us=[a0,a1,a2,a3,a4]:=by
 cases us with
 | nil=>cases h
 | cons a us=>
   obtain⟨b0,b1,b2,b3,rfl⟩:=len4 (Nat.succ.inj h)
   exact⟨a,b0,b1,b2,b3,rfl⟩
theorem len6{us:List Value}(h:us.length=6):∃a0 a1 a2 a3 a4 a5,us=[a0,a1,a2,a3,a4,a5]:=by
 cases us with
 | nil=>cases h
 | cons a us=>
   obtain⟨b0,b1,b2,b3,b4,rfl⟩:=len5 (Nat.succ.inj h)
   exact⟨a,b0,b1,b2,b3,b4,rfl⟩
theorem len7{us:List Value}(h:us.length=7):∃a0 a1 a2 a3 a4 a5 a6,us=[a0,a1,a2,a3,a4,a5,a6]:=by
 cases us with
 | nil=>cases h
 | cons a us=>
   obtain⟨b0,b1,b2,b3,b4,b5,rfl⟩:=len6 (Nat.succ.inj h)
   exact⟨a,b0,b1,b2,b3,b4,b5,rfl⟩
end
end M
namespace M
open PySem L2
theorem nr{α:Sort _}{a b:α}(h:a=b):a=b:=h
section
variable {ρ:Ro}
@[simp] theorem ap_b2{α:Type}(fa fb:Ro->Option D)(g:D->D->Option α):b2 fa fb g ρ=(fa ρ).bind fun x=>(fb ρ).bind fun y=>g x y:=nr rfl
@[simp] theorem ap_b1{α:Type}(fa:Ro->Option D)(g:D->Option α):b1 fa g ρ=(fa ρ).bind g:=nr rfl
@[simp] theorem ap_kD(d:D):kD d ρ=some d:=nr rfl
@[simp] theorem ap_mB(f:Ro->Option Bool):mB f ρ=(f ρ).map D.bl:=nr rfl
@[simp] theorem ap_andT(f g:Ro->Option Bool):andT f g ρ=(f ρ).bind fun k=>if k=true then g ρ else some false:=nr rfl
@[simp] theorem ap_orT(f g:Ro->Option Bool):orT f g ρ=(f ρ).bind fun k=>if k=true then some true else g ρ:=nr rfl
@[simp] theorem ap_notT(f:Ro->Option Bool):notT f ρ=(f ρ).map (!·):=nr rfl
@[simp] theorem ap_andV(f g:Ro->Option D):andV f g ρ=((f ρ).bind blD).bind fun k=>if k=true then g ρ else some (.bl false):=nr rfl
@[simp] theorem ap_notV(f:Ro->Option D):notV f ρ=((f ρ).bind blD).map fun k=>.bl (!k):=nr rfl
@[simp] theorem ap_ifV(c:Ro->Option Bool)(f g:Ro->Option D):ifV c f g ρ=(c ρ).bind fun k=>if k=true then f ρ else g ρ:=nr rfl
@[simp] theorem ap_lF(f:Ro->Option (List D)):lF f ρ=(f ρ).map D.lst:=nr rfl
@[simp] theorem ap_aNil:aNil ρ=some []:=nr rfl
@[simp] theorem ap_aCons(f:Ro->Option D)(g:Ro->Option (List D)):Yj f g ρ=(f ρ).bind fun d=>(g ρ).map (d::·):=nr rfl
@[simp] theorem ap_dTup(f:Ro->Option (List D)):dTup f ρ=(f ρ).bind fun l=>if l.length<=cap6 then some (.tup l)else none:=nr rfl
@[simp] theorem ap_dLst(f:Ro->Option (List D)):dLst f ρ=(f ρ).bind fun l=>if l.length<=cap6 then some l else none:=nr rfl
@[simp] theorem ap_cC(f:Ro->Option (List D))(g:List D->Option D):cC f g ρ=(f ρ).bind g:=nr rfl
@[simp] theorem ap_cF(f:Ro->Option (List D))(g:List D->Option (List D)):cF f g ρ=(f ρ).bind g:=nr rfl
@[simp] theorem ap_optN:optI none ρ=some none:=nr rfl
@[simp] theorem ap_optS(f:Ro->Option D):optI (some f) ρ=((f ρ).bind intD).map some:=nr rfl
@[simp] theorem ap_sNil:sNil ρ=some (.nx ρ):=nr rfl
@[simp] theorem ap_sSet(i:Nat)(f:Ro->Option D):sSet i f ρ=(f ρ).map fun d=>.nx (ρ.set i (some (.sh d))):=nr rfl
@[simp] theorem ap_sOwn(i:Nat)(f:Ro->Option (List D)):sOwn i f ρ=(f ρ).map fun l=>.nx (ρ.set i (some (.ow l))):=nr rfl
@[simp] theorem ap_sRet(f:Ro->Option D):sRet f ρ=(f ρ).map .rt:=nr rfl
@[simp] theorem ap_sIf(c:Ro->Option Bool)(f g:Ro->Option Out):sIf c f g ρ=(c ρ).bind fun k=>if k=true then f ρ else g ρ:=nr rfl
@[simp] theorem ap_sMut(i:Nat)(f:Ro->Option D)(g:List D->D->Option (List D)):sMut i f g ρ=(getO i ρ).bind fun l=>(f ρ).bind fun d=>(g l d).map fun l'=>.nx (ρ.set i (some (.ow l'))):=nr rfl
@[simp] theorem ap_sFor(gl:Ro->Option (List D))(gt:D->Ro->Option Ro)(fb:Ro->Option Out):sFor gl gt fb ρ=(gl ρ).bind fun ds=>forM gt fb ds ρ:=nr rfl
@[simp] theorem ap_fComp(gl:Ro->Option (List D))(src:List (Option Nat))(gt:D->Ro->Option Ro)(fc:Ro->Option Bool)(fe:Ro->Option D):Yjh gl src gt fc fe ρ=(gl ρ).bind fun ds=>Yjg gt fc fe (capR src ρ) ds:=nr rfl
@[simp] theorem ap_wF(is:List Nat)(f:Ro->Option Out):wF is f ρ=f (frz is ρ):=nr rfl
def Ywr(g:Ro->Option Out):Out->Option Out
 | .nx ρ'=>g ρ'
 | o=>some o
@[simp] theorem thenS_nx(g:Ro->Option Out)(ρ':Ro):Ywr g (.nx ρ')=g ρ':=nr rfl
@[simp] theorem thenS_rt(g:Ro->Option Out)(d:D):Ywr g (.rt d)=some (.rt d):=nr rfl
@[simp] theorem ap_sSeq(f g:Ro->Option Out):sSeq f g ρ=(f ρ).bind (Ywr g):=nr rfl
def endB:Out->Option D
 | .rt d=>some d
 | .nx _=>some .non
 | _=>none
@[simp] theorem endB_rt(d:D):endB (.rt d)=some d:=nr rfl
theorem Yat{k n:Nat}{fb:Ro->Option Out}{ds:List D}(h:ds.length=k):runB k n fb ds=(fb (Yq n ds)).bind endB:=by
 unfold runB
 rw[if_pos h]
 rfl
end
@[simp] theorem add_int'(i j:Int):addI (.int i) (.int j)=some (.int (i+j)):=nr rfl
@[simp] theorem sub_int'(i j:Int):subI (.int i) (.int j)=some (.int (i - j)):=nr rfl
theorem Ykk{i j:Int}(h:-(2 ^ 64) < i/\i < 2 ^ 64):mulI (.int i) (.int j)=some (.int (i * j)):=by
 simp only[mulI,i2]
 rw[if_pos]
 simp only[Bool.or_eq_true,Qg,decide_eq_true_eq]
 exact .inl h
@[simp] theorem div_int'{i j:Int}(h:0 < j)(h':j < 1073741824):divI (.int i) (.int j)=some (.int (i / j)):=by
 simp only[divI,i2]
 rw[if_pos]
 simp only[Qg,decide_eq_true_eq]
 exact⟨h,h'⟩
@[simp] theorem Ylu{i j:Int}(h:0 < j):modI (.int i) (.int j)=some (.int (i % j)):=by
 simp only[modI,i2]
 rw[if_pos]
 simp only[decide_eq_true_eq]
 exact h
@[simp] theorem lt_int'(i j:Int):ltI (.int i) (.int j)=some (decide (i < j)):=nr rfl
@[simp] theorem le_int'(i j:Int):leI (.int i) (.int j)=some (decide (i<=j)):=nr rfl
@[simp] theorem gt_int'(i j:Int):gtI (.int i) (.int j)=some (decide (j < i)):=nr rfl
@[simp] theorem blD_bl(b:Bool):blD (.bl b)=some b:=nr rfl
@[simp] theorem truD_bl(b:Bool):truD (.bl b)=some b:=nr rfl
@[simp] theorem itemsOf_tup(l:List D):Ybd (.tup l)=some l:=nr rfl
@[simp] theorem itemsOf_lst(l:List D):Ybd (.lst l)=some l:=nr rfl
@[simp] theorem lenC_one(c:D):lenC [c]=(Ybd c).map fun l=>.int l.length:=nr rfl
@[simp] theorem tupC_one(c:D):tupC [c]=(Ybd c).map D.tup:=nr rfl
@[simp] theorem intC_bl(b:Bool):intC [.bl b]=some (.int (if b then 1 else 0)):=nr rfl
@[simp] theorem Yws(c:D)(i:Int):ixD c (.int i)=(Ybd c).bind fun l=>atI l i:=nr rfl
@[simp] theorem intD_int(i:Int):intD (.int i)=some i:=nr rfl
@[simp] theorem Ywt(i j:Int):eqD (.int i) (.int j)=(i==j):=by simp[eqD,toPy,PyData.eqv]
@[simp] theorem Yzy(i j:Bool):eqD (.bl i) (.bl j)=(i==j):=by simp[eqD,toPy,PyData.eqv]
@[simp] theorem Ywu(i j:Str):eqD (.str i) (.str j)=(i==j):=by simp[eqD,toPy,PyData.eqv]
@[simp] theorem dep_int(i:Int):dep (.int i)=0:=by simp[dep]
@[simp] theorem dep_bl(i:Bool):dep (.bl i)=0:=by simp[dep]
@[simp] theorem dep_str(i:Str):dep (.str i)=0:=by simp[dep]
@[simp] theorem dep_non:dep .non=0:=by simp[dep]
@[simp] theorem Yfn(l:List D):dep (.tup l)=depL l+1:=by simp[dep]
@[simp] theorem depL_nil:depL []=0:=by simp[depL]
@[simp] theorem Ylv(d:D)(l:List D):depL (d::l)=max (dep d) (depL l):=by simp[depL]
theorem Yoa{neg:Bool}{d e:D}(h:dep d<=60)(h':dep e<=60):eqM neg d e=some (if neg then !eqD d e else eqD d e):=by
 unfold eqM
 rw[if_pos ⟨h,h'⟩]
theorem Ylw{gt:D->Ro->Option Ro}{fc:Ro->Option Bool}{fe:Ro->Option D}{ρ:Ro}{α:Type}(enc:α->D)(p:α->Bool)(f:α->D):∀(l:List α),(∀a∈l,∃ρ1,gt (enc a) ρ=some ρ1/\fc ρ1=some (p a)/\(p a=true->fe ρ1=some (f a)))->
 Yjg gt fc fe ρ (l.map enc)=some ((l.filter p).map f)
 | [],_=>rfl
 | a::l,h=>by
   obtain⟨ρ1,h1,h2,h3⟩:=h a qh
   have ih:=Ylw enc p f l fun b hb=>h b (qg _ hb)
   rw[qy,Yjg,h1,qd,h2,qd]
   cases hp:p a with
   | true=>
     rw[if_pos rfl,h3 hp,qd,ih,List.filter_cons_of_pos hp]
     rfl
   | false=>rw[if_neg qi,ih,List.filter_cons_of_neg (by rw[hp];exact qi)]
@[simp] theorem Yti{α:Type}(a:α)(l:List α):atI (a::l) 0=some a:=by
 have:=Yka (xs:=a::l) (j:=0) (v:=a) rfl
 simpa using this
@[simp] theorem atI_one{α:Type}(a b:α)(l:List α):atI (a::b::l) 1=some b:=by
 have:=Yka (xs:=a::b::l) (j:=1) (v:=b) rfl
 simpa using this
theorem Yzz{α:Type}{l:List α}{i:Int}{j:Nat}{v:α}(hi:i=(j:Int))(h:l[j]?=some v):atI l i=some v:=by
 subst hi
 exact Yka h
theorem Yhy{gt:D->Ro->Option Ro}{fb:Ro->Option Out}{α:Type}(enc:α->D)(I:List α->Ro->Prop):∀(l pre:List α) (ρ:Ro),I pre ρ->
 (∀q a r ρ,pre++l=q++a::r->I q ρ->∃ρ1 ρ2,gt (enc a) ρ=some ρ1/\fb ρ1=some (.nx ρ2)/\I (q++[a]) ρ2)->∃ρ',M.forM gt fb (l.map enc) ρ=some (.nx ρ')/\I (pre++l) ρ'
 | [],pre,ρ,h0,_=>⟨ρ,rfl,by rw[List.append_nil];exact h0⟩
 | a::l,pre,ρ,h0,hs=>by
   obtain⟨ρ1,ρ2,e1,e2,h2⟩:=hs pre a l ρ rfl h0
   obtain⟨ρ',e3,h3⟩:=Yhy enc I l (pre++[a]) ρ2 h2 fun q b r ρ e hI=>hs q b r ρ (by rw[<-e,Qc];rfl) hI
   refine⟨ρ',?_,by rw[Qc]at h3;exact h3⟩
   rw[qy,M.forM,e1,qd,e2,qd]
   exact e3
theorem Ym4(a n:Int):rngD a n=(List.range (n - a).toNat).map fun i=>D.int (a+(i:Nat)):=rfl
theorem Ykl{n:Int}(h:-1000000<=n)(h':n<=1000000):rng1 [.int n]=some (rngD 0 n):=by
 have hcap:(cap6:Int)=1000000:=by decide
 simp only[rng1]
 rw[if_pos]
 simp only[Qg,decide_eq_true_eq]
 lia
theorem Ytj{α:Type}{l:List α}{i:Nat}(h:i < l.length):atI l (i:Int)=some l[i]:=Yka (qr h)
end M
namespace M
open PySem L2
@[simp] theorem nat_eq_iff(x b:Nat):((x:Int)=(b:Int))↔x=b:=by lia
@[simp] theorem eqM_int(neg:Bool)(i j:Int):eqM neg (.int i) (.int j)=some (if neg then !decide (i=j)else decide (i=j)):=by
 rw[Yoa (by simp) (by simp),Ywt];rfl
@[simp] theorem eqM_bl(neg:Bool)(i j:Bool):eqM neg (.bl i) (.bl j)=some (if neg then !(i==j)else i==j):=by
 rw[Yoa (by simp) (by simp),Yzy]
@[simp] theorem isN_non(neg:Bool):isN neg .non .non=some (if neg then false else true):=by cases neg<;>rfl
@[simp] theorem isN_int(neg:Bool)(i:Int):isN neg (.int i) .non=some (if neg then true else false):=by cases neg<;>rfl
@[simp] theorem isN_bl(neg:Bool)(l:Bool):isN neg (.bl l) .non=some (if neg then true else false):=by cases neg<;>rfl
@[simp] theorem Ytk{α:Type}(f:α->Bool):∀l:List α,blsD (l.map fun a=>.bl (f a))=some (l.map f)
 | []=>rfl
 | a::l=>by rw[qy,blsD,Ytk f l];rfl
@[simp] theorem Ylx{α:Type}(f:α->Int):∀l:List α,Yfl (l.map fun a=>.int (f a))=some (l.map f)
 | []=>rfl
 | a::l=>by rw[qy,Yfl,Ylx f l];rfl
@[simp] theorem allC_lst(l:List D):allC [.lst l]=(blsD l).map fun bs=>.bl (bs.all id):=nr rfl
@[simp] theorem cap6_eq:cap6=1000000:=nr rfl
@[simp] theorem gV0(d:D)(r:Ro):getV 0 (some (.sh d)::r)=some d:=nr rfl
@[simp] theorem gC0(d:D)(r:Ro):getC 0 (some (.sh d)::r)=some d:=nr rfl
@[simp] theorem gC0o(l:List D)(r:Ro):getC 0 (some (.ow l)::r)=some (.lst l):=nr rfl
@[simp] theorem gO0(l:List D)(r:Ro):getO 0 (some (.ow l)::r)=some l:=nr rfl
@[simp] theorem gVs(n:Nat)(b:Option B)(r:Ro):getV (n+1) (b::r)=getV n r:=by simp[getV]
@[simp] theorem gCs(n:Nat)(b:Option B)(r:Ro):getC (n+1) (b::r)=getC n r:=by simp[getC]
@[simp] theorem gOs(n:Nat)(b:Option B)(r:Ro):getO (n+1) (b::r)=getO n r:=by simp[getO]
theorem Yqv{fe:Ro->Option D}{r:Ro}{α:Type}{enc:α->D}(f:α->D){l:List α}(h:∀a∈l,fe (some (.sh (enc a))::r)=some (f a)):Yjg (gSet 0) tY fe (none::r) (l.map enc)=some (l.map f):=by
 have:=Ylw (gt:=gSet 0) (fc:=tY) (fe:=fe) (ρ:=none::r) enc (fun _=>true) f l fun a ha=>⟨_,rfl,rfl,fun _=>h a ha⟩
 rw[List.filter_eq_self.mpr (fun _ _=>rfl)]at this
 exact this
end M
namespace Bk
open PySem L2 M
abbrev Say:=Nat × Bool
inductive Kd where
 | e | s | i | n
 deriving DecidableEq
inductive Rl where
 | ei (l:List Say)
 | su (b:List Nat) (o:Bool)
 | im (b:List Nat) (h:Option Nat)
 deriving DecidableEq
abbrev nD(n:Nat):D:=.int n
def sayD(s:Say):D:=.tup [.int s.1,.bl s.2]
def optD:Option Nat->D
 | none=>.non
 | some n=>.int n
@[simp] theorem dep_say(s:Say):dep (sayD s)=1:=by simp[sayD]
@[simp] theorem dep_opt(h:Option Nat):dep (optD h)=0:=by cases h<;>simp[optD]
theorem Yqw:∀{l:List D} {d:D},d∈l->dep d<=depL l
 | e::l,d,h=>by
   rw[Ylv]
   rcases qt h with rfl | h
   ·exact Nat.le_max_left _ _
   ·exact qx (Yqw h) (Nat.le_max_right _ _)
theorem Yip{n:Nat}:∀{l:List D},(∀d∈l,dep d<=n)->depL l<=n
 | [],_=>by simp
 | d::l,h=>by
   rw[Ylv]
   exact Nat.max_le.mpr ⟨h d qh,Yip fun e he=>h e (qg _ he)⟩
theorem Ym5{α:Type}{enc:α->D}{n:Nat}(h:∀a,dep (enc a)<=n)(l:List α):depL (l.map enc)<=n:=Yip fun d hd=>by
 obtain⟨x,_,rfl⟩:=List.mem_map.mp hd
 exact h x
def at'(ev:List Bool)(n:Nat):Bool:=ev.getD n false
def In(k:Kd)(n:Nat):Rl->Prop
 | .ei l=>k=.e/\∀s∈l,s.1 < n
 | .su b _=>k=.s/\∀x∈b,x < n
 | .im b h=>(k=.i\/k=.n)/\(∀x∈b,x < n)/\∀x,h=some x->x < n
def hd(ev:List Bool)(w:Bool):Option Nat->Bool
 | none=>false
 | some x=>at' ev x==w
def nth(R:List Rl)(i:Nat):Rl:=R.getD i (.ei [])
def so(k:Kd)(ev:List Bool):Rl->Bool
 | .ei l=>l.any fun s=>at' ev s.1==s.2
 | .su b o=>decide ((b.filter (at' ev)).length % 2=1)==o
 | .im b h=>(b.any fun x=>at' ev x != decide (k=.i))||hd ev (decide (k=.i)) h
end Bk
namespace Bk
def brk(k:Kd)(ev:List Bool)(R:List Rl):List Nat:=(List.range R.length).filter fun i=>!so k ev (nth R i)
end Bk
namespace Bk
open PySem L2 M
mutual
def Pl:D->Prop
 | .tup l=>l.length<=1000000/\PlL l
 | .lst _=>False
 | .scr _=>False
 | .dct _ _ _=>False
 | .obj _ _ _=>False
 | .adr _=>False
 | _=>True
def PlL:List D->Prop
 | []=>True
 | d::l=>Pl d/\PlL l
end
theorem PlL_iff:∀{l:List D},PlL l↔∀d∈l,Pl d
 | []=>by simp[PlL]
 | d::l=>by simp[PlL,PlL_iff (l:=l)]
def sz:Rl->Nat
 | .ei l=>l.length
 | .su b _=>b.length
 | .im b _=>b.length
end Bk
namespace Bk
end Bk
namespace Bk
open PySem L2 M
end Bk
namespace M
open PySem PySem.Spec PyProof.Rows L2
section
variable {K:W.Frag}
def fldD(c f:Str):D->Option D
 | .obj c' ks vs=>if c'=c then (ks.zip vs).lookup f else none
 | _=>none
def CF(K:W.Frag)(c f:Str):Prop:=∀C,W.nsIn K mainGlobals c=some (some (.ref C))->Cls K C/\NoAttr K C f
theorem RpL.look{G:Hp}{f:Str}:∀{ks:List Str} {vs:List D} {xs:List V} {d:D},RpL K G vs xs->(ks.zip vs).lookup f=some d->∃v,(ks.zip xs).lookup f=some v/\Rp K G d v
 | [],_,_,_,_,e=>by simp at e
 | _::_,[],_,_,_,e=>by simp at e
 | k::ks,d'::vs,xs,d,r,e=>by
   rw[RpL]at r
   obtain⟨x,xs',rfl,g,q⟩:=r
   rw[List.zip_cons_cons,Qb]at e ⊢
   cases h:(f==k)with
   | true=>
     rw[h]at e
     cases e
     exact⟨x,rfl,g⟩
   | false=>
     rw[h]at e
     exact RpL.look q e
section
variable {X:Cx} {e o:Expr} {fa fo:Ro->Option D} {pos apos:Pos} {c f:Str}
theorem Yz0(k:CF X.K c f)(he:ME X e fa)(hb:attributeBase e f X.env (eval e X.env)=eval e X.env:=by rfl):ME X (.Attribute e f pos) (b1 fa (fldD c f)):=
 PE.imp (Yyd he hb) fun σ H Q hx_=>by
  obtain⟨ρ,d,H0,G0,G,e,s,h⟩:=hx_
  obtain⟨x,h1,h2⟩:=Ya3 e
  refine tOf.at h1 s fun v H1 G1 g1 r1 s1=>?_
  cases x with
  | obj c' ks vs=>
    change (if c'=c then (ks.zip vs).lookup f else none)=some d at h2
    by_cases hc:c'=c
    ·rw[if_pos hc]at h2
     subst hc
     rw[Rp]at r1
     obtain⟨a,C,dx,xs,rfl,n,g,l,q⟩:=r1
     obtain⟨v,hv,rv⟩:=q.look h2
     exact⟨a,C,dx,_,v,rfl,s1.seen _ _ g,(k C n).1,(k C n).2,hv,h v H1 G1 g1 rv⟩
    ·rw[if_neg hc]at h2
     cases h2
  | _=>cases h2
def Okm(P:Program)(w:World)(K:W.Frag)(mg:Str->Option Value)(base:Heap)(k:Nat)(c m:Str)(ps:List Str)(sp:Sp):Prop:=
 ∃C f fd,FnOk P w K mg base CX0 k f fd ps sp/\Binds K fd ps []/\W.nsIn K mainGlobals c=some (some (.ref C))/\Cls K C/\Meth K C m f
theorem Yqx{f:Str}:∀{ks:List Str} {xs:List V},f∉ks->(ks.zip xs).lookup f=none
 | [],_,_=>by simp
 | _::_,[],_=>by simp
 | k::ks,x::xs,h=>by
   rw[List.zip_cons_cons,Qb]
   have h1:(f==k)=false:=by
    rw[beq_eq_false_iff_ne]
    exact fun z=>h (by rw[z];exact qh)
   rw[h1]
   exact Yqx fun z=>h (qg _ z)
end
end
section
variable {K:W.Frag}
inductive OutW (τ:Type) where
 | nx (ρ:Ro) (t:τ) | rt (d:D) (t:τ) | bk (ρ:Ro) (t:τ) | ct (ρ:Ro) (t:τ)
def Off(l:Addr)(H H':Hp):Prop:=∀a,a≠l->H' a=H a
theorem Off.trans{l:Addr}{H H' H'':Hp}(a:Off l H H')(b:Off l H' H''):Off l H H'':=fun x hx=>(b x hx).trans (a x hx)
structure WR(K:W.Frag)(l:Addr)(o:HO)(H0 G0:Hp)(σ:L2.St)(H G:Hp)(ρ:Ro):Prop where
 sr:SR K H0 G0 σ H G ρ
 g0:G0 l=none
 h0:H0 l=some o
def y1s{τ:Type}(rep:τ->HO)(K:W.Frag)(l:Addr)(H0 G0:Hp)(F:Ends):OutW τ->Prop
 | .nx ρ' t=>∀σ' H' G' H1,Off l H0 H1->WR K l (rep t) H1 G0 σ' H' G' ρ'->F.nx σ' H'
 | .rt d t=>∀v H' G' H1,Off l H0 H1->H1 l=some (rep t)->Gr H1 G0 H' G'->Rp K G' d v->F.rt v H'
 | .bk ρ' t=>∀σ' H' G' H1,Off l H0 H1->WR K l (rep t) H1 G0 σ' H' G' ρ'->F.bk σ' H'
 | .ct ρ' t=>∀σ' H' G' H1,Off l H0 H1->WR K l (rep t) H1 G0 σ' H' G' ρ'->F.ct σ' H'
section
variable {τ:Type} {rep:τ->HO} {l:Addr} {H0 G0 H G H1:Hp} {σ:L2.St} {ρ:Ro} {o:HO} {F:Ends}
theorem WR.no(w:WR K l o H0 G0 σ H G ρ):G l=none:=by
 cases h:G l with
 | none=>rfl
 | some u=>
   have:=w.sr.gr.n l w.g0 (by rw[h];exact fun z=>nomatch z)
   rw[w.h0]at this
   cases this
theorem WR.at(w:WR K l o H0 G0 σ H G ρ):H l=some o:=w.sr.gr.h _ _ w.h0
theorem WR.put(w:WR K l o H0 G0 σ H G ρ)(o':HO):WR K l o' (upd H0 l o') G0 σ (upd H l o') G ρ:=by
 have gl:=w.no
 have ne:∀{a:Addr},H0 a=none->a≠l:=fun h z=>by rw[z,w.h0]at h;cases h
 have s:=w.sr
 refine⟨⟨⟨fun b u e=>?_,s.gr.g,fun b u e=>?_,fun a h h'=>?_⟩,s.len,s.sh,fun i m e=>?_,s.ap,fun i t ks vs e=>?_,s.apd⟩,w.g0,Ym⟩
 ·by_cases z:b=l
  ·subst z;rw[Ym]at e ⊢;exact e
  ·rw[Yk z]at e ⊢;exact s.gr.h b u e
 ·rw[Yk (Yv e gl)];exact s.gr.s b u e
 ·have q:=s.gr.n a h h'
  rw[Yk (ne q)];exact q
 ·obtain⟨a,xs,q1,q2,q3,q4,q5⟩:=s.ow i m e
  exact⟨a,xs,q1,q2,by rw[Yk (ne q3)];exact q3,by rw[Yk (ne q3)];exact q4,q5⟩
 ·obtain⟨a,kxs,vxs,q1,q2,q3,q4,q5⟩:=s.od i t ks vs e
  exact⟨a,kxs,vxs,q1,q2,by rw[Yk (ne q3)];exact q3,q4.mono (Same.refl _) fun o z=>by rw[Yk (ne q3)];exact z,q5⟩
theorem Off.put(l:Addr)(H:Hp)(o:HO):Off l H (upd H l o):=fun _ h=>Yk h
theorem SR.rebaseW(s:SR K H0 G0 σ H G ρ)(hg:G l=none){o:HO}(h0:H0 l=some o):∃H1,SR K H1 G σ H G ρ/\H1 l=some o/\∀H2 σ' H' G' ρ',Off l H1 H2->SR K H2 G σ' H' G' ρ'->SR K (fun a=>if a=l then H2 l else H0 a) G0 σ' H' G' ρ':=by
 classical
 let own:Addr->Prop:=fun a=>∃(i:Nat),((∃l:List D,ρ[i]?=some (some (B.ow l)))\/(∃t ks vs,ρ[i]?=some (some (B.od t ks vs))))/\σ[i]?=some (some (V.ref a))
 have hh:∀a,own a->H0 a=none:=fun a ha=>by
  obtain⟨i,e1,e2⟩:=ha
  rcases e1 with⟨l,e1⟩ | ⟨t,ks,vs,e1⟩
  ·obtain⟨b,xs,q1,_,q3,_⟩:=s.ow i l e1
   rw[e2]at q1;cases q1;exact q3
  ·obtain⟨b,kxs,vxs,q1,_,q3,_⟩:=s.od i t ks vs e1
   rw[e2]at q1;cases q1;exact q3
 have hl:¬own l:=fun z=>by
  have:=hh l z
  rw[h0]at this;cases this
 have back:∀a,(if own a then (none:Option HO)else H a)=none->H0 a=none:=fun a h=>by
  by_cases o:own a
  ·exact hh a o
  ·rw[if_neg o]at h;exact s.gr.h.free h
 refine⟨fun a=>if own a then none else H a,⟨⟨fun b o e=>?_,Same.refl _,s.gr.s,fun _ h h'=>absurd h h'⟩,s.len,s.sh,fun i l e=>?_,s.ap,fun i t ks vs e=>?_,s.apd⟩,?_,fun H2 σ' H' G' ρ' f t=>?_⟩
 ·by_cases z:own b
  ·simp only[if_pos z]at e;cases e
  ·simp only[if_neg z]at e;exact e
 ·obtain⟨a,xs,q1,q2,q3,q4,q5⟩:=s.ow i l e
  exact⟨a,xs,q1,q2,if_pos ⟨i,.inl ⟨l,e⟩,q1⟩,q4,q5⟩
 ·obtain⟨a,kxs,vxs,q1,q2,q3,q4⟩:=s.od i t ks vs e
  exact⟨a,kxs,vxs,q1,q2,if_pos ⟨i,.inr ⟨t,ks,vs,e⟩,q1⟩,q4⟩
 ·show(if own l then none else H l)=some o
  rw[if_neg hl];exact s.gr.h _ _ h0
 ·have bk2:∀a,H2 a=none->(if a=l then H2 l else H0 a)=none:=fun a h=>by
   by_cases z:a=l
   ·rw[if_pos z];rw[z]at h;exact h
   ·rw[if_neg z]
    rw[f a z]at h
    exact back a h
  refine⟨⟨fun b u e=>?_,s.gr.g.trans t.gr.g,t.gr.s,fun b h h'=>?_⟩,t.len,t.sh,fun i l e=>?_,t.ap,fun i t1 ks vs e=>?_,t.apd⟩
  ·refine t.gr.h b u ?_
   by_cases z:b=l
   ·simp only[if_pos z]at e;rw[z];exact e
   ·simp only[if_neg z]at e
    rw[f b z]
    have z2:¬own b:=fun q=>by rw[hh b q]at e;cases e
    show(if own b then none else H b)=some u
    rw[if_neg z2];exact s.gr.h b u e
  ·by_cases z:G b=none
   ·exact bk2 b (t.gr.n b z h')
   ·have q:=s.gr.n b h z
    have nl:b≠l:=fun y=>z (by rw[y];exact hg)
    show(if b=l then H2 l else H0 b)=none
    rw[if_neg nl];exact q
  ·obtain⟨a,xs,q1,q2,q3,q4,q5⟩:=t.ow i l e
   exact⟨a,xs,q1,q2,bk2 a q3,q4,q5⟩
  ·obtain⟨a,kxs,vxs,q1,q2,q3,q4⟩:=t.od i t1 ks vs e
   exact⟨a,kxs,vxs,q1,q2,bk2 a q3,q4⟩
end
def sOfW{τ:Type}(rep:τ->HO)(K:W.Frag)(l:Addr)(f:Ro->τ->Option (OutW τ)):TS:=fun F σ H=>∃ρ t out H0 G0 G,f ρ t=some out/\WR K l (rep t) H0 G0 σ H G ρ/\y1s rep K l H0 G0 F out
abbrev WS{τ:Type}(rep:τ->HO)(X:Cx)(l:Addr)(st:Stmt)(f:Ro->τ->Option (OutW τ)):Prop:=PS X st (sOfW rep X.K l f)
abbrev WB{τ:Type}(rep:τ->HO)(X:Cx)(l:Addr)(sts:List Stmt)(f:Ro->τ->Option (OutW τ)):Prop:=PSs X sts (sOfW rep X.K l f)
def Ycj{τ:Type}(f:Ro->Option Out):Ro->τ->Option (OutW τ):=fun ρ t=>(f ρ).map fun
 | .nx ρ'=>.nx ρ' t
 | .rt d=>.rt d t
 | .bk ρ'=>.bk ρ' t
 | .ct ρ'=>.ct ρ' t
def nilW{τ:Type}:Ro->τ->Option (OutW τ):=fun ρ t=>some (.nx ρ t)
def seqW{τ:Type}(f g:Ro->τ->Option (OutW τ)):Ro->τ->Option (OutW τ):=fun ρ t=>(f ρ t).bind fun
 | .nx ρ' t'=>g ρ' t'
 | o=>some o
def ifW{τ:Type}(c:Ro->τ->Option Bool)(f g:Ro->τ->Option (OutW τ)):Ro->τ->Option (OutW τ):=fun ρ t=>(c ρ t).bind fun k=>if k=true then f ρ t else g ρ t
def forW{τ:Type}(gt:D->Ro->Option Ro)(fb:Ro->τ->Option (OutW τ)):List D->Ro->τ->Option (OutW τ)
 | [],ρ,t=>some (.nx ρ t)
 | d::ds,ρ,t=>(gt d ρ).bind fun ρ1=>(fb ρ1 t).bind fun
   | .nx ρ2 t2=>forW gt fb ds ρ2 t2
   | .ct ρ2 t2=>forW gt fb ds ρ2 t2
   | .bk ρ2 t2=>some (.nx ρ2 t2)
   | .rt d t2=>some (.rt d t2)
def Yqy{τ:Type}(gl:Ro->Option (List D))(gt:D->Ro->Option Ro)(fb:Ro->τ->Option (OutW τ)):Ro->τ->Option (OutW τ):=fun ρ t=>(gl ρ).bind fun ds=>forW gt fb ds ρ t
section
variable {τ:Type} {rep:τ->HO} {X:Cx} {l:Addr} {st:Stmt} {sts:List Stmt} {fs gs:Ro->τ->Option (OutW τ)} {pos:Pos} {tg:Expr} {gl:Ro->Option (List D)}
def WT(rep:τ->HO)(X:Cx)(l:Addr)(c:Expr)(f:Ro->τ->Option Bool):Prop:=PT X c fun σ H Q=>∃ρ t k H0 G0 G,f ρ t=some k/\WR X.K l (rep t) H0 G0 σ H G ρ/\∀H' G',Gr H G H' G'->Q k H'
theorem Ydw{gt:D->Ro->Option Ro}{fb:Ro->τ->Option (OutW τ)}:∀(ds:List D) (ρ:Ro) (t:τ) (out:OutW τ),forW gt fb ds ρ t=some out->(∃ρ' t',out=.nx ρ' t')\/∃d t',out=.rt d t'
 | [],ρ,t,out,h=>by cases h;exact .inl ⟨_,_,rfl⟩
 | d::ds,ρ,t,out,h=>by
   rw[forW]at h
   obtain⟨ρ1,h1,h⟩:=qa h
   obtain⟨o,h2,h⟩:=qa h
   cases o with
   | nx ρ2 t2=>exact Ydw ds ρ2 t2 out h
   | ct ρ2 t2=>exact Ydw ds ρ2 t2 out h
   | bk ρ2 t2=>cases h;exact .inl ⟨_,_,rfl⟩
   | rt d t2=>cases h;exact .inr ⟨_,_,rfl⟩
end
end
section
variable {K:W.Frag}
abbrev wl(t:List Bool):HO:=.lst (t.map V.bl)
end
section
variable {K:W.Frag}
end
section
variable {K:W.Frag}
def ifP(p:Prop)(a:Option Out):Option Out:=@ite _ p (Classical.propDecidable p) a none
theorem Yqz{p:Prop}{a:Option Out}(h:p):ifP p a=a:=@if_pos p (Classical.propDecidable p) h _ _ _
theorem Ytl{p:Prop}{a:Option Out}{o:Out}(e:ifP p a=some o):p/\a=some o:=by
 by_cases h:p
 ·rw[Yqz h]at e
  exact⟨h,e⟩
 ·have:ifP p a=none:=@if_neg p (Classical.propDecidable p) h _ _ _
  rw[this]at e
  cases e
end
section
abbrev Wm:=Ro->List Bool->Option (OutW (List Bool))
structure ZWS(X:Cx)(l:Addr)(st:Stmt)(f:Wm):Prop where
 un:WS wl X l st f
structure ZWB(X:Cx)(l:Addr)(sts:List Stmt)(f:Wm):Prop where
 un:WB wl X l sts f
structure ZWT(X:Cx)(l:Addr)(c:Expr)(f:Ro->List Bool->Option Bool):Prop where
 un:WT wl X l c f
section
variable {X:Cx} {l:Addr} {st:Stmt} {sts:List Stmt} {fs gs:Wm} {pos apos:Pos} {tg e o:Expr} {gl:Ro->Option (List D)} {f fa fo:Ro->Option D} {c m:Str}
theorem zuE(h:ZE X e f):PE X e (tOf X.K f):=h.un
theorem Ykm{f:Str}(k:CF X.K c f)(he:ZE X e fa)(hb:attributeBase e f X.env (eval e X.env)=eval e X.env:=by rfl):ZE X (.Attribute e f pos) (b1 fa (fldD c f)):=⟨Yz0 k he.un hb⟩
end
def Mq(K:W.Frag)(c m q:Str)(st:Stmt):Prop:=∃C f fd,W.nsIn K mainGlobals c=some (some (.ref C))/\Cls K C/\Meth K C m f/\Fun K m q st f fd
theorem mq_mk{K:W.Frag}{c m q:Str}{st:Stmt}{C f:Addr}{oc:Value}{od an:Option Addr}{osl:Array (Option Value)}{kV doc pm cdv ct:Value}(a:W.nsIn K mainGlobals c=some (some (.ref C)))(pg:W.plainGet K C Str.empty=true)(hd:W.hasDictIn K C=true)(po:W.plainOver K C=true)(sa:W.findIn K (.ref C) "__setattr__"=some (some (.builtin "object.__setattr__")))
 (i:W.findIn K (.ref C) m=some (some (.ref f))) (n:W.isFn K (.ref f)=true) (l:K.lookup f=some ⟨oc,od,.func (W.fnOf m q (defArgs st) (defBody st) (defScope st) .none kV doc pm an cdv ct),osl⟩) (cd:W.codeIn K cdv q=true) (k:W.keepIn K (.ref f)=true):Mq K c m q st:=
 ⟨C,f,_,a,⟨pg,hd,po,sa⟩,⟨i,n,k⟩,Ynz l cd k⟩
def Nq(K:W.Frag)(c f:Str):Prop:=∃C,W.nsIn K mainGlobals c=some (some (.ref C))/\Cls K C/\NoAttr K C f
theorem nq_mk{K:W.Frag}{c f:Str}{C:Addr}(a:W.nsIn K mainGlobals c=some (some (.ref C)))(pg:W.plainGet K C Str.empty=true)(hd:W.hasDictIn K C=true)(po:W.plainOver K C=true)(sa:W.findIn K (.ref C) "__setattr__"=some (some (.builtin "object.__setattr__")))(n:W.findIn K (.ref C) f=some none):Nq K c f:=
 ⟨C,a,⟨pg,hd,po,sa⟩,n⟩
theorem Nq.cf{K:W.Frag}{c f:Str}(h:Nq K c f):CF K c f:=fun C e=>by
 obtain⟨C',a,cl,n⟩:=h
 rw[a]at e
 cases e
 exact⟨cl,n⟩
def Bnm(x q:Str)(st:Stmt)(ps:List Str):Prop:=∀(kV doc pm:Value) (an:Option Addr) (cdv ct:Value) (us:List Value),us.length=ps.length->bindArgs (W.fnOf x q (defArgs st) (defBody st) (defScope st) .none kV doc pm an cdv ct) ⟨us,[]⟩=pure (ps.zip us)
end
section
theorem Yiq(s:String):PyData.strOk (Str.ofString s)=true:=by
 rw[Str.ofString_eq_toList]
 unfold PyData.strOk
 simp only[List.all_toArray,List.all_map,List.all_eq_true,Function.comp_apply,decide_eq_true_eq]
 intro c _
 have h:=c.valid
 have e:c.toNat=c.val.toNat:=rfl
 rcases h with h | h
 ·have h:c.val.toNat < 0xd800:=h
  lia
 ·have h2:c.val.toNat < 0x110000:=h.2
  lia
theorem Yj5(a b:Str):PyData.strOk (a++b)=(PyData.strOk a&&PyData.strOk b):=by
 show(a.cps++b.cps).all _=_
 unfold PyData.strOk
 rw[Array.all_append]
theorem Yq0{sep:Str}(hs:PyData.strOk sep=true):∀(l:List Str) (acc:Array Nat),PyData.strOk ⟨acc⟩=true->(∀x∈l,PyData.strOk x=true)->PyData.strOk ⟨l.foldl (fun acc p=>acc++sep.cps++p.cps) acc⟩=true
 | [],_,h,_=>h
 | x::l,acc,h,hl=>by
   rw[List.foldl_cons]
   refine Yq0 hs l _ ?_ fun y hy=>hl y (.tail _ hy)
   have e:PyData.strOk ⟨acc++sep.cps++x.cps⟩=PyData.strOk (((⟨acc⟩:Str)++sep)++x):=rfl
   rw[e,Yj5,Yj5,h,hs,hl x (.head _)]
   rfl
theorem Ywv{sep:Str}(hs:PyData.strOk sep=true){l:List Str}(hl:∀x∈l,PyData.strOk x=true):PyData.strOk (Txt.join sep l)=true:=by
 cases l with
 | nil=>show PyData.strOk ⟨Str.empty.cps⟩=true;decide +kernel
 | cons x l=>exact Yq0 hs l x.cps (hl x (.head _)) fun y hy=>hl y (.tail _ hy)
theorem Yq1(a b:Str):(a++b).length=a.length+b.length:=by
 show(a.cps++b.cps).size=_
 rw[Array.size_append]
 rfl
theorem Yob{sep:Str}:∀(l:List Str) (acc:Array Nat),(l.foldl (fun acc p=>acc++sep.cps++p.cps) acc).size=acc.size+(l.map fun x:Str=>sep.length+x.length).sum
 | [],_=>by simp
 | x::l,acc=>by
   rw[List.foldl_cons,Yob l]
   simp[Str.length]
   lia
theorem Ytm(sep:Str)(l:List Str):(Txt.join sep l).length<=(l.map fun x:Str=>sep.length+x.length).sum:=by
 cases l with
 | nil=>exact Nat.zero_le _
 | cons x l=>
   show(l.foldl (fun acc p=>acc++sep.cps++p.cps) x.cps).size<=_
   rw[Yob]
   simp[Str.length]
theorem Yly(sep:Str):∀(l:List Str) (n:Nat),l.foldl (fun(a:Nat) (s:Str)=>a+s.length+sep.length) n=n+(l.map fun x:Str=>sep.length+x.length).sum
 | [],n=>by simp
 | x::l,n=>by
   rw[List.foldl_cons,Yly sep l]
   simp
   lia
theorem Yq2{sep:Str}{l:List Str}(h:(l.map fun x:Str=>sep.length+x.length).sum<=16000000):JoinOk sep l=true:=by
 unfold JoinOk
 rw[Bool.not_eq_true']
 unfold Builtin.Str.tooLong
 rw[List.foldl_toArray,Yly]
 have:=sizeLine_eq
 simp
 lia
def strC:List D->Option D
 | [.int i]=>if i.natAbs < 2 ^ 64 then some (.str (Str.ofString (toString i)))else none
 | _=>none
def Ylz:List D->Option (List Str)
 | []=>some []
 | .str x::l=>(Ylz l).map (x::·)
 | _=>none
def Yl0(sep:Str):List D->Option D
 | [.lst l]=>(Ylz l).bind fun xs=>if JoinOk sep xs=true then some (.str (Txt.join sep xs))else none
 | _=>none
def fsD(x:Str):D->Option D
 | .int i=>if i.natAbs < 2 ^ 64/\(x++Str.ofString (toString i)).length<=1000000 then some (.str (x++Str.ofString (toString i)))else none
 | _=>none
def addS:D->D->Option D
 | .str a,.str b=>if a.length+b.length<=1000000 then some (.str (a++b))else none
 | _,_=>none
def ixS:D->D->Option D
 | .str z,.int i=>if z.length<=1000000 then (atI z.cps.toList i).map fun c=>.str ⟨#[c]⟩else none
 | _,_=>none
theorem Yl1{i:Int}(h:i.natAbs < 2 ^ 64):i.natAbs.log2 < 1920:=by
 by_cases h0:i.natAbs=0
 ·rw[h0];decide
 ·exact Nat.lt_trans ((Nat.log2_lt h0).mpr h) (by decide)
section
variable {K:W.Frag} {X:Cx} {e a b:Expr} {fa fb:Ro->Option D} {ga:Ro->Option (List D)} {pos cpos apos p p2:Pos}
theorem Ycf:SemC K (fun xs H Q=>∃i,xs=[.int i]/\i.natAbs.log2 < 1920/\Q (.str (Str.ofString (toString i))) H) strC:=by
 intro vs ds d H G Q h s r q
 match ds,h,r with
 | [.int i],h,r=>
   change (if i.natAbs < 2 ^ 64 then some (D.str (Str.ofString (toString i)))else none)=some d at h
   by_cases hi:i.natAbs < 2 ^ 64
   ·rw[if_pos hi]at h
    cases h
    obtain⟨v,rfl,rv⟩:=Ydb r
    rw[Ct]at rv
    subst rv
    exact⟨i,rfl,Yl1 hi,q _ H G (.refl s) (by rw[Rp];exact⟨rfl,Yiq _⟩)⟩
   ·rw[if_neg hi]at h
    cases h
theorem Ytn:Sem2 K (fun x y H Q=>∃i j,x=.str i/\y=.str j/\i.length+j.length<=sizeLine/\Q (.str (i++j)) H) addS:=by
 intro x y dx dy d H G Q h s rx ry q
 match dx,dy,h,rx,ry with
 | .str a,.str b,h,rx,ry=>
   change (if a.length+b.length<=1000000 then some (D.str (a++b))else none)=some d at h
   by_cases hi:a.length+b.length<=1000000
   ·rw[if_pos hi]at h
    cases h
    rw[Ct]at rx ry
    have:=sizeLine_eq
    exact⟨a,b,rx.1,ry.1,by lia,q _ H G (.refl s) (by rw[Rp];exact⟨rfl,by rw[Yj5,rx.2,ry.2];rfl⟩)⟩
   ·rw[if_neg hi]at h
    cases h
theorem Yww:Sem2 K rIxS ixS:=by
 intro x y dx dy d H G Q h s rx ry q
 match dx,dy,h,rx,ry with
 | .str z,.int i,h,rx,ry=>
   change (if z.length<=1000000 then (atI z.cps.toList i).map fun c=>D.str ⟨#[c]⟩else none)=some d at h
   by_cases hi:z.length<=1000000
   ·rw[if_pos hi]at h
    obtain⟨c,hc,rfl⟩:=qc h
    rw[Ct]at rx
    rw[Ct]at ry
    have:=sizeLine_eq
    have hok:PyData.strOk ⟨#[c]⟩=true:=by
     have hm:c∈z.cps.toList:=by
      unfold atI at hc
      obtain⟨j,_,hj⟩:=qa hc
      exact List.mem_of_getElem? hj
     have h2:=rx.2
     unfold PyData.strOk at h2 ⊢
     rw[Array.all_eq_true']at h2
     have:=h2 c (Array.mem_toList_iff.mp hm)
     simpa using this
    exact⟨z,i,c,rx.1,ry,by lia,hc,q _ H G (.refl s) (by rw[Rp];exact⟨rfl,hok⟩)⟩
   ·rw[if_neg hi]at h
    cases h
theorem Yg3:∀{l:List D} {ts:List Str},Ylz l=some ts->l=ts.map D.str
 | [],ts,h=>by cases h;rfl
 | d::l,ts,h=>by
   cases d with
   | str x=>
     obtain⟨ts',h1,rfl⟩:=qc h
     rw[qy,<-Yg3 h1]
   | _=>cases h
@[simp] theorem Yir:∀ts:List Str,Ylz (ts.map D.str)=some ts
 | []=>rfl
 | x::ts=>by
   rw[qy,Ylz,Yir ts]
   rfl
theorem Yoc{G:Hp}:∀{ts:List Str} {xs:List V},RpL K G (ts.map D.str) xs->xs=ts.map V.str/\∀x∈ts,PyData.strOk x=true
 | [],xs,r=>by
   rw[List.map_nil,RpL]at r
   exact⟨r,fun _ h=>nomatch h⟩
 | t::ts,xs,r=>by
   rw[qy,RpL]at r
   obtain⟨x,xr,rfl,rx,rr⟩:=r
   rw[Rp]at rx
   obtain⟨h1,h2⟩:=Yoc rr
   exact⟨by rw[rx.1,h1];rfl,fun y hy=>by
    rcases qt hy with rfl | hy
    ·exact rx.2
    ·exact h2 y hy⟩
def y1t(K:W.Frag):V->List V->Hp->VK->Prop:=fun x xs H Q=>∃sep a ts,x=.str sep/\xs=[.ref a]/\SqL K H a (ts.map V.str)/\JoinOk sep ts=true/\Q (.str (Txt.join sep ts)) H
theorem Yl2:∀{ts:List Str} {its:List Value},Vals (ts.map V.str) its->∃l:List (Str × Tok),its=strValues l/\l.map (·.1)=ts
 | [],its,r=>by cases r;exact⟨[],rfl,rfl⟩
 | t::ts,its,r=>by
   cases r with
   | cons r1 r2=>
     obtain⟨tk,rfl⟩:=r1
     obtain⟨l,h1,h2⟩:=Yl2 r2
     exact⟨(t,tk)::l,by rw[h1];rfl,by rw[qy,h2]⟩
theorem Ywx:MtR X "str.join" (y1t X.K):=by
 intro pins s σ H x xs v us Q I rx r h
 obtain⟨sep,a,ts,rfl,rfl,hq,hok,q⟩:=h
 obtain⟨tk,rfl⟩:=rx
 obtain⟨u,rfl,ru⟩:=Yh2 r
 cases ru
 obtain⟨its,rv,pl,hz⟩:=I.list hq
 obtain⟨l,rfl,hl⟩:=Yl2 rv
 exact SC.join pl.isList hl hok fun t' k=>⟨.str _,H,I.tok k,⟨_,rfl⟩,q⟩
theorem Ywy{sep:Str}{j}(ha:MCA X [e] ga)(hx:PyData.strOk sep=true:=by decide +kernel)
 (hbase:attributeBase (.Constant (.str sep) j p) "join" X.env (eval (.Constant (.str sep) j p) X.env)=eval (.Constant (.str sep) j p) X.env:=by rfl)
 (hfew:((backTo cpos (starEach [e] X.env)).all (fun x=>!x.1)&&(backToKw cpos (keywordEach [] X.env)).all (fun x=>x.1.isSome)
  &&decide ([e].length+([]:List Keyword).length+(if ([]:List Keyword).isEmpty then 0 else 1) < 30))=true:=by rfl)
 (hline:(apos.endLine==cpos.line)=true:=by rfl) (hs:starEach [e] X.env=(false,eval e X.env)::starEach [] X.env:=by rfl) (hplain:(backTo cpos (starEach [] X.env)).any (·.1)=false:=by rfl) :
 ME X (.Call (.Attribute (.Constant (.str sep) j p) "join" apos) [e] [] cpos) (cC ga (Yl0 sep)):=
 PE.imp (Ypx F.plainAttrs_str F.slot_str_join F.type_str_join Ywx Yph ha hbase hfew hline hs hplain) fun σ H Q ⟨ρ,d,H0,G0,G,e,s,h⟩=>by
  unfold cC at e
  obtain⟨ds,h1,e⟩:=qa e
  refine⟨rfl,tCAof.at h1 s fun vs H1 G1 g1 r1 s1=>?_⟩
  unfold Yl0 at e
  split at e
  case h_2=>cases e
  rename_i l
  obtain⟨ts,h2,e⟩:=qa e
  by_cases hok:JoinOk sep ts=true
  ·rw[if_pos hok]at e
   cases e
   obtain⟨v,rfl,rv⟩:=Ydb r1
   rw[Ct]at rv
   obtain⟨a,xs,rfl,hq,rl⟩:=rv
   rw[Yg3 h2]at rl
   obtain⟨rfl,hoks⟩:=Yoc rl
   exact⟨sep,a,ts,rfl,rfl,.inl hq,hok,h _ H1 G1 g1 (by rw[Rp];exact⟨rfl,Ywv hx hoks⟩)⟩
  ·rw[if_neg hok]at e
   cases e
theorem y1u{x:Str}{j}(ha:MC X e fa)(hx:PyData.strOk x=true:=by decide +kernel)(hxl:x.length<=1000:=by decide +kernel) :
 ME X (.JoinedStr [.Constant (.str x) j p,.FormattedValue e (-1) none p2] pos) (b1 fa (fsD x)):=by
 intro pins s σ H Q I hq
 obtain⟨ρ,d,H0,G0,G,er,sr,h⟩:=hq
 obtain⟨y,h1,h2⟩:=Ya3 er
 have hsz:=sizeLine_eq
 have hem:(Str.empty++x:Str)=x:=by
  show(⟨Str.empty.cps++x.cps⟩:Str)=x
  have:Str.empty.cps=#[]:=rfl
  rw[this,Array.empty_append]
 refine wpAny_JoinedStr ?_
 show wpAny (model X.prog X.w) X.A (eval (.Constant (.str x) j p) X.env) _ X.xe s
 refine Calls.Constant_str ⟨x,_,rfl,by rw[hem];lia,?_⟩
 rw[hem]
 show wpAny (model X.prog X.w) X.A (eval (.FormattedValue e (-1) none p2) X.env) _ X.xe _
 refine wpAny_FormattedValue_plain (thn (ha pins _ σ H _ (I.tok _) (tCof.at h1 sr fun v H1 G1 g1 r1 s1=>(⟨G1,g1,r1⟩:∃G1,Gr H G H1 G1/\Ct X.K G1 H1 y v))) fun u s2 hx2=>?_)
 obtain⟨v,H2,I2,rv,G2,g2,r2⟩:=hx2
 cases y with
 | int i=>
   change (if i.natAbs < 2 ^ 64/\(x++Str.ofString (toString i)).length<=1000000 then some (D.str (x++Str.ofString (toString i)))else none)=some d at h2
   by_cases hi:i.natAbs < 2 ^ 64/\(x++Str.ofString (toString i)).length<=1000000
   ·rw[if_pos hi]at h2
    cases h2
    rw[Ct]at r2
    subst r2
    obtain⟨t,rfl⟩:=rv
    refine wpAny_formatField_int (Yl1 hi.1) ⟨_,_,rfl,by lia,?_⟩
    exact⟨by lia,.str _,H2,(I2.tok _),⟨_,rfl⟩,h _ H2 G2 g2 (by rw[Rp];exact⟨rfl,by rw[Yj5,hx,Yiq];rfl⟩)⟩
   ·rw[if_neg hi]at h2
    cases h2
 | _=>cases h2
theorem Ywz(ha:MC X a fa)(hb:MC X b fb):ME X (.BinOp a .Add b pos) (b2 fa fb addS):=Yj0 You Ytn ha hb
theorem Yz1(ha:MC X a fa)(hb:MC X b fb)(hs:Ygy b):ME X (.Subscript a b pos) (b2 fa fb ixS):=Yyt Yux Yww ha hb hs
theorem Yod{sep:Str}{j}(ha:ZCA X [e] ga)(hx:PyData.strOk sep=true:=by decide +kernel)
 (hbase:attributeBase (.Constant (.str sep) j p) "join" X.env (eval (.Constant (.str sep) j p) X.env)=eval (.Constant (.str sep) j p) X.env:=by rfl)
 (hfew:((backTo cpos (starEach [e] X.env)).all (fun x=>!x.1)&&(backToKw cpos (keywordEach [] X.env)).all (fun x=>x.1.isSome)
  &&decide ([e].length+([]:List Keyword).length+(if ([]:List Keyword).isEmpty then 0 else 1) < 30))=true:=by rfl)
 (hline:(apos.endLine==cpos.line)=true:=by rfl) (hs:starEach [e] X.env=(false,eval e X.env)::starEach [] X.env:=by rfl) (hplain:(backTo cpos (starEach [] X.env)).any (·.1)=false:=by rfl) :
 ZE X (.Call (.Attribute (.Constant (.str sep) j p) "join" apos) [e] [] cpos) (cC ga (Yl0 sep)):=⟨Ywy ha.un hx hbase hfew hline hs hplain⟩
theorem Yu3{x:Str}{j}(ha:ZC X e fa)(hx:PyData.strOk x=true:=by decide +kernel)(hxl:x.length<=1000:=by decide +kernel) :
 ZE X (.JoinedStr [.Constant (.str x) j p,.FormattedValue e (-1) none p2] pos) (b1 fa (fsD x)):=⟨y1u ha.un hx hxl⟩
theorem Yto(ha:ZC X a fa)(hb:ZC X b fb):ZE X (.BinOp a .Add b pos) (b2 fa fb addS):=⟨Ywz ha.un hb.un⟩
theorem Ym6(ha:ZC X a fa)(hb:ZC X b fb)(hs:Ygy b):ZE X (.Subscript a b pos) (b2 fa fb ixS):=⟨Yz1 ha.un hb.un hs⟩
end
theorem nrT{α:Sort _}{a b:α}(h:a=b):a=b:=h
theorem Ytp(i:Int):strC [.int i]=if i.natAbs < 2 ^ 64 then some (.str (Str.ofString (toString i)))else none:=nrT rfl
theorem Yq3(sep:Str)(l:List D):Yl0 sep [.lst l]=(Ylz l).bind fun xs=>if JoinOk sep xs=true then some (.str (Txt.join sep xs))else none:=nrT rfl
theorem Yw0(x:Str)(i:Int):fsD x (.int i)=if i.natAbs < 2 ^ 64/\(x++Str.ofString (toString i)).length<=1000000 then some (.str (x++Str.ofString (toString i)))else none:=nrT rfl
theorem Ytq(a b:Str):addS (.str a) (.str b)=if a.length+b.length<=1000000 then some (.str (a++b))else none:=nrT rfl
end
section
structure Hid(τ:Type) where
 rep:τ->HO
 side:Hp->Prop
 mono:∀{G G':Hp},Same G G'->side G->side G'
structure WZ{τ:Type}(Z:Hid τ)(K:W.Frag)(l:Addr)(t:τ)(H0 G0:Hp)(σ:L2.St)(H G:Hp)(ρ:Ro):Prop where
 sr:SR K H0 G0 σ H G ρ
 g0:G0 l=none
 h0:H0 l=some (Z.rep t)
 sd:Z.side G0
section
variable {τ:Type} {Z:Hid τ} {K:W.Frag} {l:Addr} {t:τ} {H0 G0 H G H' G':Hp} {σ:L2.St} {ρ:Ro}
theorem WZ.wr(w:WZ Z K l t H0 G0 σ H G ρ):WR K l (Z.rep t) H0 G0 σ H G ρ:=⟨w.sr,w.g0,w.h0⟩
theorem WZ.no(w:WZ Z K l t H0 G0 σ H G ρ):G l=none:=w.wr.no
theorem WZ.at(w:WZ Z K l t H0 G0 σ H G ρ):H l=some (Z.rep t):=w.wr.at
theorem WZ.put(w:WZ Z K l t H0 G0 σ H G ρ)(t':τ):WZ Z K l t' (upd H0 l (Z.rep t')) G0 σ (upd H l (Z.rep t')) G ρ:=⟨(w.wr.put _).sr,w.g0,Ym,w.sd⟩
theorem WZ.grow(w:WZ Z K l t H0 G0 σ H G ρ)(g:Gr H G H' G'):WZ Z K l t H0 G0 σ H' G' ρ:=⟨w.sr.grow g,w.g0,w.h0,w.sd⟩
theorem WZ.seen(w:WZ Z K l t H0 G0 σ H G ρ):Z.side G:=Z.mono w.sr.gr.g w.sd
theorem Off.rfl'{l:Addr}{H:Hp}:Off l H H:=fun _ _=>rfl
end
def ContZ{τ:Type}(Z:Hid τ)(K:W.Frag)(l:Addr)(H0 G0:Hp)(F:Ends):OutW τ->Prop
 | .nx ρ' t=>∀σ' H' G' H1,Off l H0 H1->WZ Z K l t H1 G0 σ' H' G' ρ'->F.nx σ' H'
 | .rt d t=>∀v H' G' H1,Off l H0 H1->H1 l=some (Z.rep t)->Gr H1 G0 H' G'->Rp K G' d v->F.rt v H'
 | .bk ρ' t=>∀σ' H' G' H1,Off l H0 H1->WZ Z K l t H1 G0 σ' H' G' ρ'->F.bk σ' H'
 | .ct ρ' t=>∀σ' H' G' H1,Off l H0 H1->WZ Z K l t H1 G0 σ' H' G' ρ'->F.ct σ' H'
section
variable {τ:Type} {Z:Hid τ} {K:W.Frag} {l:Addr} {H0 G0 H G H1:Hp} {F:Ends}
theorem ContZ.off{out:OutW τ}(f:Off l H0 H1)(c:ContZ Z K l H0 G0 F out):ContZ Z K l H1 G0 F out:=by
 cases out with
 | nx ρ t=>exact fun σ' H' G' H2 g w=>c σ' H' G' H2 (f.trans g) w
 | rt d t=>exact fun v H' G' H2 g w=>c v H' G' H2 (f.trans g) w
 | bk ρ t=>exact fun σ' H' G' H2 g w=>c σ' H' G' H2 (f.trans g) w
 | ct ρ t=>exact fun σ' H' G' H2 g w=>c σ' H' G' H2 (f.trans g) w
end
def sOfZ{τ:Type}(Z:Hid τ)(K:W.Frag)(l:Addr)(f:Ro->τ->Option (OutW τ)):TS:=fun F σ H=>∃ρ t out H0 G0 G,f ρ t=some out/\WZ Z K l t H0 G0 σ H G ρ/\ContZ Z K l H0 G0 F out
abbrev TmV(τ:Type):=Ro->τ->Option (OutW τ)
abbrev TeV(τ:Type):=Ro->τ->Option (D × τ)
abbrev TaV(τ:Type):=Ro->τ->Option (List D × τ)
structure ZTS(X:Cx){τ:Type}(Z:Hid τ)(l:Addr)(st:Stmt)(f:TmV τ):Prop where
 un:PS X st (sOfZ Z X.K l f)
structure ZTB(X:Cx){τ:Type}(Z:Hid τ)(l:Addr)(sts:List Stmt)(f:TmV τ):Prop where
 un:PSs X sts (sOfZ Z X.K l f)
abbrev WSz{τ:Type}(Z:Hid τ)(X:Cx)(l:Addr)(st:Stmt)(f:TmV τ):Prop:=PS X st (sOfZ Z X.K l f)
abbrev WBz{τ:Type}(Z:Hid τ)(X:Cx)(l:Addr)(sts:List Stmt)(f:TmV τ):Prop:=PSs X sts (sOfZ Z X.K l f)
section
variable {τ:Type} {Z:Hid τ} {X:Cx} {l:Addr} {st:Stmt} {sts:List Stmt} {fs gs:TmV τ} {pos:Pos} {tg:Expr} {gl:Ro->Option (List D)}
theorem Yw1{f:Ro->Option Out}(h:MS X st f):WSz Z X l st (Ycj f):=PS.imp h fun F σ H hx_=>by
 obtain⟨ρ,t,out,H0,G0,G,e,w,c⟩:=hx_
 obtain⟨o,h1,rfl⟩:=qc e
 refine⟨ρ,o,H0,G0,G,h1,w.sr,?_⟩
 cases o with
 | nx ρ'=>exact fun σ' H' G' s'=>c σ' H' G' H0 (fun _ _=>rfl) ⟨s',w.g0,w.h0,w.sd⟩
 | rt d=>exact fun v H' G' g r=>c v H' G' H0 (fun _ _=>rfl) w.h0 g r
 | bk ρ'=>exact fun σ' H' G' s'=>c σ' H' G' H0 (fun _ _=>rfl) ⟨s',w.g0,w.h0,w.sd⟩
 | ct ρ'=>exact fun σ' H' G' s'=>c σ' H' G' H0 (fun _ _=>rfl) ⟨s',w.g0,w.h0,w.sd⟩
theorem Yw2:WBz Z X l [] (nilW (τ:=τ)):=PSs.imp Ypi fun F σ H hx_=>by
 obtain⟨ρ,t,out,H0,G0,G,e,w,c⟩:=hx_
 cases e
 exact c σ H G H0 (fun _ _=>rfl) w
theorem Yw3(h:WSz Z X l st fs):WBz Z X l [st] fs:=Ymm h
theorem Ytr(h1:WSz Z X l st fs)(h2:WBz Z X l sts gs):WBz Z X l (st::sts) (seqW fs gs):=PSs.imp (Yf6 h1 h2) fun F σ H hx_=>by
 obtain⟨ρ,t,out,H0,G0,G,e,w,c⟩:=hx_
 unfold seqW at e
 obtain⟨o,h3,e⟩:=qa e
 cases o with
 | nx ρ' t'=>exact⟨ρ,t,.nx ρ' t',H0,G0,G,h3,w,fun σ' H' G' H1 f w'=>⟨ρ',t',out,H1,G0,G',e,w',c.off f⟩⟩
 | rt d t'=>cases e;exact⟨ρ,t,.rt d t',H0,G0,G,h3,w,c⟩
 | bk ρ' t'=>cases e;exact⟨ρ,t,.bk ρ' t',H0,G0,G,h3,w,c⟩
 | ct ρ' t'=>cases e;exact⟨ρ,t,.ct ρ' t',H0,G0,G,h3,w,c⟩
def WTz(Z:Hid τ)(X:Cx)(l:Addr)(c:Expr)(f:Ro->τ->Option Bool):Prop:=PT X c fun σ H Q=>∃ρ t k H0 G0 G,f ρ t=some k/\WZ Z X.K l t H0 G0 σ H G ρ/\∀H' G',Gr H G H' G'->Q k H'
theorem Yts{c:Expr}{f:Ro->Option Bool}(h:MT X c f):WTz Z X l c fun ρ _=>f ρ:=PT.imp h fun σ H Q hx_=>by
 obtain⟨ρ,t,k,H0,G0,G,e,w,c⟩:=hx_
 exact⟨ρ,k,H0,G0,G,e,w.sr,c⟩
theorem Yz2{c:Expr}{a b:List Stmt}{fc:Ro->τ->Option Bool}(hc:WTz Z X l c fc)(ha:WBz Z X l a fs)(hb:WBz Z X l b gs):WSz Z X l (.If c a b pos) (ifW fc fs gs):=PS.imp (Yvo hc ha hb) fun F σ H hx_=>by
 obtain⟨ρ,t,out,H0,G0,G,e,w,c⟩:=hx_
 unfold ifW at e
 obtain⟨k,h1,e⟩:=qa e
 refine⟨ρ,t,k,H0,G0,G,h1,w,fun H1 G1 g1=>?_⟩
 have w1:WZ Z X.K l t H0 G0 σ H1 G1 ρ:=w.grow g1
 cases k with
 | true=>
   rw[if_pos rfl]at e
   exact iteT ⟨ρ,t,out,H0,G0,G1,e,w1,c⟩
 | false=>
   rw[if_neg qi]at e
   exact iteF ⟨ρ,t,out,H0,G0,G1,e,w1,c⟩
theorem Yz3{iter:Expr}{body:List Stmt}{gt:D->Ro->Option Ro}(hp:PassesOwn (model X.prog X.w) X.A X.env X.xe)(hc:X.calm=true)(hi:MI X tg iter gl)(hg:MG X tg gt)(hb:WBz Z X l body fs)
 (hs:∀x,foldedSetIterable iter X.env x=pure x:=by intro _;rfl):WSz Z X l (.For tg iter body [] pos) (Yqy gl gt fs):=
 PS.imp (Ypm hp hc hi hg hb hs) fun F σ H hx_=>by
  obtain⟨ρ,t,out,H0,G0,G,e,w,h⟩:=hx_
  unfold Yqy at e
  obtain⟨ds,h1,h2⟩:=qa e
  refine⟨ρ,ds,H0,G0,G,h1,w.sr,fun J H1 G1 g1 wk=>?_⟩
  have w1:WZ Z X.K l t H0 G0 σ H1 G1 ρ:=w.grow g1
  have hg1:=w1.no
  obtain⟨Hb,sb,hbl,back⟩:=w1.sr.rebaseW hg1 w.h0
  have hout:=Ydw ds ρ t out h2
  have bk:∀{Hc:Hp} {σ':L2.St} {H' G':Hp} {ρ':Ro} {t':τ},Off l Hb Hc->WZ Z X.K l t' Hc G1 σ' H' G' ρ'->∃Hd,Off l H0 Hd/\WZ Z X.K l t' Hd G0 σ' H' G' ρ':=fun {Hc σ' H' G' ρ' t'} f w'=>
   ⟨_,fun a ha=>if_neg ha,back Hc σ' H' G' ρ' f w'.sr,w.g0,by show(if l=l then Hc l else H0 l)=_;rw[if_pos rfl];exact w'.h0,w.sd⟩
  refine⟨fun i m σ' H'=>m=ds.length - i/\i<=ds.length/\∃ρ' t' G' Hc,Off l Hb Hc/\WZ Z X.K l t' Hc G1 σ' H' G' ρ'/\forW gt fs (ds.drop i) ρ' t'=some out,⟨_,rfl,Nat.zero_le _,ρ,t,G1,Hb,fun _ _=>rfl,⟨sb,hg1,hbl,w1.seen⟩,h2⟩,?_⟩
  rintro i m σ' H' ⟨rfl,hi,ρ',t',G',Hc,fc,w',e'⟩
  have W:=wk.2 i H' G' w'.sr.gr.g w'.sr.seen
  by_cases hlt:i < ds.length
  ·have hd:ds[i]?=some ds[i]:=qr hlt
   obtain⟨go,yl⟩:=W.1 _ hd
   rw[List.drop_eq_getElem_cons hlt,forW]at e'
   obtain⟨ρ1,e1,e'⟩:=qa e'
   obtain⟨o,e2,e'⟩:=qa e'
   refine .inr ⟨go,fun σ' H'=>i+1<=ds.length/\∃ρ' t' G' Hc,Off l Hb Hc/\WZ Z X.K l t' Hc G1 σ' H' G' ρ'/\forW gt fs (ds.drop (i+1)) ρ' t'=some out,fun σ2 H2 q=>⟨ds.length - (i+1),by lia,rfl,q.1,q.2⟩,fun x H2 y=>?_⟩
   obtain⟨G2,g2,r2⟩:=yl x H2 y
   refine⟨_,ρ',ρ1,Hc,G1,G2,e1,w'.sr.grow g2,r2,fun σ3 s3=>?_⟩
   refine⟨ρ1,t',o,Hc,G1,G2,e2,⟨s3,hg1,w'.h0,w'.sd⟩,?_⟩
   cases o with
   | nx ρ2 t2=>exact fun σ4 H4 G4 Hd f4 w4=>⟨hlt,ρ2,t2,G4,Hd,fc.trans f4,w4,e'⟩
   | ct ρ2 t2=>exact fun σ4 H4 G4 Hd f4 w4=>⟨hlt,ρ2,t2,G4,Hd,fc.trans f4,w4,e'⟩
   | bk ρ2 t2=>
     cases e'
     exact fun σ4 H4 G4 Hd f4 w4=>by
      obtain⟨He,f5,w5⟩:=bk (fc.trans f4) w4
      exact h σ4 H4 G4 He f5 w5
   | rt d t2=>
     cases e'
     refine fun v H4 G4 Hd f4 h4 g4 r4=>?_
     obtain⟨He,f5,w5⟩:=bk (fc.trans f4) (σ':=[]) (ρ':=[]) (t':=t2) ⟨SR.mkSh g4 rfl (fun i d e=>(by simp at e)) (fun i l e=>(by simp at e)) (fun i t ks vs e=>(by simp at e)),hg1,h4,w1.seen⟩
     exact h v H4 G4 He f5 w5.h0 w5.sr.gr r4
  ·have ei:i=ds.length:=by lia
   subst ei
   rw[List.drop_length,forW]at e'
   cases e'
   obtain⟨He,f5,w5⟩:=bk fc w'
   exact .inl ⟨W.2 (qu _),h σ' H' G' He f5 w5⟩
end
end
section
def tWE{τ:Type}(Z:Hid τ)(K:W.Frag)(l:Addr)(f:TeV τ):TE:=fun σ H Q=>∃ρ t d t' H0 G0 G,f ρ t=some (d,t')/\WZ Z K l t H0 G0 σ H G ρ/\∀v H' G' H1,Off l H0 H1->WZ Z K l t' H1 G0 σ H' G' ρ->Same G G'->Rp K G' d v->Q v H'
def tWA{τ:Type}(Z:Hid τ)(K:W.Frag)(l:Addr)(f:TaV τ):TA:=fun σ H Q=>∃ρ t ds t' H0 G0 G,f ρ t=some (ds,t')/\WZ Z K l t H0 G0 σ H G ρ/\∀vs H' G' H1,Off l H0 H1->WZ Z K l t' H1 G0 σ H' G' ρ->Same G G'->RpL K G' ds vs->Q vs H'
def tWF{τ:Type}(Z:Hid τ)(K:W.Frag)(l:Addr)(f:TaV τ):TE:=fun σ H Q=>∃ρ t ds t' H0 G0 G,f ρ t=some (ds,t')/\WZ Z K l t H0 G0 σ H G ρ/\∀p xs H' G' H1,Off l H0 H1->WZ Z K l t' H1 G0 σ H' G' ρ->Same G G'->H' p=some (.lst xs)->G' p=none->RpL K G' ds xs->Q (.ref p) H'
structure ZWE(X:Cx){τ:Type}(Z:Hid τ)(l:Addr)(e:Expr)(f:TeV τ):Prop where
 un:PE X e (tWE Z X.K l f)
structure ZWA(X:Cx){τ:Type}(Z:Hid τ)(l:Addr)(es:List Expr)(f:TaV τ):Prop where
 un:PA X es (tWA Z X.K l f)
structure ZWF(X:Cx){τ:Type}(Z:Hid τ)(l:Addr)(e:Expr)(f:TaV τ):Prop where
 un:PE X e (tWF Z X.K l f)
def Ycs{τ:Type}(f:Ro->Option D):TeV τ:=fun ρ t=>(f ρ).map fun d=>(d,t)
def binE{τ:Type}(fa fb:TeV τ)(g:D->D->Option D):TeV τ:=fun ρ t=>(fa ρ t).bind fun p=>(fb ρ p.2).bind fun q=>(g p.1 q.1).map fun d=>(d,q.2)
def nilE{τ:Type}:TaV τ:=fun _ t=>some ([],t)
def Ya6{τ:Type}(fa:TeV τ)(fb:TaV τ):TaV τ:=fun ρ t=>(fa ρ t).bind fun p=>(fb ρ p.2).map fun q=>(p.1::q.1,q.2)
def tupE{τ:Type}(f:TaV τ):TeV τ:=fun ρ t=>(f ρ t).bind fun p=>if p.1.length<=cap6 then some (.tup p.1,p.2)else none
section
variable {τ:Type} {Z:Hid τ} {X:Cx} {l:Addr} {e a b:Expr} {es:List Expr} {f:Ro->Option D} {fa fb fe:TeV τ} {ga:TaV τ} {pos:Pos}
theorem Yai(h:ZE X e f):ZWE X Z l e (Ycs f):=⟨PE.imp h.un fun σ H Q ⟨ρ,t,d,t',H0,G0,G,er,w,k⟩=>by
 obtain⟨d',h1,h2⟩:=qc er
 cases h2
 exact⟨ρ,d,H0,G0,G,h1,w.sr,fun v H' G' g r=>k v H' G' H0 Off.rfl' (w.grow g) g.g r⟩⟩
theorem Yq4{op:Operator}{r:R2}{g:D->D->Option D}(ho:OpR X (binaryOp op) r)(hr:Sem2 X.K r g)(ha:ZWE X Z l a fa)(hb:ZWE X Z l b fb):ZWE X Z l (.BinOp a op b pos) (binE fa fb g):=⟨PE.imp (Yso ho ha.un hb.un) fun σ H Q ⟨ρ,t,d,t',H0,G0,G,er,w,k⟩=>by
 obtain⟨⟨d1,t1⟩,h1,er⟩:=qa er
 obtain⟨⟨d2,t2⟩,h2,er⟩:=qa er
 obtain⟨d3,h3,h4⟩:=qc er
 cases h4
 exact⟨ρ,t,d1,t1,H0,G0,G,h1,w,fun v1 H1 G1 Ha f1 w1 s1 r1=>⟨ρ,t1,d2,t2,Ha,G0,G1,h2,w1,fun v2 H2 G2 Hb f2 w2 s2 r2=>hr v1 v2 d1 d2 d H2 G2 Q h3 w2.sr.seen (.of w2.sr.seen (r1.mono s2)) (.of w2.sr.seen r2) fun v H' G' g' rd=>k v H' G' Hb (f1.trans f2) (w2.grow g') (s1.trans (s2.trans g'.g)) rd⟩⟩⟩
theorem Ym7(ha:ZWE X Z l a fa)(hb:ZWE X Z l b fb):ZWE X Z l (.BinOp a .Add b pos) (binE fa fb addI):=Yq4 Yuo Ymv ha hb
theorem Yw4(ha:ZWE X Z l a fa)(hb:ZWE X Z l b fb):ZWE X Z l (.BinOp a .Mod b pos) (binE fa fb modI):=Yq4 Yup (Yn1 fun i j h=>by simpa using h) ha hb
theorem Ybt:ZWA X Z l [] nilE:=⟨PA.imp Yek fun σ H Q ⟨ρ,t,ds,t',H0,G0,G,er,w,k⟩=>by
 cases er
 exact k [] H G H0 Off.rfl' w (Same.refl _) .nil⟩
theorem y4(ha:ZWE X Z l e fa)(hb:ZWA X Z l es ga)(hs:starEach (e::es) X.env=(false,eval e X.env)::starEach es X.env:=by rfl):ZWA X Z l (e::es) (Ya6 fa ga):=⟨PA.imp (Ybw ha.un hb.un hs) fun σ H Q ⟨ρ,t,ds,t',H0,G0,G,er,w,k⟩=>by
 obtain⟨⟨d1,t1⟩,h1,er⟩:=qa er
 obtain⟨⟨d2,t2⟩,h2,h3⟩:=qc er
 cases h3
 exact⟨ρ,t,d1,t1,H0,G0,G,h1,w,fun v1 H1 G1 Ha f1 w1 s1 r1=>⟨ρ,t1,d2,t2,Ha,G0,G1,h2,w1,fun vs H2 G2 Hb f2 w2 s2 r2=>k (v1::vs) H2 G2 Hb (f1.trans f2) w2 (s1.trans s2) (.cons (r1.mono s2) r2)⟩⟩⟩
theorem Yel{x1}(h:ZWA X Z l es ga):ZWE X Z l (.Tuple es x1 pos) (tupE ga):=⟨PE.imp (Yuu h.un) fun σ H Q ⟨ρ,t,d,t',H0,G0,G,er,w,k⟩=>by
 obtain⟨⟨ds,t1⟩,h1,er⟩:=qa er
 split at er
 ·rename_i hc
  cases er
  refine⟨ρ,t,ds,t1,H0,G0,G,h1,w,fun vs H1 G1 Ha f1 w1 s1 r1=>⟨by rw[r1.length];exact Ycy hc,fun p hp=>?_⟩⟩
  have gn:=Gr.new w1.sr.seen hp (.tup vs)
  refine k _ _ _ Ha f1 (w1.grow gn) (s1.trans gn.g) ?_
  rw[Rp]
  exact⟨p,vs,rfl,Ym,r1.mono gn.g⟩
 ·cases er⟩
end
def retE{τ:Type}(f:TeV τ):TmV τ:=fun ρ t=>(f ρ t).map fun p=>.rt p.1 p.2
def setE{τ:Type}(i:Nat)(f:TeV τ):TmV τ:=fun ρ t=>(f ρ t).map fun p=>.nx (ρ.set i (some (.sh p.1))) p.2
def appE{τ:Type}(i:Nat)(f:TeV τ):TmV τ:=fun ρ t=>(getO i ρ).bind fun xs=>if xs.length < 1000000 then (f ρ t).map fun p=>.nx (ρ.set i (some (.ow (xs++[p.1])))) p.2 else none
def Yis{τ:Type}(ga:TaV τ)(m:List D->Option D):TeV τ:=fun ρ t=>(ga ρ t).bind fun p=>(m p.1).map fun d=>(d,p.2)
def forE{τ:Type}(f:TeV τ)(gt:D->Ro->Option Ro)(fb:TmV τ):TmV τ:=fun ρ t=>(f ρ t).bind fun p=>(rng1 [p.1]).bind fun ds=>forW gt fb ds ρ p.2
section
variable {τ:Type} {Z:Hid τ} {X:Cx} {l:Addr} {e c:Expr} {es:List Expr} {f:Ro->Option D} {fe:TeV τ} {ga:TaV τ} {pos p:Pos} {st:Stmt} {sts:List Stmt} {fs gs:TmV τ}
theorem Yaj{f:Ro->Option Out}(h:ZS X st f):ZTS X Z l st (Ycj f):=⟨Yw1 h.un⟩
theorem Ydd:ZTB X Z l [] nilW:=⟨Yw2⟩
theorem Yab(h:ZTS X Z l st fs):ZTB X Z l [st] fs:=⟨Yw3 h.un⟩
theorem y2(h1:ZTS X Z l st fs)(h2:ZTB X Z l sts gs):ZTB X Z l (st::sts) (seqW fs gs):=⟨Ytr h1.un h2.un⟩
theorem Ye6{a b:List Stmt}{fc:Ro->Option Bool}(hc:ZT X c fc)(ha:ZTB X Z l a fs)(hb:ZTB X Z l b gs):ZTS X Z l (.If c a b pos) (ifW (fun ρ _=>fc ρ) fs gs):=⟨Yz2 (Yts hc.un) ha.un hb.un⟩
theorem Yde(h:ZWE X Z l e fe):ZTS X Z l (.Return (some e) pos) (retE fe):=⟨PS.imp (Ypj h.un) fun F σ H hx_=>by
 obtain⟨ρ,t,out,H0,G0,G,er,w,q⟩:=hx_
 obtain⟨⟨d,t'⟩,h1,rfl⟩:=qc er
 exact⟨ρ,t,d,t',H0,G0,G,h1,w,fun v H' G' H1 f1 w1 s1 r1=>q v H' G' H1 f1 w1.h0 w1.sr.gr r1⟩⟩
theorem Ydf(i:Nat){x:Str}{pos':Pos}(hN:X.N.Nodup)(h:ZWE X Z l e fe)(hi:X.N[i]?=some x:=by rfl)(hx:Loc X.env.scope x:=by first | exact Or.inl rfl | exact Or.inr rfl)(hs:swapsWith e (some (.Name x pos')) pos.line X.env=pure false:=by rfl)
 (hf:X.fn x=true\/X.env.scope.names.lookup x=some .local:=by first | exact .inl rfl | exact .inr rfl):ZTS X Z l (.Assign [.Name x pos'] e pos) (setE i fe):=⟨PS.imp (Yld hN hi hx h.un hs hf) fun F σ H hx_=>by
 obtain⟨ρ,t,out,H0,G0,G,er,w,q⟩:=hx_
 obtain⟨⟨d,t'⟩,h1,rfl⟩:=qc er
 exact⟨ρ,t,d,t',H0,G0,G,h1,w,fun v H' G' H1 f1 w1 s1 r1=>q _ H' G' H1 f1 ⟨w1.sr.set_sh i r1,w1.g0,w1.h0,w1.sd⟩⟩⟩
theorem Ykn(i:Nat){x:Str}{p2 apos cpos:Pos}(he:ZWE X Z l e fe)(hN:X.N[i]?=some x:=by rfl)(hv:Vis X.env.scope x:=by first | exact Or.inl rfl | exact Or.inr (Or.inl rfl) | exact Or.inr (Or.inr rfl))
 (hd:(x==("__debug__":Str))=false:=by decide) (hcd:(x==("__classdict__":Str))=false:=by decide) (hse:swapsWith (.Call (.Attribute (.Name x p2) "append" apos) [e] [] cpos) none pos.line X.env=pure false:=by rfl)
 (hs:starEach [e] X.env=[(false,eval e X.env)]:=by rfl)
 (hfew:((backTo cpos (starEach [e] X.env)).all (fun x=>!x.1)&&(backToKw cpos (keywordEach [] X.env)).all (fun x=>x.1.isSome)&&decide ([e].length+([]:List Keyword).length+(if ([]:List Keyword).isEmpty then 0 else 1) < 30))=true:=by rfl)
 (hline:(apos.endLine==cpos.line)=true:=by rfl) (hbase:attributeBase (.Name x p2) "append" X.env (eval (.Name x p2) X.env)=eval (.Name x p2) X.env:=by rfl) :
 ZTS X Z l (.Expr (.Call (.Attribute (.Name x p2) "append" apos) [e] [] cpos) pos) (appE i fe):=
 ⟨PS.imp (Ymn (Ypx PySem.F.plainAttrs_list PySem.F.slot_list_append PySem.F.type_list_append Yh8 (Yej hN hv hd hcd) (Ybw he.un Yek hs) hbase hfew hline hs rfl) hse) fun F σ H hx_=>by
  obtain⟨ρ,t,out,H0,G0,G,er,w,q⟩:=hx_
  obtain⟨xs,h1,er⟩:=qa er
  split at er
  ·rename_i hl
   obtain⟨⟨d,t'⟩,h2,rfl⟩:=qc er
   obtain⟨a,ys,ha,hH,hr,hG⟩:=Yn4 w.sr h1
   refine⟨_,ha,.inl ⟨rfl,ys,SqL.of hH⟩,ρ,t,d,t',H0,G0,G,h2,w,fun v H' G' H1 f1 w1 s1 r1=>?_⟩
   obtain⟨a2,ys2,ha2,hH2,hr2,hG2⟩:=Yn4 w1.sr h1
   rw[ha]at ha2
   cases ha2
   refine⟨a,ys2,v,rfl,rfl,hH2,?_,q σ _ G' H1 f1 ⟨w1.sr.mut (Yga h1) ha (hr2.append (.one r1)),w1.g0,w1.h0,w1.sd⟩⟩
   rw[hr2.length]
   exact Qe hl (Ycy (qu _))
  ·cases er⟩
theorem Yem{j k n:Nat}{x:Str}{ps:List Str}{m:List D->Option D}{cpos:Pos}(c:Okf X.prog X.w X.K X.mg X.base j n x ps m)(hr:Room k X.A)(hg:Gl X x)(ha:ZWA X Z l (e::es) ga)(hl:∀ρ t ds t',ga ρ t=some (ds,t')->ds.length=n)(hj:j<=k:=by first | exact qu _ | lia)(hdb:(x==("__debug__":Str))=false:=by decide)
 (he:starEach (e::es) X.env=(false,eval e X.env)::starEach es X.env:=by rfl) (hpl:(backTo cpos (starEach es X.env)).any (·.1)=false:=by rfl):ZWE X Z l (.Call (.Name x p) (e::es) [] cpos) (Yis ga m):=by
 obtain⟨a,fd,F,hb,hk,hm⟩:=c
 refine⟨PE.imp (Yj9 (E:=E0) (F.mono hj) hr hg hm hk hb .nil Yo2 ha.un hdb he hpl) fun σ H Q ⟨ρ,t,d,t',H0,G0,G,er,w,q⟩=>?_⟩
 obtain⟨⟨ds,t1⟩,h1,er⟩:=qa er
 obtain⟨d',h2,h3⟩:=qc er
 cases h3
 refine⟨ρ,t,ds,t1,H0,G0,G,h1,w,fun vs H1 G1 Ha f1 w1 s1 r1=>?_⟩
 show spOf X.K n m (vs++[]) H1 Q E0
 rw[List.append_nil]
 exact⟨by rw[r1.length];exact hl ρ t ds t1 h1,ds,d,G1,w1.sr.seen,r1,h2,fun v H' G' g' rd=>q v H' G' Ha f1 (w1.grow g') (s1.trans g'.g) rd⟩
theorem Ym8{tg:Expr}{body:List Stmt}{gt:D->Ro->Option Ro}{a:Expr}{pr ip:Pos}(hp:PassesOwn (model X.prog X.w) X.A X.env X.xe)(hc:X.calm=true)(hgr:Gl X "range")(hm:X.mg "range"=none)(ha:ZWE X Z l a fe)(hg:ZG X tg gt)(hb:ZTB X Z l body fs)
 (hsa:starEach [a] X.env=[(false,eval a X.env)]:=by rfl) (hs:∀x,foldedSetIterable (.Call (.Name "range" pr) [a] [] ip) X.env x=pure x:=by intro _;rfl):ZTS X Z l (.For tg (.Call (.Name "range" pr) [a] [] ip) body [] pos) (forE fe gt fs):=
 ⟨PS.imp (Ypm hp hc (Yh1 hgr hm (y4 ha Ybt hsa).un hsa) hg.un hb.un hs) fun F σ H hx_=>by
  obtain⟨ρ,t0,out,H0,G0,G,er,w,h⟩:=hx_
  obtain⟨⟨d,t⟩,h0,er⟩:=qa er
  obtain⟨ds,h1,h2⟩:=qa er
  refine⟨ρ,t0,[d],t,H0,G0,G,by unfold Ya6 nilE;rw[h0];rfl,w,fun vs H1 G1 Ha fa w1 sm1 r1=>?_⟩
  obtain⟨n,he,c1,c2,rfl⟩:=Yii h1
  cases he
  obtain⟨v,rfl,rv⟩:=Yig r1
  rw[Rp]at rv
  subst rv
  refine⟨n,rfl,by lia,by lia,?_⟩
  have wk:Wk X.K (Itr 0 (n - 0).toNat) G1 (rngD 0 n):=Yp9 (Ycy (by unfold cap6;lia))
  have h:=h.off fa
  generalize rngD 0 n=ds at *
  rw[Int.sub_zero]at wk
  generalize Itr 0 n.toNat=J at *
  have hg1:=w1.no
  obtain⟨Hb,sb,hbl,back⟩:=w1.sr.rebaseW hg1 w1.h0
  have hout:=Ydw ds ρ t out h2
  have bk:∀{Hc:Hp} {σ':L2.St} {H' G':Hp} {ρ':Ro} {t':τ},Off l Hb Hc->WZ Z X.K l t' Hc G1 σ' H' G' ρ'->∃Hd,Off l Ha Hd/\WZ Z X.K l t' Hd G0 σ' H' G' ρ':=fun {Hc σ' H' G' ρ' t'} f w'=>
   ⟨_,fun a ha=>if_neg ha,back Hc σ' H' G' ρ' f w'.sr,w1.g0,by show(if l=l then Hc l else Ha l)=_;rw[if_pos rfl];exact w'.h0,w1.sd⟩
  refine⟨fun i m σ' H'=>m=ds.length - i/\i<=ds.length/\∃ρ' t' G' Hc,Off l Hb Hc/\WZ Z X.K l t' Hc G1 σ' H' G' ρ'/\forW gt fs (ds.drop i) ρ' t'=some out,⟨_,rfl,Nat.zero_le _,ρ,t,G1,Hb,fun _ _=>rfl,⟨sb,hg1,hbl,w1.seen⟩,h2⟩,?_⟩
  rintro i m σ' H' ⟨rfl,hi,ρ',t',G',Hc,fc,w',e'⟩
  have W:=wk.2 i H' G' w'.sr.gr.g w'.sr.seen
  by_cases hlt:i < ds.length
  ·have hd:ds[i]?=some ds[i]:=qr hlt
   obtain⟨go,yl⟩:=W.1 _ hd
   rw[List.drop_eq_getElem_cons hlt,forW]at e'
   obtain⟨ρ1,e1,e'⟩:=qa e'
   obtain⟨o,e2,e'⟩:=qa e'
   refine .inr ⟨go,fun σ' H'=>i+1<=ds.length/\∃ρ' t' G' Hc,Off l Hb Hc/\WZ Z X.K l t' Hc G1 σ' H' G' ρ'/\forW gt fs (ds.drop (i+1)) ρ' t'=some out,fun σ2 H2 q=>⟨ds.length - (i+1),by lia,rfl,q.1,q.2⟩,fun x H2 y=>?_⟩
   obtain⟨G2,g2,r2⟩:=yl x H2 y
   refine⟨_,ρ',ρ1,Hc,G1,G2,e1,w'.sr.grow g2,r2,fun σ3 s3=>?_⟩
   refine⟨ρ1,t',o,Hc,G1,G2,e2,⟨s3,hg1,w'.h0,w'.sd⟩,?_⟩
   cases o with
   | nx ρ2 t2=>exact fun σ4 H4 G4 Hd f4 w4=>⟨hlt,ρ2,t2,G4,Hd,fc.trans f4,w4,e'⟩
   | ct ρ2 t2=>exact fun σ4 H4 G4 Hd f4 w4=>⟨hlt,ρ2,t2,G4,Hd,fc.trans f4,w4,e'⟩
   | bk ρ2 t2=>
     cases e'
     exact fun σ4 H4 G4 Hd f4 w4=>by
      obtain⟨He,f5,w5⟩:=bk (fc.trans f4) w4
      exact h σ4 H4 G4 He f5 w5
   | rt d t2=>
     cases e'
     refine fun v H4 G4 Hd f4 h4 g4 r4=>?_
     obtain⟨He,f5,w5⟩:=bk (fc.trans f4) (σ':=[]) (ρ':=[]) (t':=t2) ⟨SR.mkSh g4 rfl (fun i d e=>(by simp at e)) (fun i l e=>(by simp at e)) (fun i t ks vs e=>(by simp at e)),hg1,h4,w1.seen⟩
     exact h v H4 G4 He f5 w5.h0 w5.sr.gr r4
  ·have ei:i=ds.length:=by lia
   subst ei
   rw[List.drop_length,forW]at e'
   cases e'
   obtain⟨He,f5,w5⟩:=bk fc w'
   exact .inl ⟨W.2 (qu _),h σ' H' G' He f5 w5⟩⟩
end
def Yfo{τ:Type}(gt:D->Ro->Option Ro)(fe:TeV τ)(ρ:Ro):List D->τ->Option (List D × τ)
 | [],t=>some ([],t)
 | d::ds,t=>(gt d ρ).bind fun ρ1=>(fe ρ1 t).bind fun p=>(Yfo gt fe ρ ds p.2).map fun q=>(p.1::q.1,q.2)
def Yl3{τ:Type}(f:TeV τ)(src:List (Option Nat))(gt:D->Ro->Option Ro)(fe:TeV τ):TaV τ:=fun ρ t=>(f ρ t).bind fun p=>(rng1 [p.1]).bind fun ds=>Yfo gt fe (capR src ρ) ds p.2
section
variable {τ:Type} {Z:Hid τ} {X:Cx} {l:Addr} {e a elt tg iter:Expr} {scope:Scope} {N:List Str} {src:List (Option Nat)} {gt:D->Ro->Option Ro} {fa fe:TeV τ} {ga:TaV τ} {pos p pr ip:Pos} {body:List Stmt} {gl:Ro->Option (List D)} {fs:TmV τ}
theorem Ytt{K:W.Frag}(hle:∀ρ d ρ1,gt d (capR src ρ)=some ρ1->Le (capR src ρ) ρ1){σ:L2.St}{H:Hp}{Q:VK}
 (h:tWF Z K l (Yl3 fa src gt fe) σ H Q):tLC (Yx8 (tWA Z K l (Ya6 fa nilE))) src (gOf K gt) (tTof K tY) (tWE Z K l fe) σ H Q:=by
 obtain⟨ρ,t0,dsR,t',H0,G0,G,er,w,k⟩:=h
 obtain⟨⟨d,t⟩,h0,er⟩:=qa er
 obtain⟨ds,h1,h2⟩:=qa er
 refine⟨ρ,t0,[d],t,H0,G0,G,by unfold Ya6 nilE;rw[h0];rfl,w,fun vs H1 G1 Ha fa1 w1 sm1 r1=>?_⟩
 obtain⟨n,he,c1,c2,rfl⟩:=Yii h1
 cases he
 obtain⟨v,rfl,rv⟩:=Yig r1
 rw[Rp]at rv
 subst rv
 refine⟨n,rfl,by lia,by lia,?_⟩
 have wk:Wk K (Itr 0 (n - 0).toNat) G1 (rngD 0 n):=Yp9 (Ycy (by unfold cap6;lia))
 generalize rngD 0 n=ds at *
 rw[Int.sub_zero]at wk
 generalize Itr 0 n.toNat=J at *
 intro p hp
 have hpl:p≠l:=fun z=>by rw[z,w1.at]at hp;cases hp
 have gp:G1 p=none:=w1.sr.seen.free hp
 have noow:∀(i:Nat) l,(capR src ρ)[i]?≠some (some (B.ow l)):=fun i l h=>by
  unfold capR at h
  rw[qz]at h
  obtain⟨o,h1,h2⟩:=qc h
  obtain⟨j,rfl,h3⟩:=qa h2
  split at h3<;>cases h3
 have nood:∀(i:Nat) t ks vs,(capR src ρ)[i]?≠some (some (B.od t ks vs)):=fun i t ks vs h=>by
  unfold capR at h
  rw[qz]at h
  obtain⟨o,h1,h2⟩:=qc h
  obtain⟨j,rfl,h3⟩:=qa h2
  split at h3<;>cases h3
 have sc:=w1.sr.cap src
 refine⟨fun i m σ' H'=>m=ds.length - i/\i<=ds.length/\∃G' done xs rest tt Hc,Off l H1 Hc/\WZ Z K l tt Hc G1 σ' H' G' (capR src ρ)/\H' p=some (.lst xs)/\G' p=none/\RpL K G' done xs/\xs.length<=i/\Yfo gt fe (capR src ρ) (ds.drop i) tt=some (rest,t')/\done++rest=dsR,
  ⟨_,rfl,Nat.zero_le _,G1,[],[],dsR,t,H1,Off.rfl',⟨sc.grow (Gr.hid w1.sr.seen hp _),w1.no,w1.at,w1.seen⟩,Ym,gp,.nil,Nat.zero_le _,h2,rfl⟩,?_⟩
 rintro i m σ' H' ⟨rfl,hi,G',done,xs,rest,tt,Hc,fc,w',hx,gx,rx,hl,e',hd⟩
 have W:=wk.2 i H' G' w'.sr.gr.g w'.sr.seen
 have hcp:Hc p=none:=by rw[fc p hpl];exact hp
 by_cases hlt:i < ds.length
 ·have hdi:ds[i]?=some ds[i]:=qr hlt
  obtain⟨go,yl⟩:=W.1 _ hdi
  rw[List.drop_eq_getElem_cons hlt,Yfo]at e'
  obtain⟨ρ1,e1,e'⟩:=qa e'
  obtain⟨⟨v,t2⟩,e2,e'⟩:=qa e'
  obtain⟨⟨rest',t3⟩,e3,e4⟩:=qc e'
  cases e4
  refine .inr ⟨go,fun x H2 y=>?_⟩
  obtain⟨G2,g2,r2⟩:=yl x H2 y
  have w2:=w'.grow g2
  have hx2:H2 p=some (.lst xs):=g2.h _ _ hx
  have gx2:G2 p=none:=Ydl g2 hx gx
  have s2b:SR K H2 G2 σ' H2 G2 (capR src ρ):=SR.mkSh (Gr.refl w2.sr.seen) w2.sr.len w2.sr.sh noow nood
  refine⟨_,capR src ρ,ρ1,H2,G2,G2,e1,s2b,r2,fun σ3 s3=>?_⟩
  refine tTof.at (b:=true) rfl s3 fun H4 G4 g4 s4=>?_
  have le:=hle ρ _ ρ1 e1
  rw[if_pos rfl]
  refine⟨ρ1,tt,v,t2,H2,G2,G4,e2,⟨s4,w2.no,w2.at,w2.seen⟩,fun vv H5 G5 Hd fd w5 sm5 r5=>?_⟩
  have hdp:Hd p=some (.lst xs):=by rw[fd p hpl];exact hx2
  have hx5:H5 p=some (.lst xs):=w5.sr.gr.h _ _ hdp
  have gx5:G5 p=none:=Ydl w5.sr.gr hdp gx2
  have hz:=wk.1
  have smg:Same G' G5:=g2.g.trans w5.sr.gr.g
  have s6:=w5.sr.le le
  refine⟨xs,hx5,by lia,ds.length - (i+1),by lia,rfl,hlt,G5,done++[v],xs++[vv],rest',t2,fun x=>if x=l then Hd l else Hc x,fun x hx=>?_,⟨SR.mkSh ⟨fun b o q=>?_,w'.sr.gr.g.trans smg,fun b o q=>?_,fun b q q'=>?_⟩ s6.len s6.sh noow nood,w1.no,?_,w1.seen⟩,Ym,gx5,(rx.mono smg).append (.one r5),by simp;lia,e3,by simpa using hd⟩
  ·show(if x=l then Hd l else Hc x)=_
   rw[if_neg hx];exact fc x hx
  ·change (if b=l then Hd l else Hc b)=some o at q
   by_cases z:b=l
   ·rw[if_pos z]at q
    have z2:b≠p:=fun y=>hpl (by rw[<-y,z])
    rw[Yk z2,z];exact w5.sr.gr.h _ _ q
   ·rw[if_neg z]at q
    have z2:b≠p:=fun y=>by rw[y,hcp]at q;cases q
    rw[Yk z2]
    exact w5.sr.gr.h _ _ (by rw[fd b z];exact g2.h _ _ (w'.sr.gr.h _ _ q))
  ·rw[Yk (Yv q gx5)];exact w5.sr.seen b o q
  ·show(if b=l then Hd l else Hc b)=none
   by_cases z3:G' b=none
   ·by_cases z4:G2 b=none
    ·have h6:=w5.sr.gr.n b z4 q'
     have z:b≠l:=fun z=>by rw[z,w5.h0]at h6;cases h6
     rw[if_neg z]
     rw[fd b z]at h6
     exact w'.sr.gr.h.free (g2.h.free h6)
    ·have h6:=g2.n b z3 z4
     have z:b≠l:=fun z=>by rw[z,w'.at]at h6;cases h6
     rw[if_neg z]
     exact w'.sr.gr.h.free h6
   ·have h6:=w'.sr.gr.n b q z3
    have z:b≠l:=fun z=>by rw[z,w'.h0]at h6;cases h6
    rw[if_neg z];exact h6
  ·show(if l=l then Hd l else Hc l)=_
   rw[if_pos rfl];exact w5.h0
 ·have ei:i=ds.length:=by lia
  subst ei
  rw[List.drop_length,Yfo]at e'
  cases e'
  rw[List.append_nil]at hd
  subst hd
  have g9:Gr (upd H1 l (Z.rep t')) G1 H' G':=⟨fun x o ho=>by
   by_cases z:x=l
   ·subst z;rw[Ym]at ho;rw[<-ho];exact w'.at
   ·rw[Yk z]at ho;exact w'.sr.gr.h x o (by rw[fc x z];exact ho),w'.sr.gr.g,w'.sr.seen,fun x h h'=>by
   have h6:=w'.sr.gr.n x h h'
   have z:x≠l:=fun z=>by rw[z,w'.h0]at h6;cases h6
   rw[Yk z,<-fc x z];exact h6⟩
  exact .inl ⟨W.2 (qu _),k p xs H' G' _ (fa1.trans (Off.put l Ha _)) ((w1.put t').grow g9) (sm1.trans w'.sr.gr.g) hx gx rx⟩
theorem Ytu(S:CompSc X.N X.env.scope N src scope)(hc:X.calm=true)(hgr:Gl X "range")(hm:X.mg "range"=none)(ha:ZWE X Z l a fa)(hg:∀cl C fp s H,ZG (Ya5 X scope N cl C fp s H) tg gt)(he:∀cl C fp s H,ZWE (Ya5 X scope N cl C fp s H) Z l elt fe)
 (hle:∀ρ d ρ1,gt d (capR src ρ)=some ρ1->Le (capR src ρ) ρ1) (hsa:starEach [a] X.env=[(false,eval a X.env)]:=by rfl) (hs:∀x,foldedSetIterable (.Call (.Name "range" pr) [a] [] ip) X.env x=pure x:=by intro _;rfl) :
 ZWF X Z l (.ListComp elt [⟨tg,.Call (.Name "range" pr) [a] [] ip,[],0⟩] scope pos) (Yl3 fa src gt fe):=
 ⟨PE.imp (Ymt S hc (Yh1 hgr hm (y4 ha Ybt hsa).un hsa) (fun cl C fp s H=>(hg cl C fp s H).un) (fun _ _ _ _ _=>Yqb) (fun cl C fp s H=>(he cl C fp s H).un) hs) fun _ _ _ h=>Ytt hle h⟩
theorem Yoe(h:ZWF X Z l e ga)(hg:Gl X "tuple")(hm:X.mg "tuple"=none)(he:starEach [e] X.env=(false,eval e X.env)::starEach [] X.env:=by rfl)(hpl:(backTo pos (starEach [] X.env)).any (·.1)=false:=by rfl):ZWE X Z l (.Call (.Name "tuple" p) [e] [] pos) (tupE ga):=
 ⟨PE.imp (Ylj Ycq hg hm boot_tuple (Ybw h.un Yek he) (by decide) (by decide) he hpl) fun σ H Q ⟨ρ,t,d,t',H0,G0,G,er,w,k⟩=>by
  obtain⟨⟨ds,t1⟩,h1,er⟩:=qa er
  split at er
  ·cases er
   refine⟨ρ,t,ds,t1,H0,G0,G,h1,w,fun q xs H1 G1 Ha f1 w1 s1 hq gq r1=>⟨q,xs,rfl,.inl ⟨SqL.of hq,fun z hz=>?_⟩⟩⟩
   have gn:=Gr.new w1.sr.seen hz (.tup xs)
   refine k _ _ _ Ha f1 (w1.grow gn) (s1.trans gn.g) ?_
   rw[Rp]
   exact⟨z,xs,rfl,Ym,r1.mono gn.g⟩
  ·cases er⟩
theorem Ytv(hp:PassesOwn (model X.prog X.w) X.A X.env X.xe)(hc:X.calm=true)(hi:ZI X tg iter gl)(hg:ZG X tg gt)(hb:ZTB X Z l body fs)(hs:∀x,foldedSetIterable iter X.env x=pure x:=by intro _;rfl):ZTS X Z l (.For tg iter body [] pos) (Yqy gl gt fs):=⟨Yz3 hp hc hi.un hg.un hb.un hs⟩
end
theorem aL0:∀ρ l,aNil ρ=some l->l.length=0:=fun _ _ h=>by cases h;rfl
theorem wL0{τ:Type}:∀ρ t ds t',nilE ρ (t:τ)=some (ds,t')->ds.length=0:=fun _ _ _ _ h=>by cases h;rfl
theorem wLc{τ:Type}{f:TeV τ}{g:TaV τ}{n:Nat}(hg:∀ρ t ds t',g ρ t=some (ds,t')->ds.length=n):∀ρ t ds t',Ya6 f g ρ t=some (ds,t')->ds.length=n+1:=fun ρ t ds t' h=>by
 obtain⟨p,h1,h⟩:=qa h
 obtain⟨q,h2,h3⟩:=qc h
 cases h3
 rw[qs,hg ρ p.2 q.1 q.2 h2]
end
section
def runG{τ:Type}(h:Addr->τ->Option (OutW τ))(t:τ):Option (D × τ):=@dite _ (∃p:D × τ,∀l:Addr,h l t=some (.rt p.1 p.2)) (Classical.propDecidable _) (fun h=>some h.choose) fun _=>none
theorem Yl4{τ:Type}{h:Addr->τ->Option (OutW τ)}{t t':τ}{d:D}(e:runG h t=some (d,t'))(l:Addr):h l t=some (.rt d t'):=by
 unfold runG at e
 by_cases hp:∃p:D × τ,∀l:Addr,h l t=some (.rt p.1 p.2)
 ·rw[@dif_pos _ (Classical.propDecidable _) hp]at e
  have h1:=hp.choose_spec l
  rw[Option.some.inj e]at h1
  exact h1
 ·rw[@dif_neg _ (Classical.propDecidable _) hp]at e
  cases e
theorem Ym9{τ:Type}{h:Addr->τ->Option (OutW τ)}{t t':τ}{d:D}(e:∀l:Addr,h l t=some (.rt d t')):runG h t=some (d,t'):=by
 have hp:∃p:D × τ,∀l:Addr,h l t=some (.rt p.1 p.2):=⟨(d,t'),e⟩
 unfold runG
 rw[@dif_pos _ (Classical.propDecidable _) hp]
 have h1:=hp.choose_spec 0
 rw[e 0]at h1
 injection h1 with h1
 injection h1 with h2 h3
 rw[h2,h3]
def argV{α:Type}(b:Bool)(x:α)(ds:List α):List α:=match b with
 | true=>x::ds
 | false=>ds++[x]
def runV{τ:Type}(b:Bool)(n:Nat)(g:Addr->TmV τ)(ds:List D)(t:τ):Option (D × τ):=runG (fun l=>g l (Yq n (argV b (.adr l) ds))) t
abbrev runT{τ:Type}(n:Nat)(g:Addr->TmV τ)(ds:List D)(t:τ):Option (D × τ):=runV true n g ds t
theorem Ydx{τ:Type}{n:Nat}{g:Addr->TmV τ}{ds:List D}{t t':τ}{d:D}(h:∀l:Addr,g l (Yq n (.adr l::ds)) t=some (.rt d t')):runT n g ds t=some (d,t'):=Ym9 h
theorem Yq5{τ:Type}{n:Nat}{g:Addr->TmV τ}{ds:List D}{t t':τ}{d:D}(h:∀l:Addr,g l (Yq n (ds++[.adr l])) t=some (.rt d t')):runV false n g ds t=some (d,t'):=Ym9 h
def spV{τ ι:Type}(Zf:ι->Hid τ)(K:W.Frag)(n:Nat)(b:Bool)(g:ι->List D->τ->Option (D × τ)):Sp:=fun vs H Q _=>vs.length=n/\∃i l vs' ds t d t' G,vs=argV b (.ref l) vs'/\Same G H/\G l=none/\H l=some ((Zf i).rep t)/\(Zf i).side G/\RpL K G ds vs'/\g i ds t=some (d,t')/\
 ∀v H' G',(∀x o,x≠l->H x=some o->H' x=some o)->H' l=some ((Zf i).rep t')->Same G G'->Same G' H'->(∀a,G a=none->G' a≠none->H a=none)->Rp K G' d v->Q v H'
def OkV{τ ι:Type}(Zf:ι->Hid τ)(P:Program)(w:World)(K:W.Frag)(mg:Str->Option Value)(base:Heap)(k n:Nat)(b:Bool)(x:Str)(ps:List Str)(g:ι->List D->τ->Option (D × τ)):Prop:=
 ∃a fd,FnOk P w K mg base CX0 k a fd ps (spV Zf K n b g)/\Binds K fd ps []/\W.keepIn K (.ref a)=true/\mg x=some (.ref a)
def Ya0{τ:Type}(ga:Ro->Option (List D))(g:List D->τ->Option (D × τ)):TeV τ:=fun ρ t=>(ga ρ).bind fun ds=>g ds t
def Yac{τ:Type}(l i:Nat)(f:TeV τ):TeV τ:=fun ρ t=>match ρ[i]? with
 | some (some (.sh (.adr l')))=>if l'=l then f ρ t else none
 | _=>none
theorem Yfp{τ:Type}{l i:Nat}{f:TeV τ}{ρ:Ro}{t:τ}{p:D × τ}(h:Yac l i f ρ t=some p):ρ[i]?=some (some (.sh (.adr l)))/\f ρ t=some p:=by
 unfold Yac at h
 split at h
 ·rename_i l' hi
  split at h
  ·rename_i hll
   subst hll
   exact⟨hi,h⟩
  ·cases h
 ·cases h
section
variable {τ ι:Type} {Zf:ι->Hid τ} {z:ι} {X:Cx} {l:Addr} {e:Expr} {es:List Expr} {ga:Ro->Option (List D)} {g:ι->List D->τ->Option (D × τ)} {p q cpos:Pos} {P:Program} {w:World} {K:W.Frag} {mg:Str->Option Value} {base:Heap}
theorem WZ.after{K:W.Frag}{Z:Hid τ}{t t':τ}{H0 G0 H1 G1 H' G':Hp}{σ:L2.St}{ρ:Ro}(w1:WZ Z K l t H0 G0 σ H1 G1 ρ)(keep:∀x o,x≠l->H1 x=some o->H' x=some o)(hl':H' l=some (Z.rep t'))(sm:Same G1 G')(sm':Same G' H')(nn:∀a,G1 a=none->G' a≠none->H1 a=none):WZ Z K l t' (upd H0 l (Z.rep t')) G0 σ H' G' ρ:=by
 have w2:=w1.put t'
 have gl':G' l=none:=by
  cases z:G' l with
  | none=>rfl
  | some o=>
    have:=nn l w1.no (by rw[z];exact fun y=>nomatch y)
    rw[w1.at]at this
    cases this
 have g3:Gr (upd H1 l (Z.rep t')) G1 H' G':=⟨fun x o ho=>by
  by_cases z:x=l
  ·subst z;rw[Ym]at ho;rw[<-ho];exact hl'
  ·rw[Yk z]at ho;exact keep x o z ho,sm,sm',fun x h h'=>by
  have z:x≠l:=fun z=>h' (by rw[z];exact gl')
  rw[Yk z];exact nn x h h'⟩
 exact w2.grow g3
theorem Ytw(i:Nat){j k n:Nat}{x y:Str}{ps:List Str}(c:OkV Zf X.prog X.w X.K X.mg X.base j (n+1) true x ps g)(hr:Room k X.A)(hg:Gl X x)(ha:ZA X es ga)(hl:∀ρ ds,ga ρ=some ds->ds.length=n)(hj:j<=k:=by first | exact qu _ | lia)
 (hi:X.N[i]?=some y:=by rfl) (hv:Vis X.env.scope y:=by first | exact Or.inl rfl | exact Or.inr (Or.inl rfl) | exact Or.inr (Or.inr rfl)) (hd:(y==("__debug__":Str))=false:=by decide) (hcd:(y==("__classdict__":Str))=false:=by decide)
 (hdb:(x==("__debug__":Str))=false:=by decide) (he:starEach (.Name y q::es) X.env=(false,eval (.Name y q) X.env)::starEach es X.env:=by rfl) (hpl:(backTo cpos (starEach es X.env)).any (·.1)=false:=by rfl) :
 ZWE X (Zf z) l (.Call (.Name x p) (.Name y q::es) [] cpos) (Yac l i (Ya0 ga (g z))):=by
 obtain⟨a,fd,F,hb,hk,hm⟩:=c
 refine⟨PE.imp (Yj9 (E:=E0) (F.mono hj) hr hg hm hk hb .nil Yo2 (Ybw (Yej hi hv hd hcd) ha.un he) hdb he hpl) fun σ H Q ⟨ρ,t,d,t',H0,G0,G,er,w,kk⟩=>?_⟩
 obtain⟨hi',er⟩:=Yfp er
 obtain⟨ds,h1,h2⟩:=qa er
 obtain⟨v,q1,q2⟩:=w.sr.sh i _ hi'
 rw[Rp]at q2
 subst q2
 refine⟨_,q1,tAof.at h1 w.sr fun vs H1 G1 g1 r1 s1=>?_⟩
 have w1:WZ (Zf z) X.K l t H0 G0 σ H1 G1 ρ:=⟨s1,w.g0,w.h0,w.sd⟩
 show spV Zf X.K (n+1) true g ((.ref l::vs)++[]) H1 Q E0
 rw[List.append_nil]
 exact⟨by rw[qs,r1.length,hl ρ ds h1],z,l,vs,ds,t,d,t',G1,rfl,s1.seen,w1.no,w1.at,w1.seen,r1,h2,fun v H' G' keep hl' sm sm' nn rd=>kk v H' G' _ (Off.put l H0 _) (w1.after keep hl' sm sm' nn) (g1.g.trans sm) rd⟩
theorem Yq6(i:Nat){j k:Nat}{x y:Str}{ps:List Str}{fa:Ro->Option D}(c:OkV Zf X.prog X.w X.K X.mg X.base j 2 false x ps g)(hr:Room k X.A)(hg:Gl X x)(ha:ZE X e fa)(hj:j<=k:=by first | exact qu _ | lia)
 (hi:X.N[i]?=some y:=by rfl) (hv:Vis X.env.scope y:=by first | exact Or.inl rfl | exact Or.inr (Or.inl rfl) | exact Or.inr (Or.inr rfl)) (hd:(y==("__debug__":Str))=false:=by decide) (hcd:(y==("__classdict__":Str))=false:=by decide)
 (hdb:(x==("__debug__":Str))=false:=by decide) (he:starEach [e,.Name y q] X.env=(false,eval e X.env)::starEach [.Name y q] X.env:=by rfl) (he2:starEach [.Name y q] X.env=(false,eval (.Name y q) X.env)::starEach [] X.env:=by rfl) (hpl:(backTo cpos (starEach [.Name y q] X.env)).any (·.1)=false:=by rfl) :
 ZWE X (Zf z) l (.Call (.Name x p) [e,.Name y q] [] cpos) (Yac l i (Ya0 (Yj fa aNil) (g z))):=by
 obtain⟨a,fd,F,hb,hk,hm⟩:=c
 refine⟨PE.imp (Yj9 (E:=E0) (F.mono hj) hr hg hm hk hb .nil Yo2 (Ybw ha.un (Ybw (Yej hi hv hd hcd) Yek he2) he) hdb he hpl) fun σ H Q ⟨ρ,t,d,t',H0,G0,G,er,w,kk⟩=>?_⟩
 obtain⟨hi',er⟩:=Yfp er
 obtain⟨ds,h1,h2⟩:=qa er
 obtain⟨da,h3,h4⟩:=qa (show(fa ρ).bind (fun x=>(aNil ρ).map (x::·))=some ds from h1)
 cases h4
 refine tOf.at h3 w.sr fun v H1 G1 g1 r1 s1=>?_
 obtain⟨v2,q1,q2⟩:=s1.sh i _ hi'
 rw[Rp]at q2
 subst q2
 refine⟨_,q1,?_⟩
 have w1:WZ (Zf z) X.K l t H0 G0 σ H1 G1 ρ:=⟨s1,w.g0,w.h0,w.sd⟩
 exact⟨rfl,z,l,[v],[da],t,d,t',G1,rfl,s1.seen,w1.no,w1.at,w1.seen,.one r1,h2,fun v H' G' keep hl' sm sm' nn rd=>kk v H' G' _ (Off.put l H0 _) (w1.after keep hl' sm sm' nn) (g1.g.trans sm) rd⟩
theorem Yw5{G:Hp}{b:Bool}{l:Addr}{ds:List D}{vs:List V}(r:RpL K G ds vs):RpL K G (argV b (.adr l) ds) (argV b (.ref l) vs):=by
 cases b with
 | true=>exact .cons (by rw[Rp]) r
 | false=>exact r.append (.one (by rw[Rp]))
theorem Yq7{b:Bool}{x:Str}{st:Stmt}{f:Addr}{fd:FuncData}{qual:Str}{N ps:List Str}{k n m:Nat}{g:ι->Addr->TmV τ}(F:Fun K x qual st f fd)(S:FnScope N ps (defScope st))(hn:N.length=n)(hm:ps.length=m)
 (hb:∀(z:ι) (l:Addr) (cdv:Value) (A:Around) (outer:List Env) (s:Shared) (H:Hp) (E:XK),Room k (A.deeper (envOfC qual (defScope st) s.heap.objs.size f cdv))->ZTB (cxOf CX0 P w K mg base N qual (defScope st) f cdv A outer s H E).nox (Zf z) l (defBody st) (g z l)) :
 FnOk P w K mg base CX0 (k+1) f fd ps (spV Zf K m b fun z=>runV b n (g z)):=by
 refine F.ok S (fun vs H Q E h=>by rw[h.1,hm]) fun cdv A outer s H vs Q E hr h=>?_
 obtain⟨hl,z,l,vs',ds,t,d,t',G,rfl,sm,gl,hll,sd,rr,e,q⟩:=h
 refine⟨_,(hb z l cdv A outer s H E hr).un,?_⟩
 have s0:SR K H G (start N (argV b (V.ref l) vs')) H G (Yq n (argV b (.adr l) ds)):=by
  rw[<-hn]
  exact SR.start (N:=N) sm (Yw5 rr)
 refine⟨_,t,.rt d t',H,G,G,Yl4 e l,⟨s0,gl,hll,sd⟩,fun v H' G' H1 f1 h1 g1 r1=>q v H' G' (fun x o hx ho=>g1.h _ _ (by rw[f1 x hx];exact ho)) (g1.h _ _ h1) g1.g g1.s (fun a h h'=>?_) r1⟩
 have:=g1.n a h h'
 have z:a≠l:=fun z=>by rw[z,h1]at this;cases this
 rw[f1 a z]at this
 exact this
end
end
section
variable {K:W.Frag}
def thZ{τ:Type}(dz:τ->D)(l i:Nat)(ρ:Ro)(t:τ):Option Ro:=match ρ[i]? with
 | some (some (.sh (.adr l')))=>if l'=l then some (ρ.set i (some (.sh (dz t))))else none
 | _=>none
section
variable {l:Addr} {H0 G0 H G:Hp} {σ:L2.St} {ρ ρ1:Ro} {τ:Type} {Z:Hid τ} {t:τ} {dz:τ->D} {X:Cx} {e c a:Expr} {f:Ro->Option D} {fe:TeV τ} {pos p:Pos} {fs gs:TmV τ}
theorem WZ.thaw{i:Nat}(hz:∀{G:Hp},G l=none->Z.side G->Rp K (upd G l (Z.rep t)) (dz t) (.ref l))(w:WZ Z K l t H0 G0 σ H G ρ)(e:thZ dz l i ρ t=some ρ1):∃H2 G1,SR K H2 G0 σ H G1 ρ1/\∀H' G',Gr H G1 H' G'->Gr H G H' G:=by
 unfold thZ at e
 split at e
 ·rename_i l' hi
  by_cases hl:l'=l
  ·rw[if_pos hl]at e
   cases e
   subst hl
   have s:=w.sr
   have gl:=w.no
   have ne:∀{a:Addr},H0 a=none->a≠l':=fun h z=>by rw[z,w.h0]at h;cases h
   have sm:Same G (upd G l' (Z.rep t)):=fun b o e=>by rw[Yk (Yv e gl)];exact e
   refine⟨fun a=>if a=l' then none else H0 a,upd G l' (Z.rep t),⟨⟨fun b o e=>?_,s.gr.g.trans sm,fun b o e=>?_,fun b h h'=>?_⟩,by simp[s.len],fun j d e=>?_,fun j m e=>?_,fun j k m m' a b' h1 h2 h3 h4 h5=>?_,fun j t1 ks vs e=>?_,fun j k ta ka va tb kb vb a b' h1 h2 h3 h4 h5=>?_⟩,fun H' G' g=>.back s.seen g⟩
   ·by_cases z:b=l'
    ·simp only[if_pos z]at e;cases e
    ·simp only[if_neg z]at e;exact s.gr.h b o e
   ·by_cases z:b=l'
    ·subst z;rw[Ym]at e;rw[<-e];exact w.at
    ·rw[Yk z]at e;exact s.gr.s b o e
   ·by_cases z:b=l'
    ·exact if_pos z
    ·rw[Yk z]at h'
     show(if b=l' then none else H0 b)=none
     rw[if_neg z];exact s.gr.n b h h'
   ·rcases Yh e with⟨rfl,e1,hlt⟩ | ⟨hj,e⟩
    ·cases e1
     obtain⟨v,q1,q2⟩:=s.sh j _ hi
     refine⟨v,q1,?_⟩
     rw[Rp]at q2
     rw[q2]
     exact hz gl w.seen
    ·obtain⟨v,q1,q2⟩:=s.sh j d e
     exact⟨v,q1,q2.mono sm⟩
   ·rcases Yh e with⟨rfl,e1,_⟩ | ⟨hj,e⟩
    ·cases e1
    ·obtain⟨a,xs,q1,q2,q3,q4,q5⟩:=s.ow j m e
     exact⟨a,xs,q1,by rw[Yk (ne q3)];exact q2,by show(if a=l' then none else H0 a)=none;rw[if_neg (ne q3)];exact q3,q4,q5.mono sm⟩
   ·rcases Yh h1 with⟨rfl,e1,_⟩ | ⟨hj,h1⟩
    ·cases e1
    ·rcases Yh h2 with⟨rfl,e1,_⟩ | ⟨hk,h2⟩
     ·cases e1
     ·exact s.ap j k m m' a b' h1 h2 h3 h4 h5
   ·rcases Yh e with⟨rfl,e1,_⟩ | ⟨hj,e⟩
    ·cases e1
    ·obtain⟨a,kxs,vxs,q1,q2,q3,q4,q5,q6⟩:=s.od j t1 ks vs e
     exact⟨a,kxs,vxs,q1,by rw[Yk (ne q3)];exact q2,by show(if a=l' then none else H0 a)=none;rw[if_neg (ne q3)];exact q3,q4.mono sm fun _ z=>z,q5.mono sm,q6.mono sm⟩
   ·rcases Yh h1 with⟨rfl,e1,_⟩ | ⟨hj,h1⟩
    ·cases e1
    ·rcases Yh h2 with⟨rfl,e1,_⟩ | ⟨hk,h2⟩
     ·cases e1
     ·exact s.apd j k ta ka va tb kb vb a b' h1 h2 h3 h4 h5
  ·rw[if_neg hl]at e
   cases e
 ·cases e
def retZ(dz:τ->D)(l i:Nat)(f:Ro->Option D):TmV τ:=fun ρ t=>(thZ dz l i ρ t).bind fun ρ1=>(f ρ1).bind fun d=>if Ytd d=true then some (.rt d t)else none
theorem Ytx(i:Nat)(hz:∀{t:τ} {G:Hp},G l=none->Z.side G->Rp X.K (upd G l (Z.rep t)) (dz t) (.ref l))(h:ZE X e f):ZTS X Z l (.Return (some e) pos) (retZ dz l i f):=⟨PS.imp (Ypj h.un) fun F σ H hx_=>by
 obtain⟨ρ,t,out,H0,G0,G,e,w,c⟩:=hx_
 unfold retZ at e
 obtain⟨ρ1,h1,e⟩:=qa e
 obtain⟨d,h2,e⟩:=qa e
 split at e
 ·rename_i hs
  cases e
  obtain⟨H2,G1,s1,bk⟩:=w.thaw hz h1
  exact⟨ρ1,d,H2,G0,G1,h2,s1,fun v H' G' g r=>c v H' G H0 (fun _ _=>rfl) w.h0 (w.sr.gr.trans (bk H' G' g)) (r.scal hs)⟩
 ·cases e⟩
def Yz4(dz:τ->D)(l i:Nat)(f:Ro->Option Bool):Ro->τ->Option Bool:=fun ρ t=>(thZ dz l i ρ t).bind f
theorem Yw6(i:Nat)(hz:∀{t:τ} {G:Hp},G l=none->Z.side G->Rp X.K (upd G l (Z.rep t)) (dz t) (.ref l)){a b:List Stmt}{fc:Ro->Option Bool}(hc:ZT X c fc)(ha:ZTB X Z l a fs)(hb:ZTB X Z l b gs):ZTS X Z l (.If c a b pos) (ifW (Yz4 dz l i fc) fs gs):=by
 have h:WTz Z X l c (Yz4 dz l i fc):=PT.imp hc.un fun σ H Q hx_=>by
  obtain⟨ρ,t,k,H0,G0,G,er,w,q⟩:=hx_
  obtain⟨ρ1,h1,h2⟩:=qa er
  obtain⟨H2,G1,s1,bk⟩:=w.thaw hz h1
  exact⟨ρ1,k,H2,G0,G1,h2,s1,fun H' G' g=>q H' G (bk H' G' g)⟩
 exact⟨Yz2 h ha.un hb.un⟩
def tWT(Z:Hid τ)(K:W.Frag)(l:Addr)(f:Ro->τ->Option (Bool × τ)):TT:=fun σ H Q=>∃ρ t k t' H0 G0 G,f ρ t=some (k,t')/\WZ Z K l t H0 G0 σ H G ρ/\∀H' G' H1,Off l H0 H1->WZ Z K l t' H1 G0 σ H' G' ρ->Same G G'->Q k H'
structure ZVT(X:Cx)(Z:Hid τ)(l:Addr)(c:Expr)(f:Ro->τ->Option (Bool × τ)):Prop where
 un:PT X c (tWT Z X.K l f)
def blE(fe:TeV τ):Ro->τ->Option (Bool × τ):=fun ρ t=>(fe ρ t).bind fun
 | (.bl k,t')=>some (k,t')
 | _=>none
def notE(f:Ro->τ->Option (Bool × τ)):Ro->τ->Option (Bool × τ):=fun ρ t=>(f ρ t).map fun p=>(!p.1,p.2)
def ifE(f:Ro->τ->Option (Bool × τ))(fs gs:TmV τ):TmV τ:=fun ρ t=>(f ρ t).bind fun p=>if p.1=true then fs ρ p.2 else gs ρ p.2
theorem Yq8(h:ZWE X Z l e fe)(he:∀whole,isTrue e X.env whole=(do let v <-whole;standAt e.pos;holding [v] (truthy v)):=by intro _;rfl):ZVT X Z l e (blE fe):=⟨PT.imp (Yx0 h.un he) fun σ H Q hx_=>by
 obtain⟨ρ,t,k,t',H0,G0,G,er,w,q⟩:=hx_
 obtain⟨⟨d,t1⟩,h1,er⟩:=qa er
 cases d with
 | bl b=>
   cases er
   refine⟨ρ,t,_,_,H0,G0,G,h1,w,fun v H' G' H1 f1 w1 s1 r1=>?_⟩
   rw[Rp]at r1
   exact⟨_,r1,q H' G' H1 f1 w1 s1⟩
 | _=>cases er⟩
theorem Yw7{fc:Ro->τ->Option (Bool × τ)}(h:ZVT X Z l c fc):ZVT X Z l (.UnaryOp .Not c pos) (notE fc):=⟨PT.imp (Yun h.un) fun σ H Q hx_=>by
 obtain⟨ρ,t,k,t',H0,G0,G,er,w,q⟩:=hx_
 obtain⟨⟨b,t1⟩,h1,h2⟩:=qc er
 cases h2
 exact⟨ρ,t,b,t1,H0,G0,G,h1,w,q⟩⟩
theorem Yq9{a b:List Stmt}{fc:Ro->τ->Option (Bool × τ)}(hc:ZVT X Z l c fc)(ha:ZTB X Z l a fs)(hb:ZTB X Z l b gs):ZTS X Z l (.If c a b pos) (ifE fc fs gs):=⟨PS.imp (Yvo hc.un ha.un hb.un) fun F σ H hx_=>by
 obtain⟨ρ,t,out,H0,G0,G,er,w,q⟩:=hx_
 obtain⟨⟨k,t1⟩,h1,er⟩:=qa er
 refine⟨ρ,t,k,t1,H0,G0,G,h1,w,fun H1 G1 Ha f1 w1 s1=>?_⟩
 have er:(if k=true then fs ρ t1 else gs ρ t1)=some out:=er
 cases k with
 | true=>
   rw[if_pos rfl]at er
   exact iteT ⟨ρ,t1,out,Ha,G0,G1,er,w1,q.off f1⟩
 | false=>
   rw[if_neg qi]at er
   exact iteF ⟨ρ,t1,out,Ha,G0,G1,er,w1,q.off f1⟩⟩
end
abbrev tp(t:List Int):HO:=.lst (t.map V.int)
def tpH:Hid (List Int):=⟨tp,fun _=>True,fun _ h=>h⟩
abbrev TmM:=TmV (List Int)
abbrev Te:=TeV (List Int)
theorem Yof{G:Hp}:∀t:List Int,RpL K G (t.map D.int) (t.map V.int)
 | []=>.nil
 | b::t=>.cons (by rw[Rp]) (Yof t)
def thT(l i:Nat)(ρ:Ro)(t:List Int):Option Ro:=match ρ[i]? with
 | some (some (.sh (.adr l')))=>if l'=l then some (ρ.set i (some (.sh (.lst (t.map D.int)))))else none
 | _=>none
theorem y1v{l:Addr}{t:List Int}{G:Hp}(_:G l=none)(_:tpH.side G):Rp K (upd G l (tpH.rep t)) (.lst (t.map D.int)) (.ref l):=by
 rw[Rp]
 exact⟨l,t.map V.int,rfl,.inl Ym,Yof t⟩
def Yty(l i:Nat)(f:Ro->Option Bool):Ro->List Int->Option Bool:=fun ρ t=>(thT l i ρ t).bind f
def popE(l i:Nat):Te:=fun ρ t=>match ρ[i]? with
 | some (some (.sh (.adr l')))=>if l'=l then (t.getLast?).map fun k=>(.int k,t.dropLast)else none
 | _=>none
section
variable {X:Cx} {l:Addr} {e c:Expr} {pos p:Pos} {fs gs:TmM}
theorem Yw8(i:Nat){a b:List Stmt}{fc:Ro->Option Bool}(hc:ZT X c fc)(ha:ZTB X tpH l a fs)(hb:ZTB X tpH l b gs):ZTS X tpH l (.If c a b pos) (ifW (Yty l i fc) fs gs):=Yw6 i y1v hc ha hb
theorem Yw9(i:Nat){x:Str}{p1 apos cpos:Pos}(hN:X.N[i]?=some x:=by rfl)(hv:Vis X.env.scope x:=by first | exact Or.inl rfl | exact Or.inr (Or.inl rfl) | exact Or.inr (Or.inr rfl))
 (hd:(x==("__debug__":Str))=false:=by decide) (hcd:(x==("__classdict__":Str))=false:=by decide) (hline:(apos.endLine==cpos.line)=true:=by rfl) (hbase:attributeBase (.Name x p1) "pop" X.env (eval (.Name x p1) X.env)=eval (.Name x p1) X.env:=by rfl) :
 ZWE X tpH l (.Call (.Attribute (.Name x p1) "pop" apos) [] [] cpos) (popE l i):=
 ⟨PE.imp (Yyk PySem.F.plainAttrs_list PySem.F.slot_list_pop PySem.F.type_list_pop Yyl (Yej hN hv hd hcd) hbase hline) fun σ H Q hx_=>by
  obtain⟨ρ,t,d,t',H0,G0,G,er,w,q⟩:=hx_
  unfold popE at er
  split at er
  ·rename_i l' hi
   split at er
   ·rename_i hll
    subst hll
    obtain⟨k,h1,h2⟩:=qc er
    cases h2
    obtain⟨v,q1,q2⟩:=w.sr.sh i _ hi
    rw[Rp]at q2
    subst q2
    refine⟨_,q1,.inl ⟨rfl,_,SqL.of w.at⟩,l',t.map V.int,.int k,rfl,rfl,w.at,?_,?_⟩
    ·rw[qf,qz]
     have:t[t.length - 1]?=some k:=by rw[<-List.getLast?_eq_getElem?];exact h1
     rw[this]
     rfl
    ·have w2:=w.put t.dropLast
     have e2:(t.map V.int).dropLast=t.dropLast.map V.int:=by rw[List.map_dropLast]
     rw[e2]
     exact q _ _ G _ (Off.put l' H0 _) w2 (Same.refl _) (by rw[Rp])
   ·cases er
  ·cases er⟩
end
def Ytz(i:Nat)(gl:Ro->Option (List D))(g:Addr->TmM):Ro->Option Out:=fun ρ=>(gl ρ).bind fun L=>(Yfl L).bind fun t=>ifP (∀l,∃t',g l (ρ.set i (some (.sh (.adr l)))) t=some (.rt (.bl true) t')) (some (.rt (.bl true)))
section
variable {X:Cx} {e:Expr} {gl:Ro->Option (List D)} {sts:List Stmt} {pos p1:Pos}
theorem Yt0(i:Nat){y:Str}{g:Addr->TmM}(hN:X.N.Nodup)(h:ZF X e gl)(rest:∀l,ZTB X tpH l sts (g l))(hy:X.N[i]?=some y:=by rfl)(hx:Loc X.env.scope y:=by first | exact Or.inl rfl | exact Or.inr rfl)(hse:swapsWith e (some (.Name y p1)) pos.line X.env=pure false:=by rfl)
 (hf:X.fn y=true\/X.env.scope.names.lookup y=some .local:=by first | exact .inl rfl | exact .inr rfl):ZB X (.Assign [.Name y p1] e pos::sts) (Ytz i gl g):=by
 have hrest:PSs X sts fun F σ H=>∃l,sOfZ tpH X.K l (g l) F σ H:=fun pins s σ H D I h=>by
  obtain⟨l,h⟩:=h
  exact(rest l).un pins s σ H D I h
 refine⟨PSs.imp (Yf6 (Yld hN hy hx h.un hse hf) hrest) fun F σ H hx_=>?_⟩
 obtain⟨ρ,out,H0,G0,G,er,s,c⟩:=hx_
 unfold Ytz at er
 obtain⟨L,q1,er⟩:=qa er
 obtain⟨t,q2,er⟩:=qa er
 obtain⟨hc,er⟩:=Ytl er
 cases er
 refine⟨ρ,L,H0,G0,G,q1,s,fun l xs H' G' gr hl gl' hl' rl=>?_⟩
 cases Yj1 q2
 cases Yn5 rl
 obtain⟨t',ht'⟩:=hc l
 have hG0l:G0 l=none:=(s.gr.g.trans gr.g).free gl'
 have hH0l:H0 l=none:=s.gr.h.free hl
 have s2:=(s.grow gr).set_sh i (d:=.adr l) (v:=.ref l) (by rw[Rp])
 refine⟨l,_,t,.rt (.bl true) t',upd H0 l (tp t),G0,G',ht',⟨⟨⟨fun a o ho=>?_,s2.gr.g,s2.gr.s,fun a ha ha'=>?_⟩,s2.len,s2.sh,fun j m em=>?_,s2.ap,fun j t1 ks vs em=>?_,s2.apd⟩,hG0l,Ym,trivial⟩,fun v H4 G4 H5 f5 h5 g5 r5=>?_⟩
 ·by_cases z:a=l
  ·subst z;rw[Ym]at ho;rw[<-ho];exact hl'
  ·rw[Yk z]at ho;exact s2.gr.h a o ho
 ·have n1:a≠l:=fun z=>ha' (by rw[z];exact gl')
  rw[Yk n1]
  exact s2.gr.n a ha ha'
 ·obtain⟨a,ys,z1,z2,z3,z4,z5⟩:=s2.ow j m em
  have n1:a≠l:=fun z=>by
   have hj:ρ[j]?=some (some (B.ow m)):=by
    rcases Yh em with⟨rfl,e9,_⟩ | ⟨_,em⟩
    ·cases e9
    ·exact em
   obtain⟨a',xs',w1,_,_,w4,_⟩:=s.ow j m hj
   have hne:j≠i:=fun y=>by
    rcases Yh em with⟨_,e9,_⟩ | ⟨hh,_⟩
    ·cases e9
    ·exact hh y
   rw[Qa (Ne.symm hne),w1]at z1
   cases z1
   rw[z,hl]at w4
   cases w4
  exact⟨a,ys,z1,z2,by rw[Yk n1];exact z3,z4,z5⟩
 ·obtain⟨a,kxs,vxs,z1,z2,z3,z4,z5⟩:=s2.od j t1 ks vs em
  have n1:a≠l:=fun z=>by
   have hj:ρ[j]?=some (some (B.od t1 ks vs)):=by
    rcases Yh em with⟨rfl,e9,_⟩ | ⟨_,em⟩
    ·cases e9
    ·exact em
   obtain⟨a',kx',vx',w1,_,_,w4,_⟩:=s.od j t1 ks vs hj
   have hne:j≠i:=fun y=>by
    rcases Yh em with⟨_,e9,_⟩ | ⟨hh,_⟩
    ·cases e9
    ·exact hh y
   rw[Qa (Ne.symm hne),w1]at z1
   cases z1
   obtain⟨o',w5,_⟩:=w4.some
   rw[z,hl]at w5
   cases w5
  exact⟨a,kxs,vxs,z1,z2,by rw[Yk n1];exact z3,z4,z5⟩
 ·refine c v H4 G4 ⟨fun a o ho=>?_,g5.g,g5.s,fun a ha ha'=>?_⟩ r5
  ·have n1:a≠l:=fun z=>by rw[z,hH0l]at ho;cases ho
   exact g5.h a o (by rw[f5 a n1,Yk n1];exact ho)
  ·have h6:=g5.n a ha ha'
   by_cases z:a=l
   ·rw[z];exact hH0l
   ·rw[f5 a z,Yk z]at h6
    exact h6
end
end
end M
namespace M
open PySem PySem.Spec PyProof.Rows L2 Builtin Builtin.Str
variable {K:W.Frag}
theorem Yl5{sep:Str}:∀(l:List Str) (acc:Array Nat),PyData.strOk ⟨l.foldl (fun acc p=>acc++sep.cps++p.cps) acc⟩=true->PyData.strOk ⟨acc⟩=true/\∀x∈l,PyData.strOk x=true
 | [],_,h=>⟨h,fun _ z=>(nomatch z)⟩
 | x::l,acc,h=>by
   rw[List.foldl_cons]at h
   obtain⟨h1,h2⟩:=Yl5 l _ h
   have e:PyData.strOk ⟨acc++sep.cps++x.cps⟩=PyData.strOk (((⟨acc⟩:Str)++sep)++x):=rfl
   rw[e,Yj5,Yj5,Qg,Qg]at h1
   refine⟨h1.1.1,fun y hy=>?_⟩
   cases hy with
   | head=>exact h1.2
   | tail _ hy=>exact h2 y hy
theorem Ygg(x y:Str):Txt.join y (Txt.split x y)=x:=(beq_iff_eq.mp (join_plain_closes y (Txt.split x y))).trans (StrLaws.join_split x y)
theorem Yt1{x y:Str}(h:PyData.strOk x=true):∀z∈Txt.split x y,PyData.strOk z=true:=by
 have e:=Ygg x y
 cases hs:Txt.split x y with
 | nil=>exact fun _ z=>(nomatch z)
 | cons a l=>
   rw[hs]at e
   rw[<-e]at h
   obtain⟨h1,h2⟩:=Yl5 (sep:=y) l a.cps h
   intro z hz
   cases hz with
   | head=>exact h1
   | tail _ hz=>exact h2 z hz
def Yra(sep:Str):D->Option D
 | .str x=>if x.length<=1000000 then some (.lst ((Txt.split x sep).map D.str))else none
 | _=>none
def Yz5:V->List V->Hp->VK->Prop:=fun x xs H Q=>∃t y,x=.str t/\xs=[.str y]/\(y.length==0)=false/\t.length<=1000000/\∀p,H p=none->Q (.ref p) (upd H p (.lst ((Txt.split t y).map V.str)))
theorem Yhf:∀l:List (Str × Tok),Vals ((l.map (·.1)).map V.str) (strValues l)
 | []=>.nil
 | (x,t)::l=>.cons ⟨t,rfl⟩ (Yhf l)
theorem Yog{G:Hp}:∀{l:List Str},(∀x∈l,PyData.strOk x=true)->RpL K G (l.map D.str) (l.map V.str)
 | [],_=>.nil
 | x::l,h=>.cons (by rw[Rp];exact⟨rfl,h x (.head _)⟩) (Yog fun y hy=>h y (.tail _ hy))
section
variable {X:Cx} {e a b:Expr} {fa fb:Ro->Option D} {ga:Ro->Option (List D)} {pos cpos apos p p2:Pos}
theorem Yt2:MtR X "str.split" Yz5:=by
 intro pins s σ H x xs v us Q I rx r h
 obtain⟨t,y,rfl,rfl,hy,hz,q⟩:=h
 obtain⟨tk,rfl⟩:=rx
 obtain⟨u,rfl,ru⟩:=Yh2 r
 obtain⟨tu,rfl⟩:=ru
 have hsl:=sizeLine_eq
 have hle:=split_le t y
 have fin:∀(l:List (Str × Tok)) (k:Nat),l.map (·.1)=Txt.split t y->EP X pins σ Q (.ref s.heap.objs.size) { s with heap:=s.heap.push { cls:=.type "list",data:=.seq (strValues l).toArray },toks:=k }:=fun l k hl=>by
  have hv:=Yhf l
  rw[hl]at hv
  exact⟨.ref s.heap.objs.size,_,I.lnew hv (by rw[qf];lia),rfl,q _ I.fresh⟩
 cases h1:(decide (t.length < y.length)||decide (strKind t < strKind y))
 ·cases hf:(occurrences t y 0 t.length (t.length+1)).isEmpty
  ·have hsp:Txt.split t y=partsBetween t (occurrences t y 0 t.length (t.length+1)) y.length:=(if_neg (ne_true_of_eq_false h1)).trans (if_neg (ne_true_of_eq_false hf))
   refine call_meets F.slot_str_split (typeIs_str _ _ _) F.entry_str_split (F.args_str_split_2 _ _) (meets_str_split_sep t y tk tu h1 hy hf (by lia) (by rw[<-hsp];lia)) ?_
   show wants (EP X pins σ Q) X.xe _ { s with toks:=_,heap:=s.heap.push { cls:=.type "list",data:=.seq (strsFrom s.toks (partsBetween t (occurrences t y 0 t.length (t.length+1)) y.length)).toArray } }
   rw[strsFrom_eq]
   exact fin (numbered s.toks _) _ ((numbered_texts _ _).trans hsp.symm)
  ·exact call_meets F.slot_str_split (typeIs_str _ _ _) F.entry_str_split (F.args_str_split_2 _ _) (meets_str_split_not_found t y tk tu h1 hy hf)
    (fin [(t,tk)] s.toks ((if_neg (ne_true_of_eq_false h1)).trans (if_pos hf)).symm)
 ·exact call_meets F.slot_str_split (typeIs_str _ _ _) F.entry_str_split (F.args_str_split_2 _ _) (meets_str_split_cannot_occur t y tk tu h1)
   (fin [(t,tk)] s.toks (if_pos h1).symm)
theorem Yrb{sep:Str}{j}(ha:ZE X e fa)(hx:(sep.length==0)=false:=by decide +kernel)
 (hbase:attributeBase e "split" X.env (eval e X.env)=eval e X.env:=by rfl)
 (hfew:((backTo cpos (starEach [.Constant (.str sep) j p] X.env)).all (fun x=>!x.1)&&(backToKw cpos (keywordEach [] X.env)).all (fun x=>x.1.isSome)
  &&decide ([Expr.Constant (.str sep) j p].length+([]:List Keyword).length+(if ([]:List Keyword).isEmpty then 0 else 1) < 30))=true:=by rfl)
 (hline:(apos.endLine==cpos.line)=true:=by rfl) (hs:starEach [.Constant (.str sep) j p] X.env=(false,eval (.Constant (.str sep) j p) X.env)::starEach [] X.env:=by rfl) (hplain:(backTo cpos (starEach [] X.env)).any (·.1)=false:=by rfl) :
 ZE X (.Call (.Attribute e "split" apos) [.Constant (.str sep) j p] [] cpos) (b1 fa (Yra sep)):=
 ⟨PE.imp (Ypx F.plainAttrs_str F.slot_str_split F.type_str_split Yt2 ha.un (Ybw Yph Yek hs) hbase hfew hline hs hplain) fun σ H Q hx_=>by
  obtain⟨ρ,d,H0,G0,G,er,s,h⟩:=hx_
  obtain⟨y,h1,h2⟩:=Ya3 er
  refine tOf.at h1 s fun v H1 G1 g1 r1 s1=>?_
  cases y with
  | str t=>
    change (if t.length<=1000000 then some (D.lst ((Txt.split t sep).map D.str))else none)=some d at h2
    split at h2
    ·rename_i hl
     cases h2
     rw[Rp]at r1
     obtain⟨rfl,hok⟩:=r1
     refine⟨rfl,t,sep,rfl,rfl,hx,hl,fun q hq=>?_⟩
     have gn:=Gr.new s1.seen hq (.lst ((Txt.split t sep).map V.str))
     refine h _ _ _ (g1.trans gn) ?_
     rw[Rp]
     exact⟨q,_,rfl,.inl Ym,Yog (Yt1 hok)⟩
    ·cases h2
  | _=>cases h2⟩
def lenS:List D->Option D
 | [.str s]=>if s.length<=1000000 then some (.int s.length)else none
 | _=>none
theorem Yoh:SemC K (fun xs H Q=>∃z:Str,xs=[.str z]/\z.length<=sizeLine/\Q (.int z.length) H) lenS:=by
 intro vs ds d H G Q e sm r q
 unfold lenS at e
 split at e
 ·rename_i s
  split at e
  ·rename_i hl
   cases e
   obtain⟨v,rfl,rv⟩:=Ydb r
   rw[Ct]at rv
   obtain⟨rfl,hok⟩:=rv
   exact⟨s,rfl,by rw[sizeLine_eq];lia,q _ H G (Gr.refl sm) (by rw[Rp])⟩
  ·cases e
 ·cases e
def intS:List D->Option D
 | [.str s]=>if s.length<=640 then (intText? s).map D.int else none
 | _=>none
theorem Yrc:Yf7 X (.type "int") (fun xs H Q=>∃z n,xs=[.str z]/\z.length<=640/\intText? z=some n/\Q (.int n) H):=by
 intro pins s σ H xs us Q I r h
 obtain⟨z,n,rfl,hl,hn,q⟩:=h
 obtain⟨u,rfl,ru⟩:=Yh2 r
 obtain⟨t,rfl⟩:=ru
 exact W.KIN.call_text hn hl ⟨.int n,H,I.tok _,⟨_,rfl⟩,q⟩
theorem Yt3:SemC K (fun xs H Q=>∃(z:Str) (n:Int),xs=[.str z]/\z.length<=640/\intText? z=some n/\Q (.int n) H) intS:=by
 intro vs ds d H G Q e sm r q
 unfold intS at e
 split at e
 ·rename_i s
  split at e
  ·rename_i hl
   obtain⟨n,h1,rfl⟩:=qc e
   obtain⟨v,rfl,rv⟩:=Ydb r
   rw[Ct]at rv
   obtain⟨rfl,hok⟩:=rv
   exact⟨s,n,rfl,hl,h1,q _ H G (Gr.refl sm) (by rw[Rp])⟩
  ·cases e
 ·cases e
def inS:D->D->Option Bool
 | .str i,.str j=>some (!(occurrences j i 0 j.length 1).isEmpty)
 | _,_=>none
theorem Yxa:Ye4 K (fun x y H Q=>∃i j,x=.str i/\y=.str j/\Q (.bl (!(occurrences j i 0 j.length 1).isEmpty)) H) inS:=by
 intro x y dx dy b H G Q e sm rx ry q
 unfold inS at e
 split at e
 ·cases e
  rw[Ct]at rx ry
  exact⟨_,_,rx.1,ry.1,q⟩
 ·cases e
theorem Yxb(ha:ZC X a fa)(hb:ZC X b fb)(hm:behindInMarks .In b=false:=by with_unfolding_all rfl):ZE X (.Compare a [.In] [b] pos) (mB (b2 fa fb inS)):=⟨Yp2 Ypn Yxa ha.un hb.un hm⟩
def cutS(i:Int):D->Option D
 | .str s=>if s.length<=1000000 then some (.str (Txt.slice s (some i) none))else none
 | _=>none
end
end M
namespace M
open PySem PySem.Spec PyProof.Rows L2 Builtin Builtin.Str
variable {K:W.Frag}
def Its(x:Str):It:=⟨fun i _=>∃c,x.cps[i]?=some c,fun i H v H'=>H'=H/\∃c,x.cps[i]?=some c/\v=.str ⟨#[c]⟩,fun i _=>x.cps[i]?=none⟩
theorem Yt4{P:Program}{w:World}{K:W.Frag}{tg:Expr}(x:Str)(t:Tok)(it:Addr):Turn P w K tg (Its x) [it] it (fun i h=>h.IsStrIter it "str_ascii_iterator" x t i) where
 mem:=by simp
 obj:=fun i h st b hb=>by
  have e:b=it:=by simpa using hb
  subst e
  obtain⟨o,e,c,d⟩:=st
  exact⟨o,e,fun v z=>by rw[d]at z;cases z⟩
 keep:=fun i h h' st k=>by
  obtain⟨o,e,c,d⟩:=st
  exact⟨o,k it (by simp) o e,c,d⟩
 item:=by
  intro X hP hw hK hc i pins s σ H E I hf st hg
  subst hP hw hK
  obtain⟨c,hx⟩:=hg
  obtain⟨f0,f1,f2,f3,f4,f5⟩:=hf it (by simp)
  refine wpAny_pyNext_ascii_item st hx fun h' st' sb=>?_
  have I1:Inv X pins σ H { s with heap:=h',toks:=s.toks+1 }:=I.turned (t':=s.toks+1) (fun b o hb e=>(sb.2 b hb).trans e) f0 f1 f3 f4 f5
  obtain⟨o,e,c',d⟩:=id st'
  exact⟨_,rfl,Ysm (s:={ s with heap:=h',toks:=s.toks+1 }) e c' d (by decide) ⟨.str ⟨#[c]⟩,H,I1,⟨_,rfl⟩,⟨rfl,c,hx,rfl⟩,st',fun b hb=>(hf b hb).1⟩⟩
 done:=by
  intro X hP hw hK hc i pins s σ H E I hf st hg
  subst hP hw hK
  obtain⟨f0,f1,f2,f3,f4,f5⟩:=hf it (by simp)
  exact wpAny_pyNext_ascii_end (I.ok.hd hc) st hg fun h' eb=>⟨rfl,I.turned (t':=s.toks) (fun b o hb e=>eb b o hb e) f0 f1 f3 f4 f5⟩
 self:=fun A i s Q E st h=>by
  refine wpAny_pyIter_slot st.typeIs F.slot_str_ascii_iterator_iter (wpAny_call_entry F.slot_str_ascii_iterator_iter st.typeIs F.entry_str_ascii_iterator_iter ?_ (F.args_str_ascii_iterator_iter_1 _))
  show wpAny _ _ (ret (.ref it)) _ _ s
  exact wpAny_pure ⟨_,rfl,"str_ascii_iterator",_,st.typeIs,F.slot_str_ascii_iterator_next.lookup,h⟩
def iStr(te:TE):TI:=fun σ H R=>te σ H fun v H1=>∃x:Str,v=.str x/\x.cps.all (· < 128)=true/\R (Its x) H1
theorem Yz6{X:Cx}{tg e:Expr}{te:TE}(he:PE X e te):PI X tg e (iStr te):=by
 intro pins s σ H R I h
 refine thn (he pins s σ H _ I h) fun v s1 hx_=>?_
 obtain⟨x,H1,I1,r1,q1⟩:=hx_
 obtain⟨z,e,ha,q⟩:=q1
 subst e
 obtain⟨t,rfl⟩:=r1
 refine wpAny_pyIter_ascii ha ?_
 refine⟨s1.heap.objs.size,[s1.heap.objs.size],_,_,H1,rfl,I1.kept (t':=s1.toks) fun b o e=>qe _ e,Yt4 z t _,⟨_,qp _ rfl,rfl,rfl⟩,fun b hb=>?_,q⟩
 have e:b=s1.heap.objs.size:=by simpa using hb
 subst e
 exact I1.fpOk (qu _) (I1.hok.fresh (qu _))
def Yrd:D->Option (List D)
 | .str s=>if s.cps.all (· < 128)=true/\s.length<=1000000 then some (s.cps.toList.map fun c=>.str ⟨#[c]⟩)else none
 | _=>none
theorem Yxc{s:Str}{c:Nat}(ha:s.cps.all (· < 128)=true)(h:c∈s.cps.toList):PyData.strOk ⟨#[c]⟩=true:=by
 rw[<-Array.all_toList,List.all_eq_true]at ha
 have:=ha c h
 simp at this
 show(#[c]:Array Nat).all _=true
 simp
 lia
section
variable {X:Cx} {tg e a:Expr} {fa:Ro->Option D} {pos p px apos cpos:Pos} {x:Str}
theorem Yxd(ha:ZE X e fa):ZI X tg e (b1 fa Yrd):=⟨PI.imp (Yz6 ha.un) fun σ H R hx_=>by
 obtain⟨ρ,ds,H0,G0,G,er,s,h⟩:=hx_
 obtain⟨y,h1,h2⟩:=Ya3 er
 refine tOf.at h1 s fun v H1 G1 g1 r1 s1=>?_
 cases y with
 | str z=>
   change (if z.cps.all (· < 128)=true/\z.length<=1000000 then some (z.cps.toList.map fun c=>D.str ⟨#[c]⟩)else none)=some ds at h2
   split at h2
   ·rename_i hz
    cases h2
    rw[Rp]at r1
    obtain⟨rfl,hok⟩:=r1
    have hsl:=sizeLine_eq
    refine⟨z,rfl,hz.1,h _ H1 G1 g1 (Yo4 (by rw[qf,qj];have:=hz.2;show z.length<=_;lia) fun i H2 G2 e1 e2=>⟨fun d hd=>?_,fun hi=>?_⟩)⟩
    ·rw[qz]at hd
     obtain⟨c,hc,rfl⟩:=qc hd
     rw[Array.getElem?_toList]at hc
     refine⟨⟨c,hc⟩,fun v H3 q=>?_⟩
     obtain⟨rfl,c',hc',rfl⟩:=q
     rw[hc]at hc'
     cases hc'
     refine⟨rfl,?_⟩
     rw[Rp]
     exact⟨rfl,Yxc hz.1 (List.mem_of_getElem? (by rw[Array.getElem?_toList];exact hc))⟩
    ·rw[qf,qj]at hi
     exact Array.getElem?_eq_none hi
   ·cases h2
 | _=>cases h2⟩
def rSlS:V->Option Int->Option Int->Hp->VK->Prop:=fun x lo hi H Q=>∃z i,x=.str z/\lo=some i/\hi=none/\z.length<=1000000/\Q (.str (Txt.slice z (some i) none)) H
theorem Yz7:SlR X rSlS:=by
 intro pins s σ H x v vl vu lo hi sl Q I rx hs pl pu h
 obtain⟨z,i,rfl,rfl,rfl,hz,q⟩:=h
 obtain⟨t,rfl⟩:=rx
 cases pl with
 | int _ ti=>
   cases pu
   have hsl:=sizeLine_eq
   exact⟨"str",_,F.slot_str_getitem.lookup,typeIs_str _ _ _,wpAny_getItem_str_slice (l:=some (i,ti)) (u:=none) (st:=none) hs rfl (post_val_or_str ⟨qx (Txt.slice_le z (some i) none) (by lia),fun t' k=>⟨.str _,H,I.tok k,⟨t',rfl⟩,q⟩⟩)⟩
theorem Yt5{z:Str}{lo hi:Option Int}(h:PyData.strOk z=true):PyData.strOk (Txt.slice z lo hi)=true:=by
 unfold Txt.slice
 split
 ·exact h
 ·unfold PyData.strOk at h ⊢
  rw[<-Array.all_toList,List.all_eq_true]at h
  rw[List.all_toArray,List.all_eq_true]
  intro c hc
  obtain⟨j,_,hj⟩:=List.mem_filterMap.mp hc
  exact h c (by rw[<-Array.getElem?_toList]at hj;exact List.mem_of_getElem? hj)
theorem Yt6{i:Int}{p2:Pos}{j}(ha:ZE X a fa):ZE X (.Subscript a (.Slice (some (.Constant (.int i) j p)) none none p2) pos) (b1 fa (cutS i)):=
 ⟨PE.imp (Yny Yz7 ha.un (Ypw Ynu) Ypv) fun σ H Q hx_=>by
  obtain⟨ρ,d,H0,G0,G,er,s,h⟩:=hx_
  obtain⟨y,h1,h2⟩:=Ya3 er
  refine tOf.at h1 s fun v H1 G1 g1 r1 s1=>?_
  cases y with
  | str z=>
    change (if z.length<=1000000 then some (D.str (Txt.slice z (some i) none))else none)=some d at h2
    split at h2
    ·rename_i hz
     cases h2
     rw[Rp]at r1
     obtain⟨rfl,hok⟩:=r1
     exact⟨i,rfl,z,i,rfl,rfl,rfl,hz,h _ H1 G1 g1 (by rw[Rp];exact⟨rfl,Yt5 hok⟩)⟩
    ·cases h2
  | _=>cases h2⟩
def GS(mg:Str->Option Value)(x y:Str):Prop:=PyData.strOk y=true/\∃t,mg x=some (.str y t)
theorem Yt7{y:Str}(g:GS X.mg x y)(hg:Gl X x)(hd:(x==("__debug__":Str))=false:=by decide):ZE X (.Name x px) (kD (.str y)):=by
 obtain⟨hok,t,hm⟩:=g
 exact⟨Yew (v:=.str y) (Yj7 (v:=.str y) hg hm ⟨t,rfl⟩ hd) (fun _ _ _ q=>q) fun _=>by rw[Rp];exact⟨rfl,hok⟩⟩
end
end M
namespace M
open PySem PySem.Spec PyProof.Rows L2
section
variable {K:W.Frag}
structure ZTs(h:Heap)(z I O a b t u:Addr)(k:Nat)(f x y:Value)(xs ys:Array Value):Prop where
 zip:IsZip h z I O f
 ins:IsPair h I (.ref a) (.ref b)
 out:IsPair h O x y
 ita:h.IsTupleIter a t k
 itb:h.IsTupleIter b u k
 tua:h.IsTuple t xs
 tub:h.IsTuple u ys
section
variable {prog:Program} {w:World} {A:Around} {E:Value->Shared->Prop} {s:Shared} {z I O a b t u:Addr} {k:Nat} {xs ys:Array Value} {x y x0 y0:Value}
theorem IsTuple.but{h h':Heap}{t c:Addr}{xs:Array Value}(H:h.IsTuple t xs)(e:Heap.SameBut c h h')(n:t≠c):h'.IsTuple t xs:=H.at fun o q=>e.extBut t o n q
theorem IsTupleIter.but{h h':Heap}{t c i:Addr}{k:Nat}(H:h.IsTupleIter i t k)(e:Heap.SameBut c h h')(n:i≠c):h'.IsTupleIter i t k:=H.at fun o q=>e.extBut i o n q
theorem Yxe(D:ZipApart z I O a b t u)(Z:ZTs s.heap z I O a b t u k .none x0 y0 xs ys)(hx:xs[k]?=some x)(hy:ys[k]?=some y){Q:Option Value->Shared->Prop}
 (hQ:∀h',ZTs h' z I O a b t u (k+1) (rawInt s.heap.objs.size) x y xs ys->IsPair h' s.heap.objs.size x y->(∀c o,c∉[z,O,a,b]->s.heap.get? c=some o->h'.get? c=some o)->Q (some (.ref s.heap.objs.size)) { s with heap:=h' }) :
 wpAny (model prog w) A (pyNext (.ref z)) Q E s:=by
 have ty:s.TypeIs (.ref z) "zip":=⟨_,Z.zip,rfl⟩
 unfold pyNext
 refine wpAny_bind (wpAny_attempt (wpAny_callSpecial?_slot (name:=Str.ofString "__next__") ty F.slot_zip_next (wpAny_call_entry F.slot_zip_next ty F.entry_zip_next ?_ (F.args_zip_next_1 _))))
 show wpAny _ _ (field (.ref z) 2 >>= _) _ _ _
 refine wpAny_bind (wpAny_field Z.zip rfl (x:=.bool false) rfl ?_)
 show wpAny _ _ (field (.ref z) 3 >>= _) _ _ _
 refine wpAny_bind (wpAny_field Z.zip rfl (x:=.ref I) rfl (wpAny_bind (wpAny_seqItems Z.ins rfl ?_)))
 refine wpAny_bind (m:=Builtin.SmallTypes.ownedTupleIsFree (.ref z)) ?_
 unfold Builtin.SmallTypes.ownedTupleIsFree
 refine wpAny_bind (wpAny_field Z.zip rfl (x:=.none) rfl (wpAny_pure ?_))
 simp only[if_true]
 refine wpAny_bind (wpAny_rule (wpAny_bind (wpAny_field Z.zip rfl (x:=.ref O) rfl (wpAny_bind (wpAny_setField_rec Z.zip (by simp) fun p1 e1 s1=>?_)))))
 have z1:IsZip p1 z I O .ellipsis:=e1
 refine wpAny_bind ?_
 simp only[List.zipIdx_cons,List.zipIdx_nil,List.forIn_cons,List.forIn_nil]
 refine wpAny_bind (wpAny_bind (wpAny_onRaise ?_))
 refine wpAny_bind (m:=Builtin.SmallTypes.nextOf (.ref a)) (Yb8 (IsTupleIter.but Z.ita s1 D.i1z) (IsTuple.but Z.tua s1 D.l1z) hx fun p2 i2 s2=>wpAny_pure ?_)
 have o2:IsPair p2 O x0 y0:=s2.extBut _ _ D.TOi1 (s1.extBut _ _ D.TOz Z.out)
 refine wpAny_bind (wpAny_seqItems o2 rfl (wpAny_bind (wpAny_updateSeq_pair o2 fun p3 e3 s3=>?_)))
 have o3:IsPair p3 O x y0:=e3
 refine wpAny_bind (wpAny_letGo (wpAny_pure ?_))
 refine wpAny_bind (wpAny_bind (wpAny_onRaise ?_))
 refine wpAny_bind (m:=Builtin.SmallTypes.nextOf (.ref b)) (Yb8 (IsTupleIter.but (IsTupleIter.but (IsTupleIter.but Z.itb s1 D.i2z) s2 (Ne.symm D.i12)) s3 (Ne.symm D.TOi2)) (IsTuple.but (IsTuple.but (IsTuple.but Z.tub s1 D.l2z) s2 D.l2i1) s3 D.l2TO) hy fun p4 i4 s4=>wpAny_pure ?_)
 have o4:IsPair p4 O x y0:=s4.extBut _ _ D.TOi2 o3
 refine wpAny_bind (wpAny_seqItems o4 rfl (wpAny_bind (wpAny_updateSeq_pair o4 fun p5 e5 s5=>?_)))
 have o5:IsPair p5 O x y:=e5
 refine wpAny_bind (wpAny_letGo (wpAny_pure (wpAny_pure ?_)))
 refine wpAny_bind (wpAny_seqItems o5 rfl (wpAny_bind (wpAny_newTuple ?_)))
 have sz:p5.objs.size=s.heap.objs.size:=by rw[s5.1,s4.1,s3.1,s2.1,s1.1]
 have z5:IsZip p5 z I O .ellipsis:=s5.extBut _ _ (Ne.symm D.TOz) (s4.extBut _ _ (Ne.symm D.i2z) (s3.extBut _ _ (Ne.symm D.TOz) (s2.extBut _ _ (Ne.symm D.i1z) z1)))
 have a5:p5.IsTupleIter a t (k+1):=IsTupleIter.but (IsTupleIter.but (IsTupleIter.but i2 s3 (Ne.symm D.TOi1)) s4 D.i12) s5 (Ne.symm D.TOi1)
 have b5:p5.IsTupleIter b u (k+1):=IsTupleIter.but i4 s5 (Ne.symm D.TOi2)
 have old:∀c o,c∉[z,O,a,b]->s.heap.get? c=some o->p5.get? c=some o:=fun c o n q=>by
  have n1:c≠z:=fun e=>n (by simp[e])
  have n2:c≠O:=fun e=>n (by simp[e])
  have n3:c≠a:=fun e=>n (by simp[e])
  have n4:c≠b:=fun e=>n (by simp[e])
  exact s5.extBut _ _ n2 (s4.extBut _ _ n4 (s3.extBut _ _ n2 (s2.extBut _ _ n3 (s1.extBut _ _ n1 q))))
 have lz:z < p5.objs.size:=ql z5
 refine wpAny_bind (m:=Builtin.SmallTypes.ownedTupleHandOut (.ref z) (.ref p5.objs.size)) ?_
 unfold Builtin.SmallTypes.ownedTupleHandOut
 have z6:IsZip (p5.push { cls:=.type "tuple",data:=.seq #[x,y] }) z I O .ellipsis:=qe _ z5
 refine wpAny_bind (wpAny_setField_rec z6 (by simp) fun p7 e7 s7=>?_)
 have z7:IsZip p7 z I O (rawInt p5.objs.size):=e7
 refine wpAny_setField_rec z7 (by simp) fun p8 e8 s8=>?_
 have z8:IsZip p8 z I O (rawInt p5.objs.size):=e8
 have up:∀c o,c≠z->p5.get? c=some o->p8.get? c=some o:=fun c o n q=>s8.extBut _ _ n (s7.extBut _ _ n (qe _ q))
 have nw:IsPair p8 p5.objs.size x y:=s8.extBut _ _ (Nat.ne_of_gt lz) (s7.extBut _ _ (Nat.ne_of_gt lz) (qp _ rfl))
 rw[sz]at z8 nw
 refine wpAny_pure ⟨_,rfl,wpAny_pure ?_⟩
 show Q (some (.ref p5.objs.size)) _
 rw[sz]
 have keepI:p8.get? I=some _:=up _ _ D.TIz (old I _ (by simp[D.TIz,D.TITO,D.TIi1,D.TIi2]) Z.ins)
 have t8:p8.IsTuple t xs:=Z.tua.at fun o q=>up t o D.l1z (old t o (by simp[D.l1z,D.l1TO,D.l1i1,D.l1i2]) q)
 have u8:p8.IsTuple u ys:=Z.tub.at fun o q=>up u o D.l2z (old u o (by simp[D.l2z,D.l2TO,D.l2i1,D.l2i2]) q)
 exact hQ p8 ⟨z8,keepI,up _ _ D.TOz o5,a5.at fun o q=>up _ o D.i1z q,b5.at fun o q=>up _ o D.i2z q,t8,u8⟩ nw fun c o n q=>up c o (fun e=>n (by simp[e])) (old c o n q)
theorem Yz8(hh:A.handled=none)(D:ZipApart z I O a b t u)(Z:ZTs s.heap z I O a b t u k .none x0 y0 xs ys)(hend:xs[k]?=none\/ys[k]?=none){Q:Option Value->Shared->Prop}
 (hQ:∀h',(∀c o,c∉[z,O,a,b]->s.heap.get? c=some o->h'.get? c=some o)->Q none { s with heap:=h' }):wpAny (model prog w) A (pyNext (.ref z)) Q E s:=by
 have ty:s.TypeIs (.ref z) "zip":=⟨_,Z.zip,rfl⟩
 unfold pyNext
 refine wpAny_bind (wpAny_attempt (wpAny_callSpecial?_slot (name:=Str.ofString "__next__") ty F.slot_zip_next (wpAny_call_entry F.slot_zip_next ty F.entry_zip_next ?_ (F.args_zip_next_1 _))))
 show wpAny _ _ (field (.ref z) 2 >>= _) _ _ _
 refine wpAny_bind (wpAny_field Z.zip rfl (x:=.bool false) rfl ?_)
 show wpAny _ _ (field (.ref z) 3 >>= _) _ _ _
 refine wpAny_bind (wpAny_field Z.zip rfl (x:=.ref I) rfl (wpAny_bind (wpAny_seqItems Z.ins rfl ?_)))
 refine wpAny_bind (m:=Builtin.SmallTypes.ownedTupleIsFree (.ref z)) ?_
 unfold Builtin.SmallTypes.ownedTupleIsFree
 refine wpAny_bind (wpAny_field Z.zip rfl (x:=.none) rfl (wpAny_pure ?_))
 simp only[if_true]
 refine wpAny_bind (wpAny_rule (wpAny_bind (wpAny_field Z.zip rfl (x:=.ref O) rfl (wpAny_bind (wpAny_setField_rec Z.zip (by simp) fun p1 e1 s1=>?_)))))
 have z1:IsZip p1 z I O .ellipsis:=e1
 refine wpAny_bind ?_
 simp only[List.zipIdx_cons,List.zipIdx_nil,List.forIn_cons,List.forIn_nil]
 refine wpAny_bind (wpAny_bind (wpAny_onRaise ?_))
 cases hx:xs[k]? with
 | none=>
   refine wpAny_bind (m:=Builtin.SmallTypes.nextOf (.ref a)) (Yd5 hh (IsTupleIter.but Z.ita s1 D.i1z) (IsTuple.but Z.tua s1 D.l1z) hx fun p2 e s2 he=>?_)
   obtain⟨oe,q1,q2⟩:=he
   have z2:IsZip p2 z I O .ellipsis:=s2 _ _ (Ne.symm D.i1z) z1
   have ne:e≠z:=fun h=>by subst h;rw[z2]at q1;cases q1;simp at q2
   refine wpAny_setField_rec z2 (by simp) fun p3 _ s3=>?_
   refine wpAny_bind (wpAny_isInstance (T:="StopIteration") (b:=true) ⟨oe,s3.extBut _ _ ne q1,q2⟩ isSubtype_stop (wpAny_pure (hQ p3 fun c o n q=>?_)))
   exact s3.extBut _ _ (fun h=>n (by simp[h])) (s2 _ _ (fun h=>n (by simp[h])) (s1.extBut _ _ (fun h=>n (by simp[h])) q))
 | some x=>
   have hy:ys[k]?=none:=by
    rcases hend with h | h
    ·rw[hx]at h;cases h
    ·exact h
   refine wpAny_bind (m:=Builtin.SmallTypes.nextOf (.ref a)) (Yb8 (IsTupleIter.but Z.ita s1 D.i1z) (IsTuple.but Z.tua s1 D.l1z) hx fun p2 i2 s2=>wpAny_pure ?_)
   have o2:IsPair p2 O x0 y0:=s2.extBut _ _ D.TOi1 (s1.extBut _ _ D.TOz Z.out)
   refine wpAny_bind (wpAny_seqItems o2 rfl (wpAny_bind (wpAny_updateSeq_pair o2 fun p3 e3 s3=>?_)))
   refine wpAny_bind (wpAny_letGo (wpAny_pure ?_))
   refine wpAny_bind (wpAny_bind (wpAny_onRaise ?_))
   refine wpAny_bind (m:=Builtin.SmallTypes.nextOf (.ref b)) (Yd5 hh (IsTupleIter.but (IsTupleIter.but (IsTupleIter.but Z.itb s1 D.i2z) s2 (Ne.symm D.i12)) s3 (Ne.symm D.TOi2)) (IsTuple.but (IsTuple.but (IsTuple.but Z.tub s1 D.l2z) s2 D.l2i1) s3 D.l2TO) hy fun p4 e s4 he=>?_)
   obtain⟨oe,q1,q2⟩:=he
   have z4:IsZip p4 z I O .ellipsis:=s4 _ _ (Ne.symm D.i2z) (s3.extBut _ _ (Ne.symm D.TOz) (s2.extBut _ _ (Ne.symm D.i1z) z1))
   have ne:e≠z:=fun h=>by subst h;rw[z4]at q1;cases q1;simp at q2
   refine wpAny_setField_rec z4 (by simp) fun p5 _ s5=>?_
   refine wpAny_bind (wpAny_isInstance (T:="StopIteration") (b:=true) ⟨oe,s5.extBut _ _ ne q1,q2⟩ isSubtype_stop (wpAny_pure (hQ p5 fun c o n q=>?_)))
   have n1:c≠z:=fun h=>n (by simp[h])
   have n2:c≠O:=fun h=>n (by simp[h])
   have n3:c≠a:=fun h=>n (by simp[h])
   have n4:c≠b:=fun h=>n (by simp[h])
   exact s5.extBut _ _ n1 (s4 _ _ n4 (s3.extBut _ _ n2 (s2.extBut _ _ n3 (s1.extBut _ _ n1 q))))
end
end
section
variable {K:W.Frag}
abbrev itO(t:Addr):Obj:={ cls:=.type "tuple_iterator",data:=.fields #[.ref t,.int 0 0] }
abbrev zA(h:Heap)(t:Addr):Heap:=h.push (itO t)
abbrev zB(h:Heap)(t u:Addr):Heap:=(zA h t).push (itO u)
abbrev pO(x y:Value):Obj:={ cls:=.type "tuple",data:=.seq #[x,y] }
abbrev zC(h:Heap)(t u:Addr):Heap:=(zB h t u).push (pO (.ref h.objs.size) (.ref (zA h t).objs.size))
abbrev zD(h:Heap)(t u:Addr):Heap:=(zC h t u).push (pO .none .none)
abbrev zO(i o:Addr):Obj:={ cls:=.type "zip",data:=.fields #[.none,.bool false,.bool false,.ref i,.ref o] }
abbrev zH(h:Heap)(t u:Addr):Heap:=(zD h t u).push (zO (zB h t u).objs.size (zC h t u).objs.size)
theorem Yt8(t u:Addr)(xs ys:Array Value):Meets (Builtin.«zip.__new__» ⟨[.type "zip",.ref t,.ref u],[]⟩) (fun _ R s=>s.heap.IsTuple t xs/\s.heap.IsTuple u ys/\R (.ok (.ret (.ref (zD s.heap t u).objs.size))) { s with heap:=zH s.heap t u }):=
 .of_wp fun prog w A R s h=>by
  obtain⟨hp,g,d,tk,os⟩:=s
  obtain⟨h1,h2,h⟩:=h
  have hsub:=sub_zip
  have q1:Heap.IsTuple (Shared.heap ⟨hp,g,d,tk,os⟩) t xs:=h1
  have q2:Heap.IsTuple (Shared.heap ⟨hp.push (itO t),g,d,tk,os⟩) u ys:=Heap.IsTuple.push h2 _
  wp_walk using wpAny_pyIter_tuple q1,wpAny_pyIter_tuple q2
  exact⟨_,rfl,h⟩
section
variable {prog:Program} {w:World} {A:Around} {E:Value->Shared->Prop} {s:Shared} {t u:Addr} {xs ys:Array Value}
theorem Yz9{n t u:Nat}(ht:t < n)(hu:u < n):ZipApart (n+4) (n+2) (n+3) n (n+1) t u:=by
 constructor<;>exact fun(e:@Eq Nat _ _)=>by lia
theorem Yre{Q:Value->Shared->Prop}(h1:s.heap.IsTuple t xs)(h2:s.heap.IsTuple u ys)
 (h:∀h',ZTs h' (s.heap.objs.size+4) (s.heap.objs.size+2) (s.heap.objs.size+3) s.heap.objs.size (s.heap.objs.size+1) t u 0 .none .none .none xs ys->(∀c o,s.heap.get? c=some o->h'.get? c=some o)->Q (.ref (s.heap.objs.size+4)) { s with heap:=h' }) :
 wpAny (model prog w) A (call (.type "zip") [.ref t,.ref u]) Q E s:=by
 refine callType_new F.called_zip (by decide) (F.typeCall_zip_2 _ _) (F.newCall_zip_2 _ _) (fun obj=>F.args_object_init_3 obj _ _) F.entry_zip_new (Yt8 t u xs ys) ⟨h1,h2,?_⟩
 have e1:(zA s.heap t).objs.size=s.heap.objs.size+1:=Heap.size_push ..
 have e2:(zB s.heap t u).objs.size=s.heap.objs.size+2:=by rw[Heap.size_push,e1]
 have e3:(zC s.heap t u).objs.size=s.heap.objs.size+3:=by rw[Heap.size_push,e2]
 have e4:(zD s.heap t u).objs.size=s.heap.objs.size+4:=by rw[Heap.size_push,e3]
 have up:∀c o,s.heap.get? c=some o->(zH s.heap t u).get? c=some o:=fun c o q=>qe _ (qe _ (qe _ (qe _ (qe _ q))))
 have g0:(zH s.heap t u).get? s.heap.objs.size=some (itO t):=qe _ (qe _ (qe _ (qe _ (qp _ rfl))))
 have g1:(zH s.heap t u).get? (zA s.heap t).objs.size=some (itO u):=qe _ (qe _ (qe _ (qp _ rfl)))
 have g2:(zH s.heap t u).get? (zB s.heap t u).objs.size=some (pO (.ref s.heap.objs.size) (.ref (zA s.heap t).objs.size)):=qe _ (qe _ (qp _ rfl))
 have g3:(zH s.heap t u).get? (zC s.heap t u).objs.size=some (pO .none .none):=qe _ (qp _ rfl)
 have g4:(zH s.heap t u).get? (zD s.heap t u).objs.size=some (zO (zB s.heap t u).objs.size (zC s.heap t u).objs.size):=qp _ rfl
 show _/\_
 rw[e1]at g1
 rw[e1,e2]at g2
 rw[e3]at g3
 rw[e2,e3,e4]at g4
 rw[e4]
 exact⟨⟨_,g4,rfl⟩,h _ ⟨g4,g2,g3,⟨_,g0,rfl,rfl⟩,⟨_,g1,rfl,rfl⟩,h1.at fun o q=>up _ o q,h2.at fun o q=>up _ o q⟩ up⟩
end
theorem Yji{X:Cx}{pins:List (Addr × Obj)}{σ:L2.St}{H:Hp}{s:Shared}{h':Heap}{t':Nat}{ch:List Addr}(I:Inv X pins σ H s)(hf:∀b∈ch,FpOk X pins H b)
 (k:∀b u,b∉ch->s.heap.get? b=some u->h'.get? b=some u):Inv X pins σ H { s with heap:=h',toks:=t' }:=by
 have nch:∀b u,H b=some u->b∉ch:=fun b u e z=>by rw[(hf b z).1]at e;cases e
 refine I.step (g':=s.gens) (d':=s.drawn) (ch:=ch) (fun b hb=>?_) (fun b u _ _ hc e _=>k b u hc e) (fun b u _ _ hc e _=>⟨u.slots,k b u hc e⟩) (fun b u _ e n=>n)
  (fun b u hc e=>⟨u,k b u hc e⟩) (fun b xs e=>e) (fun b u xs e=>e) (fun b ps e=>⟨#[],by rw[e];simp⟩) (fun m hm=>?_) (fun b u e=>?_) I.bare
 ·obtain⟨_,f1,_,f3,f4,f5⟩:=hf b hb
  exact⟨f3,f1,f4,f5⟩
 ·obtain⟨ob,es,ep,ho,r⟩:=hm
  exact⟨ob,es,ep,k _ ob (fun z=>(hf _ z).2.1 rfl) ho,r⟩
 ·refine(I.hok b u e).stay (fun c v hc q=>k c v ?_ q) (fun c q=>q) fun c xs q=>q
  rcases hc with z | z
  ·rw[z];exact nch b u e
  ·exact nch c _ z
structure ZTt(h:Heap)(z I O a b t u:Addr)(k:Nat)(f x y:Value):Prop where
 zip:IsZip h z I O f
 ins:IsPair h I (.ref a) (.ref b)
 out:IsPair h O x y
 ita:h.IsTupleIter a t k
 itb:h.IsTupleIter b u k
def IteZ(K:W.Frag)(t u:Addr):It:=
 ⟨fun i H=>∃xs ys x y,SqT K H t xs/\SqT K H u ys/\xs[i]?=some x/\ys[i]?=some y,fun i H v H'=>∃x y p,(∀xs ys,SqT K H t xs->SqT K H u ys->xs[i]?=some x/\ys[i]?=some y)/\H p=none/\v=.ref p/\H'=upd H p (.tup [x,y]),fun i H=>∃xs ys,SqT K H t xs/\SqT K H u ys/\(xs.length<=i\/ys.length<=i)⟩
section
variable {elts:List Expr} {x1:Nat} {pt:Pos}
theorem Yt9{P:Program}{w:World}(t u z I O a b:Addr)(D:ZipApart z I O a b t u):Turn P w K (.Tuple elts x1 pt) (IteZ K t u) [z,I,O,a,b] z (fun i h=>∃x0 y0,ZTt h z I O a b t u i .none x0 y0) where
 mem:=by simp
 obj:=fun i h st c hc=>by
  obtain⟨x0,y0,Z⟩:=st
  simp only[List.mem_cons,List.not_mem_nil,or_false]at hc
  rcases hc with rfl | rfl | rfl | rfl | rfl
  ·exact⟨_,Z.zip,fun v q=>by cases q⟩
  ·exact⟨_,Z.ins,fun v q=>by cases q⟩
  ·exact⟨_,Z.out,fun v q=>by cases q⟩
  ·obtain⟨o,q,c,d⟩:=Z.ita
   exact⟨o,q,fun v z=>by rw[d]at z;cases z⟩
  ·obtain⟨o,q,c,d⟩:=Z.itb
   exact⟨o,q,fun v z=>by rw[d]at z;cases z⟩
 keep:=fun i h h' st k=>by
  obtain⟨x0,y0,Z⟩:=st
  exact⟨x0,y0,k z (by simp) _ Z.zip,k I (by simp) _ Z.ins,k O (by simp) _ Z.out,Z.ita.at fun o q=>k a (by simp) o q,Z.itb.at fun o q=>k b (by simp) o q⟩
 item:=by
  intro X hP hw hK hc i pins s σ H E J hf st hg
  subst hP hw hK
  obtain⟨xs,ys,x,y,hq,hq',hx,hy⟩:=hg
  obtain⟨its,rv,p,hz⟩:=J.tuple hq
  obtain⟨its',rv',p',hz'⟩:=J.tuple hq'
  obtain⟨v,hv,ru⟩:=rv.get hx
  obtain⟨v',hv',ru'⟩:=rv'.get hy
  obtain⟨x0,y0,Z⟩:=st
  refine Yxe (x:=v) (y:=v') D ⟨Z.zip,Z.ins,Z.out,Z.ita,Z.itb,p,p'⟩ (by simpa using hv) (by simpa using hv') fun h' Z' nw kk=>?_
  refine⟨_,rfl,wpAny_letOwnedTupleGo_zip Z'.zip fun h2 z2 s2=>?_⟩
  have fr:H s.heap.objs.size=none:=J.fresh
  have hne:∀c∈[z,I,O,a,b],c≠s.heap.objs.size:=fun c hc q=>by
   have:∃o,s.heap.get? c=some o:=by
    simp only[List.mem_cons,List.not_mem_nil,or_false]at hc
    rcases hc with rfl | rfl | rfl | rfl | rfl
    ·exact⟨_,Z.zip⟩
    ·exact⟨_,Z.ins⟩
    ·exact⟨_,Z.out⟩
    ·obtain⟨o,q,_⟩:=Z.ita;exact⟨o,q⟩
    ·obtain⟨o,q,_⟩:=Z.itb;exact⟨o,q⟩
   obtain⟨o,e⟩:=this
   exact absurd (ql e) (by rw[q];exact Nat.lt_irrefl _)
  have k2:∀c o,c∉[z,I,O,a,b]->s.heap.get? c=some o->h2.get? c=some o:=fun c o hc q=>by
   have h1:c≠z:=fun e=>hc (by simp[e])
   exact s2.extBut _ _ h1 (kk c o (fun e=>hc (by simp only[List.mem_cons,List.not_mem_nil,or_false]at e ⊢;rcases e with e | e | e | e<;>simp[e])) q)
  have tT:IsPair h2 s.heap.objs.size v v':=s2.extBut _ _ (Ne.symm (hne z (by simp))) nw
  refine⟨.ref s.heap.objs.size,upd H s.heap.objs.size (.tup [x,y]),(show Inv X pins σ _ { s with heap:=h2,toks:=s.toks } from Ykf (s:=s) (t':=s.toks) J hf k2 (qu _) ?_),rfl,⟨x,y,s.heap.objs.size,fun xs' ys' q q'=>by rw[J.tuple_inj q hq,J.tuple_inj q' hq'];exact⟨hx,hy⟩,fr,rfl,rfl⟩,⟨v,v',?_⟩,fun c hc=>?_⟩
  ·exact⟨by rw[sizeLine_eq];show 2<=16777216;decide,[v,v'],.cons ru (.cons ru' .nil),_,tT,rfl,0,rfl⟩
  ·exact⟨z2,s2.extBut _ _ D.TIz Z'.ins,s2.extBut _ _ D.TOz Z'.out,IsTupleIter.but Z'.ita s2 D.i1z,IsTupleIter.but Z'.itb s2 D.i2z⟩
  ·rw[Yk (hne c hc)];exact(hf c hc).1
 done:=by
  intro X hP hw hK hc i pins s σ H E J hf st hg
  subst hP hw hK
  obtain⟨xs,ys,hq,hq',hlen⟩:=hg
  obtain⟨its,rv,p,hz⟩:=J.tuple hq
  obtain⟨its',rv',p',hz'⟩:=J.tuple hq'
  have l1:=rv.length
  have l2:=rv'.length
  obtain⟨x0,y0,Z⟩:=st
  refine Yz8 (J.ok.hd hc) D (xs:=its.toArray) (ys:=its'.toArray) ⟨Z.zip,Z.ins,Z.out,Z.ita,Z.itb,p,p'⟩ ?_ fun h' kk=>⟨rfl,Yji (t':=s.toks) J hf fun c o hc e=>kk c o (fun q=>hc ?_) e⟩
  ·rcases hlen with q | q
   ·exact .inl (by simp;lia)
   ·exact .inr (by simp;lia)
  ·simp only[List.mem_cons,List.not_mem_nil,or_false]at q ⊢
   rcases q with q | q | q | q<;>simp[q]
 self:=fun _ _ _ _ _ st h=>let ⟨_,_,Z⟩:=st;wpAny_pyIter_zip Z.zip h
end
end
section
variable {K:W.Frag}
def SEK(w:World):List DictEntry->List Str->Prop:=Paired fun e k=>e.hash=PyData.keyHash w.params k/\∃t,e.key=.str k t
def GK(K:W.Frag)(w:World)(mg:Str->Option Value)(x:Str)(ks:List Str):Prop:=∃p o es ep,mg x=some (.ref p)/\(p==sysModules)=false/\K.lookup p=some o/\o.ExactDict/\o.data=.dict es ep/\SEK w es.toList ks
def SEA(w:World):List DictEntry->List (Str × Addr)->Prop:=Paired fun e p=>e.hash=PyData.keyHash w.params p.1/\(∃t,e.key=.str p.1 t)/\e.val=.ref p.2
def GDA(K:W.Frag)(w:World)(mg:Str->Option Value)(x:Str)(kvs:List (Str × Addr)):Prop:=∃p o es ep,mg x=some (.ref p)/\K.lookup p=some o/\o.ExactDict/\o.data=.dict es ep/\SEA w es.toList kvs
theorem SEA.keys{w:World}:∀{l:List DictEntry} {kvs:List (Str × Addr)},SEA w l kvs->SEK w l (kvs.map (·.1))
 | _,_,.nil=>.nil
 | _,_,.cons r t=>.cons ⟨r.1,r.2.1⟩ (SEA.keys t)
theorem Yrf{P:Program}{w:World}{k:Str}:∀{l:List DictEntry} {ks:List Str},SEK w l ks->(l.find? (fun e=>(PySem.strKind P w).is k e.key)).isSome=decide (k∈ks)
 | _,_,.nil=>by simp
 | _,_,.cons (a:=e) (b:=a) r t=>by
   obtain⟨_,⟨t1,h1⟩⟩:=r
   have ih:=Yrf (P:=P) (k:=k) t
   rw[List.find?_cons]
   have he:(PySem.strKind P w).is k e.key=(a==k):=by rw[h1];rfl
   rw[he]
   by_cases q:a=k
   ·subst q;simp
   ·have hn:(a==k)=false:=by simpa using q
    have q':¬k=a:=fun z=>q z.symm
    rw[hn]
    simp[ih,q']
theorem Yex{P:Program}{w:World}:∀{l:List DictEntry} {ks:List Str},SEK w l ks->∀e∈l,∃k,(PySem.strKind P w).is k e.key=true/\e.hash=(PySem.strKind P w).hash k
 | _,_,.nil,e,h=>by cases h
 | _,_,.cons (b:=p) r t,e,h=>by
   rcases qt h with rfl | h
   ·obtain⟨h0,⟨t1,h1⟩⟩:=r
    exact⟨p,by rw[h1];simp[PySem.strKind,Value.isStrOf],h0⟩
   ·exact Yex t e h
theorem Yoi{P:Program}{w:World}{k:Str}{v:Addr}:∀{l:List DictEntry} {kvs:List (Str × Addr)},SEA w l kvs->kvs.lookup k=some v->∃e,l.find? (fun e=>(PySem.strKind P w).is k e.key)=some e/\e.val=.ref v
 | _,_,.nil,h=>by simp at h
 | _,_,.cons (a:=e) (b:=p) r t,h=>by
   obtain⟨_,⟨t1,h1⟩,h2⟩:=r
   obtain⟨a,b⟩:=p
   have he:(PySem.strKind P w).is k e.key=(a==k):=by rw[h1];rfl
   rw[List.find?_cons,he]
   by_cases q:a=k
   ·subst q
    simp at h
    subst h
    exact⟨e,by simp,h2⟩
   ·have hn:(a==k)=false:=by simpa using q
    have hn':(k==a)=false:=by simpa using fun z:k=a=>q z.symm
    rw[hn]
    exact Yoi t (by simpa [Qb,hn']using h)
def Ye7(kvs:List (Str × Addr)):D->Option D
 | .str k=>(kvs.lookup k).map D.adr
 | _=>none
section
variable {X:Cx} {a:Expr} {fa:Ro->Option D} {pos px:Pos} {x:Str} {ks:List Str}
theorem Yey{ke:Expr}{fk:Ro->Option D}{kvs:List (Str × Addr)}(g:GDA X.K X.w X.mg x kvs)(hg:Gl X x)(hk:ZC X ke fk)(hs:NoSl ke:=by intro _ _;rfl)(hd:(x==("__debug__":Str))=false:=by decide):ZE X (.Subscript (.Name x px) ke pos) (b1 fk (Ye7 kvs)):=by
 obtain⟨p,o,es,ep,hm,hl,hx,hdt,hse⟩:=g
 refine⟨fun pins s σ H Q I hx_=>?_⟩
 obtain⟨ρ,d,H0,G0,G,e,sr,h⟩:=hx_
 obtain⟨dk,h1,h2⟩:=Ya3 e
 refine Ymq PySem.F.slot_dict_getitem.lookup hs (Yfg I hg hm ?_ hd)
 refine thn (hk.un pins s σ H (fun(v':V) (H':Hp)=>∃k r,v'=.str k/\kvs.lookup k=some r/\Q (.ref r) H') I (tCof.at h1 sr fun v H1 G1 g1 r1 s1=>?_)) fun iv s2 q0=>?_
 ·unfold Ye7 at h2
  split at h2
  ·rename_i k
   obtain⟨r,h3,rfl⟩:=qc h2
   rw[Ct]at r1
   exact⟨k,r,r1.1,h3,h _ H1 G1 g1 (by rw[Rp])⟩
  ·cases h2
 ·obtain⟨y,H2,I2,ry,k,r,rfl,h3,q⟩:=q0
  obtain⟨t,rfl⟩:=ry
  have ho:s2.heap.get? p=some o:=I2.kIn p o hl
  obtain⟨e',f1,f2⟩:=Yoi (P:=X.prog) hse h3
  refine⟨⟨o,ho,hx.1⟩,wpAny_getItem_of (knd:=PySem.strKind X.prog X.w) (k:=k) (f:=fun k=>findBy (PySem.strKind X.prog X.w).is es k) (v:=.ref r) (by simp[PySem.strKind,Value.isStrOf]) ⟨o,es,ep,ho,hx,hdt,?_,fun _=>rfl⟩ ?_ ⟨.ref r,H2,I2.tok _,rfl,q⟩⟩
  ·intro e'' he
   exact Yex hse.keys e'' (by simpa using he)
  ·show(es.find? fun e=>(PySem.strKind X.prog X.w).is k e.key).map (·.val)=_
   rw[<-Array.find?_toList,f1,Option.map_some,f2]
theorem Yu4{p:Addr}{o:Obj}{es:Array DictEntry}{ep:Nat}(hp:(p==sysModules)=false)(hl:X.K.lookup p=some o)(hx:o.ExactDict)(hd:o.data=.dict es ep)(hs:SEK X.w es.toList ks):OpR X (compareOp .In) (rInG p ks false)/\OpR X (compareOp .NotIn) (rInG p ks true):=by
 have hf:∀k,(findBy (PySem.strKind X.prog X.w).is es k).isSome=decide (k∈ks):=fun k=>by
  show((es.find? fun e=>(PySem.strKind X.prog X.w).is k e.key).map (·.val)).isSome=_
  rw[<-Array.find?_toList,Option.isSome_map,Yrf hs]
 constructor
 ·intro pins s σ H x y v u Q I rx ry h
  obtain⟨k,rfl,hk,rfl,q⟩:=h
  cases ry
  obtain⟨t,rfl⟩:=rx
  refine wpAny_in_of (knd:=PySem.strKind X.prog X.w) (k:=k) (f:=fun k=>findBy (PySem.strKind X.prog X.w).is es k) (by simp[PySem.strKind,Value.isStrOf]) hp ⟨o,es,ep,I.kIn p o hl,hx,hd,fun e he=>Yex hs e (by simpa using he),fun _=>rfl⟩ ⟨.bl _,H,I.tok _,rfl,?_⟩
  rw[hf k]
  have e:decide (k∈ks)=(decide (k∈ks) != false):=by cases decide (k∈ks)<;>rfl
  rw[e]
  exact q
 ·intro pins s σ H x y v u Q I rx ry h
  obtain⟨k,rfl,hk,rfl,q⟩:=h
  cases ry
  obtain⟨t,rfl⟩:=rx
  refine wpAny_notIn_of (knd:=PySem.strKind X.prog X.w) (k:=k) (f:=fun k=>findBy (PySem.strKind X.prog X.w).is es k) (by simp[PySem.strKind,Value.isStrOf]) hp ⟨o,es,ep,I.kIn p o hl,hx,hd,fun e he=>Yex hs e (by simpa using he),fun _=>rfl⟩ ⟨.bl _,H,I.tok _,rfl,?_⟩
  rw[hf k]
  have e:(!decide (k∈ks))=(decide (k∈ks) != true):=by cases decide (k∈ks)<;>rfl
  rw[e]
  exact q
theorem Yrg(g:GK X.K X.w X.mg x ks)(hg:Gl X x)(ha:ZC X a fa)(hm:behindInMarks .In (.Name x px)=false:=by with_unfolding_all rfl)(hd:(x==("__debug__":Str))=false:=by decide):ZT X (.Compare a [.In] [.Name x px] pos) (b1 fa (inG false ks)):=by
 obtain⟨p,o,es,ep,hmg,hp,hl,hx,hdt,hs⟩:=g
 refine⟨PT.imp (Ymp (Yu4 hp hl hx hdt hs).1 ha.un (Yj7 (v:=.ref p) hg hmg rfl hd) hm) fun σ H Q ⟨ρ,b,H0,G0,G,e,s,h⟩=>?_⟩
 obtain⟨d,h1,h2⟩:=Ya3 e
 refine tCof.at h1 s fun v H1 G1 g1 r1 s1=>?_
 unfold inG at h2
 split at h2
 ·rename_i k
  cases h2
  rw[Ct]at r1
  exact⟨k,r1.1,r1.2,rfl,_,rfl,h H1 G1 g1⟩
 ·cases h2
theorem Ygh(g:GK X.K X.w X.mg x ks)(hg:Gl X x)(ha:ZC X a fa)(hm:behindInMarks .NotIn (.Name x px)=false:=by with_unfolding_all rfl)(hd:(x==("__debug__":Str))=false:=by decide):ZT X (.Compare a [.NotIn] [.Name x px] pos) (b1 fa (inG true ks)):=by
 obtain⟨p,o,es,ep,hmg,hp,hl,hx,hdt,hs⟩:=g
 refine⟨PT.imp (Ymp (Yu4 hp hl hx hdt hs).2 ha.un (Yj7 (v:=.ref p) hg hmg rfl hd) hm) fun σ H Q ⟨ρ,b,H0,G0,G,e,s,h⟩=>?_⟩
 obtain⟨d,h1,h2⟩:=Ya3 e
 refine tCof.at h1 s fun v H1 G1 g1 r1 s1=>?_
 unfold inG at h2
 split at h2
 ·rename_i k
  cases h2
  rw[Ct]at r1
  exact⟨k,r1.1,r1.2,rfl,_,rfl,h H1 G1 g1⟩
 ·cases h2
end
def KT1(K:W.Frag)(a:Addr)(ss:List Str):Prop:=∃o its n,K.lookup a=some o/\o.cls=.type "tuple"/\o.data=.seq its n/\its.size<=sizeLine/\Yzu its.toList ss
def KTs(K:W.Frag):List (Addr × List Str)->Prop
 | []=>True
 | q::l=>KT1 K q.1 q.2/\KTs K l
theorem KTs.at{a:Addr}{ss:List Str}:∀{kt:List (Addr × List Str)},KTs K kt->kt.lookup a=some ss->KT1 K a ss
 | [],_,h=>by simp at h
 | q::l,hk,h=>by
   rw[Qb]at h
   cases e:(a==q.1)with
   | true=>
     rw[e]at h
     cases h
     have:a=q.1:=by simpa using e
     rw[this]
     exact hk.1
   | false=>
     rw[e]at h
     exact KTs.at hk.2 h
theorem Yit:∀{vs:List Value} {ks:List Str},Yzu vs ks->Vals (ks.map V.str) vs/\∀k∈ks,PyData.strOk k=true
 | _,_,.nil=>⟨.nil,fun _ h=>nomatch h⟩
 | _,_,.cons (b:=k) r t=>by
   obtain⟨h1,h2⟩:=Yit t
   exact⟨.cons r.1 h1,fun y hy=>by
    rcases qt hy with rfl | hy
    ·exact r.2
    ·exact h2 y hy⟩
def zipS:List Str->List D->List D
 | s::ss,d::l=>.tup [.str s,d]::zipS ss l
 | _,_=>[]
theorem Yko:∀(ss:List Str) (l:List D),(zipS ss l).length=min ss.length l.length
 | [],l=>by simp[zipS]
 | _::_,[]=>by simp[zipS]
 | s::ss,d::l=>by rw[zipS,qs,Yko ss l,qs,qs];lia
theorem Yrh:∀{ss:List Str} {l:List D} {i:Nat} {d:D},(zipS ss l)[i]?=some d->∃s e,ss[i]?=some s/\l[i]?=some e/\d=.tup [.str s,e]
 | [],l,i,d,h=>by simp[zipS]at h
 | _::_,[],i,d,h=>by simp[zipS]at h
 | s::ss,e::l,0,d,h=>by
   rw[zipS]at h
   cases h
   exact⟨s,e,rfl,rfl,rfl⟩
 | s::ss,e::l,i+1,d,h=>by
   rw[zipS]at h
   exact Yrh (ss:=ss) (l:=l) (i:=i) h
def zipD(kt:List (Addr × List Str)):D->D->Option (List D)
 | .adr p,.tup l=>(kt.lookup p).map fun ss=>zipS ss l
 | _,_=>none
def zipF(kt:List (Addr × List Str))(fa fb:Ro->Option D):Ro->Option (List D):=fun ρ=>(fa ρ).bind fun a=>(fb ρ).bind fun b=>zipD kt a b
section
variable {X:Cx} {elts:List Expr} {x1:Nat} {pt pos p:Pos} {a b:Expr} {fa fb:Ro->Option D} {kt:List (Addr × List Str)}
def iZip(K:W.Frag)(ta:TA):TI:=fun σ H R=>ta σ H fun vs H1=>∃t u xs ys,vs=[.ref t,.ref u]/\SqT K H1 t xs/\SqT K H1 u ys/\(xs.length<=sizeLine->R (IteZ K t u) H1)
theorem y0a{ta:TA}(hg:Gl X "zip")(hm:X.mg "zip"=none)(ha:PA X [a,b] ta)(hs:starEach [a,b] X.env=[(false,eval a X.env),(false,eval b X.env)]:=by rfl)(hs2:starEach [b] X.env=[(false,eval b X.env)]:=by rfl):PI X (.Tuple elts x1 pt) (.Call (.Name "zip" p) [a,b] [] pos) (iZip X.K ta):=by
 intro pins s σ H R I h
 refine Call_ (Yh0 I hg hm boot_zip (PyProof.Rows.callWith_type1 (thn (ha pos pins s σ H _ I h) fun us s1 ⟨vs,H1,I1,r1,q1⟩=>?_) (by rw[hs,hs2]) (by rw[hs2];rfl)))
 obtain⟨t,u,xs,ys,rfl,hq,hq',q⟩:=q1
 obtain⟨v,v',rfl,e1,e2⟩:=Yyc r1
 cases (show v=Value.ref t from e1)
 cases (show v'=Value.ref u from e2)
 obtain⟨its,rv,pl,hz⟩:=I1.tuple hq
 obtain⟨its',rv',pl',hz'⟩:=I1.tuple hq'
 have lt:t < s1.heap.objs.size:=by obtain⟨o,e,_⟩:=pl;exact ql e
 have lu:u < s1.heap.objs.size:=by obtain⟨o,e,_⟩:=pl';exact ql e
 refine Yre pl pl' fun h' Z hk=>wpAny_pyIter_zip (s:={ s1 with heap:=h' }) Z.zip ?_
 refine⟨_,[s1.heap.objs.size+4,s1.heap.objs.size+2,s1.heap.objs.size+3,s1.heap.objs.size,s1.heap.objs.size+1],_,_,H1,rfl,I1.kept (t':=s1.toks) hk,Yt9 t u _ _ _ _ _ (Yz9 lt lu),⟨_,_,Z.zip,Z.ins,Z.out,Z.ita,Z.itb⟩,fun c hc=>?_,q hz⟩
 have hc':s1.heap.objs.size<=c:=by
  simp only[List.mem_cons,List.not_mem_nil,or_false]at hc
  rcases hc with rfl | rfl | rfl | rfl | rfl
  ·exact Nat.le_add_right _ _
  ·exact Nat.le_add_right _ _
  ·exact Nat.le_add_right _ _
  ·exact qu _
  ·exact Nat.le_add_right _ _
 exact I1.fpOk hc' (I1.hok.fresh hc')
theorem Yxf(hk:KTs X.K kt)(hg:Gl X "zip")(hm:X.mg "zip"=none)(ha:ZE X a fa)(hb:ZE X b fb)(hs:starEach [a,b] X.env=[(false,eval a X.env),(false,eval b X.env)]:=by rfl)(hs2:starEach [b] X.env=[(false,eval b X.env)]:=by rfl)(hs':starEach [a,b] X.env=(false,eval a X.env)::starEach [b] X.env:=by rfl) :
 ZI X (.Tuple elts x1 pt) (.Call (.Name "zip" p) [a,b] [] pos) (zipF kt fa fb):=
 ⟨PI.imp (y0a hg hm (Ymx ha.un (Ymx hb.un Yu1 hs2) hs') hs hs2) fun σ H R ⟨ρ,ds,H0,G0,G,e,s,h⟩=>by
  obtain⟨da,h1,e5⟩:=qa e
  obtain⟨db,h2,e6⟩:=qa e5
  clear e e5
  obtain⟨q,l,rfl,rfl⟩:∃q l,da=.adr q/\db=.tup l:=by
   unfold zipD at e6
   split at e6
   ·exact⟨_,_,rfl,rfl⟩
   ·cases e6
  ·obtain⟨ss,h3,rfl⟩:=qc (show(kt.lookup q).map (fun ss=>zipS ss l)=some ds from e6)
   refine tAof.at (show Yj fa (Yj fb aNil) ρ=some [.adr q,.tup l] by simp[Yj,aNil,h1,h2]) s fun vs H1 G1 g1 r1 s1=>?_
   rw[RpL]at r1
   obtain⟨x,r,rfl,rx,r1⟩:=r1
   obtain⟨y,rfl,ry⟩:=Yig r1
   rw[Rp]at rx
   subst rx
   rw[Rp]at ry
   obtain⟨u,ys,rfl,gu,rl⟩:=ry
   obtain⟨o,its,n,k1,k2,k3,k4,k5⟩:=hk.at h3
   obtain⟨sv,sok⟩:=Yit k5
   have sq:∀H',SqT X.K H' q (ss.map V.str):=fun H'=>.inr ⟨o,its,n,k1,k2,k3,k4,sv⟩
   have sq2:∀H2 G2,Same G1 G2->Same G2 H2->SqT X.K H2 u ys:=fun H2 G2 e1 e2=>.inl (.inl (e2 _ _ (e1 _ _ gu)))
   have hlen:ss.length<=sizeLine:=by
    have h9:=sv.length
    rw[qf]at h9
    rw[h9,qj]
    exact k4
   refine⟨q,u,_,ys,rfl,sq H1,sq2 H1 G1 (Same.refl _) s1.seen,fun hz=>h _ H1 G1 g1 ⟨?_,fun i H2 G2 e1 e2=>⟨fun d hd=>?_,fun hi=>⟨_,ys,sq H2,sq2 H2 G2 e1 e2,?_⟩⟩⟩⟩
   ·rw[Yko];lia
   ·obtain⟨sx,dx,f1,f2,rfl⟩:=Yrh hd
    obtain⟨yv,hy,ryv⟩:=rl.get f2
    have hx:(ss.map V.str)[i]?=some (.str sx):=by rw[qz,f1];rfl
    refine⟨⟨_,ys,.str sx,yv,sq H2,sq2 H2 G2 e1 e2,hx,hy⟩,fun w H3 qq=>?_⟩
    obtain⟨x',y',p',a1,a2,rfl,rfl⟩:=qq
    obtain⟨b1,b2⟩:=a1 _ _ (sq H2) (sq2 H2 G2 e1 e2)
    rw[hx]at b1
    rw[hy]at b2
    cases b1
    cases b2
    refine⟨_,Gr.new e2 a2 (.tup [.str sx,yv]),?_⟩
    rw[Rp]
    exact⟨p',_,rfl,Ym,.cons (by rw[Rp];exact⟨rfl,sok sx (List.mem_of_getElem? f1)⟩) (.one ((ryv.mono e1).mono (Gr.new e2 a2 _).g))⟩
   ·rw[Yko]at hi
    have hl:=rl.length
    rw[qf]
    rcases Nat.le_total ss.length l.length with z | z
    ·exact .inl (by lia)
    ·exact .inr (by lia)⟩
end
end
section
variable {K:W.Frag}
def SEB(w:World):List DictEntry->List (Str × Bool)->Prop:=Paired fun e p=>e.hash=PyData.keyHash w.params p.1/\(∃t,e.key=.str p.1 t)/\e.val=.bool p.2
def GDB(K:W.Frag)(w:World)(mg:Str->Option Value)(x:Str)(kvs:List (Str × Bool)):Prop:=∃p o es ep,mg x=some (.ref p)/\(p==sysModules)=false/\K.lookup p=some o/\o.ExactDict/\o.data=.dict es ep/\SEB w es.toList kvs
theorem SEB.keys{w:World}:∀{l:List DictEntry} {kvs:List (Str × Bool)},SEB w l kvs->SEK w l (kvs.map (·.1))
 | _,_,.nil=>.nil
 | _,_,.cons r t=>.cons ⟨r.1,r.2.1⟩ (SEB.keys t)
theorem Ykp{P:Program}{w:World}{k:Str}:∀{l:List DictEntry} {kvs:List (Str × Bool)},SEB w l kvs->(l.find? (fun e=>(PySem.strKind P w).is k e.key)).map (·.val)=(kvs.lookup k).map Value.bool
 | _,_,.nil=>rfl
 | _,_,.cons (a:=e) (b:=p) r t=>by
   obtain⟨_,⟨t1,h1⟩,h2⟩:=r
   obtain⟨a,b⟩:=p
   have he:(PySem.strKind P w).is k e.key=(a==k):=by rw[h1];rfl
   rw[List.find?_cons,he,Qb]
   by_cases q:a=k
   ·subst q
    simp[h2]
   ·have hn:(a==k)=false:=by simpa using q
    have hn':(k==a)=false:=by simpa using fun z:k=a=>q z.symm
    rw[hn,hn']
    exact Ykp t
def Yl6(kvs:List (Str × Bool)):D->Option D
 | .str k=>(kvs.lookup k).map D.bl
 | _=>none
def Yua(kvs:List (Str × Bool)):D->Option D
 | .str k=>some (match kvs.lookup k with
   | some b=>.bl b
   | none=>.non)
 | _=>none
section
variable {X:Cx} {ke:Expr} {fk:Ro->Option D} {pos px apos cpos:Pos} {x:Str} {kvs:List (Str × Bool)}
theorem Yo8(g:GDB X.K X.w X.mg x kvs)(hg:Gl X x)(hk:ZC X ke fk)(hs:NoSl ke:=by intro _ _;rfl)(hd:(x==("__debug__":Str))=false:=by decide):ZE X (.Subscript (.Name x px) ke pos) (b1 fk (Yl6 kvs)):=by
 obtain⟨p,o,es,ep,hm,hp,hl,hx,hdt,hse⟩:=g
 refine⟨fun pins s σ H Q I hx_=>?_⟩
 obtain⟨ρ,d,H0,G0,G,e,sr,h⟩:=hx_
 obtain⟨dk,h1,h2⟩:=Ya3 e
 refine Ymq PySem.F.slot_dict_getitem.lookup hs (Yfg I hg hm ?_ hd)
 refine thn (hk.un pins s σ H (fun(v':V) (H':Hp)=>∃k r,v'=.str k/\kvs.lookup k=some r/\Q (.bl r) H') I (tCof.at h1 sr fun v H1 G1 g1 r1 s1=>?_)) fun iv s2 q0=>?_
 ·unfold Yl6 at h2
  split at h2
  ·rename_i k
   obtain⟨r,h3,rfl⟩:=qc h2
   rw[Ct]at r1
   exact⟨k,r,r1.1,h3,h _ H1 G1 g1 (by rw[Rp])⟩
  ·cases h2
 ·obtain⟨y,H2,I2,ry,k,r,rfl,h3,q⟩:=q0
  obtain⟨t,rfl⟩:=ry
  have ho:s2.heap.get? p=some o:=I2.kIn p o hl
  have f1:=Ykp (P:=X.prog) (k:=k) hse
  rw[h3]at f1
  refine⟨⟨o,ho,hx.1⟩,wpAny_getItem_of (knd:=PySem.strKind X.prog X.w) (k:=k) (f:=fun k=>findBy (PySem.strKind X.prog X.w).is es k) (v:=.bool r) (by simp[PySem.strKind,Value.isStrOf]) ⟨o,es,ep,ho,hx,hdt,?_,fun _=>rfl⟩ ?_ ⟨.bl r,H2,I2.tok _,rfl,q⟩⟩
  ·intro e'' he
   exact Yex hse.keys e'' (by simpa using he)
  ·show(es.find? fun e=>(PySem.strKind X.prog X.w).is k e.key).map (·.val)=_
   rw[<-Array.find?_toList,f1]
   rfl
theorem Yri(g:GDB X.K X.w X.mg x kvs)(hg:Gl X x)(hk:ZC X ke fk)(hd:(x==("__debug__":Str))=false:=by decide)(hb:attributeBase (.Name x px) "get" X.env (eval (.Name x px) X.env)=eval (.Name x px) X.env:=by rfl)
 (hfew:((backTo cpos (starEach [ke] X.env)).all (fun x=>!x.1)&&(backToKw cpos (keywordEach [] X.env)).all (fun x=>x.1.isSome)&&decide (([ke]:List Expr).length+([]:List Keyword).length+(if ([]:List Keyword).isEmpty then 0 else 1) < 30))=true:=by rfl)
 (hline:(apos.endLine==cpos.line)=true:=by rfl) (ht:backTo cpos (starEach [ke] X.env)=[(false,eval ke X.env)]:=by rfl):ZE X (.Call (.Attribute (.Name x px) "get" apos) [ke] [] cpos) (b1 fk (Yua kvs)):=by
 obtain⟨p,o,es,ep,hm,hp,hl,hx,hdt,hse⟩:=g
 refine⟨fun pins s σ H Q I hx_=>?_⟩
 obtain⟨ρ,d,H0,G0,G,e,sr,h⟩:=hx_
 obtain⟨dk,h1,h2⟩:=Ya3 e
 have ho1:s.heap.get? p=some o:=I.kIn p o hl
 refine wpAny_Call_method hb hfew hline PySem.F.plainAttrs_dict PySem.F.slot_dict_get PySem.F.type_dict_get (Yfg I hg hm ?_ hd)
 refine⟨⟨o,ho1,hx.1⟩,fun r hr=>?_,?_⟩
 ·cases hr
  exact⟨o,ho1,hx.2.1⟩
 rw[ht]
 refine wpAny_dict_get1 (knd:=PySem.strKind X.prog X.w) hp (thn (hk.un pins s σ H (fun(v':V) (H':Hp)=>∃k,v'=.str k/\Q (match kvs.lookup k with | some b=>.bl b | none=>.non) H') I (tCof.at h1 sr fun v H1 G1 g1 r1 s1=>?_)) fun iv s2 q0=>?_)
 ·unfold Yua at h2
  split at h2
  ·rename_i k
   cases h2
   rw[Ct]at r1
   refine⟨k,r1.1,h _ H1 G1 g1 ?_⟩
   cases kvs.lookup k<;>rw[Rp]
  ·cases h2
 ·obtain⟨y,H2,I2,ry,k,rfl,q⟩:=q0
  obtain⟨t,rfl⟩:=ry
  have ho:s2.heap.get? p=some o:=I2.kIn p o hl
  have f1:=Ykp (P:=X.prog) (k:=k) hse
  refine⟨k,fun k=>findBy (PySem.strKind X.prog X.w).is es k,by simp[PySem.strKind,Value.isStrOf],⟨o,es,ep,ho,hx,hdt,fun e'' he=>Yex hse.keys e'' (by simpa using he),fun _=>rfl⟩,?_⟩
  have f2:findBy (PySem.strKind X.prog X.w).is es k=(kvs.lookup k).map Value.bool:=by
   show(es.find? fun e=>(PySem.strKind X.prog X.w).is k e.key).map (·.val)=_
   rw[<-Array.find?_toList,f1]
  refine⟨_,H2,I2.tok _,?_,q⟩
  show RelV _ ((findBy (PySem.strKind X.prog X.w).is es k).getD .none)
  rw[f2]
  cases kvs.lookup k<;>rfl
def tabD(kt:List (Addr × List Str)):D->Option (List D)
 | .adr p=>(kt.lookup p).map fun ss=>ss.map D.str
 | _=>none
theorem Yxg{tg e:Expr}{fa:Ro->Option D}{kt:List (Addr × List Str)}(hk:KTs X.K kt)(ha:ZE X e fa):ZI X tg e (b1 fa (tabD kt)):=⟨PI.imp (Yx7 ha.un) fun σ H R hx_=>by
 obtain⟨ρ,ds,H0,G0,G,er,s,h⟩:=hx_
 obtain⟨y,h1,h2⟩:=Ya3 er
 refine tOf.at h1 s fun v H1 G1 g1 r1 s1=>?_
 cases y with
 | adr q=>
   obtain⟨ss,h3,rfl⟩:=qc (show(kt.lookup q).map (fun ss=>ss.map D.str)=some ds from h2)
   rw[Rp]at r1
   subst r1
   obtain⟨o,its,n,k1,k2,k3,k4,k5⟩:=hk.at h3
   obtain⟨sv,sok⟩:=Yit k5
   have sq:∀H',SqT X.K H' q (ss.map V.str):=fun H'=>.inr ⟨o,its,n,k1,k2,k3,k4,sv⟩
   have hlen:ss.length<=sizeLine:=by
    have h9:=sv.length
    rw[qf]at h9
    rw[h9,qj]
    exact k4
   refine⟨q,rfl,⟨_,sq H1⟩,h _ H1 G1 g1 (Yo4 (by rw[qf];exact hlen) fun i H2 G2 e1 e2=>⟨fun d hd=>?_,fun hi=>⟨_,sq H2,by rw[qf]at hi ⊢;exact hi⟩⟩)⟩
   rw[qz]at hd
   obtain⟨k,hk',rfl⟩:=qc hd
   have hx:(ss.map V.str)[i]?=some (.str k):=by rw[qz,hk'];rfl
   refine⟨⟨_,_,sq H2,hx⟩,fun v H3 qq=>?_⟩
   obtain⟨rfl,qq⟩:=qq
   have hv:=qq _ (sq _)
   rw[hx]at hv
   cases hv
   refine⟨rfl,?_⟩
   rw[Rp]
   exact⟨rfl,sok k (List.mem_of_getElem? hk')⟩
 | _=>cases h2⟩
end
end
section
variable {K:W.Frag}
abbrev rks:List Str:=["words","place"]
structure RI where
 C:Addr
 dx:Addr
 wv:V
 ws:List Str
def rdH(K:W.Frag)(z:RI):Hid Int:=⟨fun n=>.ins z.C z.dx (rks.zip [z.wv,.int n]),fun G=>W.nsIn K mainGlobals "Reader"=some (some (.ref z.C))/\Rp K G (.lst (z.ws.map D.str)) z.wv,fun s h=>⟨h.1,h.2.mono s⟩⟩
def rdD(ws:List Str)(n:Int):D:=.obj "Reader" rks [.lst (ws.map D.str),.int n]
theorem y1w{z:RI}{l:Addr}{n:Int}{G:Hp}(hl:G l=none)(h:(rdH K z).side G):Rp K (upd G l ((rdH K z).rep n)) (rdD z.ws n) (.ref l):=by
 have sm:Same G (upd G l ((rdH K z).rep n)):=fun b o e=>by rw[Yk (Yv e hl)];exact e
 unfold rdD
 rw[Rp]
 exact⟨l,z.C,z.dx,[z.wv,.int n],rfl,h.1,Ym,rfl,.cons (h.2.mono sm) (.one (by rw[Rp]))⟩
section
variable {X:Cx} {l:Addr} {z:RI} {e:Expr} {pos:Pos} {P:Program} {w:World} {mg:Str->Option Value} {base:Heap}
theorem Yoj(i:Nat){f:Ro->Option D}(h:ZE X e f):ZTS X (rdH X.K z) l (.Return (some e) pos) (retZ (rdD z.ws) l i f):=Ytx i y1w h
def incR(l i:Nat):TmV Int:=fun ρ t=>match ρ[i]? with
 | some (some (.sh (.adr l')))=>if l'=l then some (.nx ρ (t+1))else none
 | _=>none
theorem Yxh(i:Nat){x:Str}{p1 p2 tpos:Pos}{j}(k:CF X.K "Reader" "place")(hN:X.N[i]?=some x:=by rfl)(hv:Vis X.env.scope x:=by first | exact Or.inl rfl | exact Or.inr (Or.inl rfl) | exact Or.inr (Or.inr rfl))
 (hd:(x==("__debug__":Str))=false:=by decide) (hcd:(x==("__classdict__":Str))=false:=by decide):ZTS X (rdH X.K z) l (.AugAssign (.Attribute (.Name x p1) "place" tpos) .Add (.Constant (.int 1) j p2) pos) (incR l i):=
 ⟨PS.imp (Ypq (Yej hN hv hd hcd) Ynu Yye) fun F σ H hx_=>by
  obtain⟨ρ,t,out,H0,G0,G,er,w,q⟩:=hx_
  unfold incR at er
  split at er
  ·rename_i l' hi
   split at er
   ·rename_i hll
    subst hll
    cases er
    obtain⟨v,q1,q2⟩:=w.sr.sh i _ hi
    rw[Rp]at q2
    subst q2
    obtain⟨c1,c2⟩:=k _ w.sd.1
    refine⟨_,q1,l',z.C,z.dx,_,.int t,rfl,w.at,c1,c2,rfl,t,1,rfl,rfl,z.dx,_,w.at,by show 2 < 1000;decide,?_⟩
    exact q σ _ G _ (Off.put l' H0 _) (w.put (t+1))
   ·cases er
  ·cases er⟩
theorem Yez(i:Nat){j k:Nat}{m y:Str}{ps:List Str}{g:RI->List D->Int->Option (D × Int)}{q apos:Pos}{pl:Sem Bool}(O:Okm X.prog X.w X.K X.mg X.base j "Reader" m ps (spV (rdH X.K) X.K 1 true g))(hr:Room k X.A)(hm:m∉rks:=by decide)(hj:j<=k:=by first | exact qu _ | lia)
 (hi:X.N[i]?=some y:=by rfl) (hv:Vis X.env.scope y:=by first | exact Or.inl rfl | exact Or.inr (Or.inl rfl) | exact Or.inr (Or.inr rfl)) (hd:(y==("__debug__":Str))=false:=by decide) (hcd:(y==("__classdict__":Str))=false:=by decide)
 (ht:eval (.Call (.Attribute (.Name y q) m apos) [] [] pos) X.env=(do
  let ov <-eval (.Name y q) X.env
  standAt apos.atName
  let (f,first) <-holding [ov] (getMethod ov m pl)
  callWith pos f first (backTo pos (starEach [] X.env)) (backToKw pos (keywordEach [] X.env))):=by rfl) :
 ZWE X (rdH X.K z) l (.Call (.Attribute (.Name y q) m apos) [] [] pos) (Yac l i (Ya0 aNil (g z))):=by
 obtain⟨C,f,fd,F,hb,hn,cl,me⟩:=O
 refine⟨PE.imp (Ysu (E:=E0) (Yej hi hv hd hcd) cl me F (hr.mono hj) hb .nil Yo2 ht) fun σ H Q hx_=>?_⟩
 obtain⟨ρ,t,d,t',H0,G0,G,er,w,kk⟩:=hx_
 obtain⟨hi',er⟩:=Yfp er
 obtain⟨ds,h1,h2⟩:=qa er
 cases h1
 obtain⟨v,q1,q2⟩:=w.sr.sh i _ hi'
 rw[Rp]at q2
 subst q2
 have hC:z.C=C:=by
  have:=w.sd.1
  rw[hn]at this
  cases this
  rfl
 have hat:H l=some (.ins C z.dx (rks.zip [z.wv,.int t])):=by rw[<-hC];exact w.at
 refine⟨_,q1,l,z.dx,_,rfl,hat,Yqx hm,?_⟩
 exact⟨rfl,z,l,[],[],t,d,t',G,rfl,w.sr.seen,w.no,w.at,w.seen,.nil,h2,fun v H' G' keep hl' sm sm' nn rd=>kk v H' G' _ (Off.put l H0 _) (w.after keep hl' sm sm' nn) sm rd⟩
theorem okmv{x q:Str}{st:Stmt}{k n:Nat}{N ps:List Str}{g:RI->Addr->TmV Int}(F:Mq K "Reader" x q st)(S:FnScope N ps (defScope st))(hb:∀{z:RI} {l:Addr} {f:Addr} {cdv:Value} {A:Around} {outer:List Env} {s:Shared} {H:Hp} {E:XK},Room k (A.deeper (envOfC q (defScope st) s.heap.objs.size f cdv))->ZTB (cxOf CX0 P w K mg base N q (defScope st) f cdv A outer s H E).nox (rdH K z) l (defBody st) (g z l))(hn:N.length=n:=by rfl)(hm:ps.length=1:=by rfl)
 (B:Bnm x q st ps:=by(intro _ _ _ _ _ _ us hl;obtain⟨_,rfl⟩:=len1 hl;rfl)):Okm P w K mg base (k+1) "Reader" x ps (spV (rdH K) K 1 true fun z=>runV true n (g z)):=by
 obtain⟨C,f,fd,a,cl,me,fu⟩:=F
 exact⟨C,f,fd,Yq7 fu S hn hm fun _ _ _ _ _ _ _ _ hr=>hb hr,fu.binds B,a,cl,me⟩
def spR(K:W.Frag)(f2:Ro->Option D):Sp:=fun vs H Q _=>vs.length=2/\∃x C dx vb b d2 G,vs=[.ref x,vb]/\W.nsIn K mainGlobals "Reader"=some (some (.ref C))/\H x=some (.ins C dx [])/\G x=none/\Same G H/\Rp K G b vb/\f2 [some (.sh (.adr x)),some (.sh b)]=some d2/\
 ∀y1 H' G',(∀y o,y≠x->H y=some o->H' y=some o)->H' x=some (.ins C dx (rks.zip [y1,.int 0]))->G' x=none->Same G G'->Same G' H'->(∀y,G y=none->G' y≠none->H y=none)->Rp K G' d2 y1->Q .non H'
theorem Yub{st:Stmt}{f:Addr}{fd:FuncData}{N:List Str}{k:Nat}{x q:Str}{ps:List Str}{f2:Ro->Option D}(F:Fun K x q st f fd)(S:FnScope N ps (defScope st))(hn:N.length=2)(hp:ps.length=2)
 (k1:CF K "Reader" "words") (k2:CF K "Reader" "place")
 (hb:∀(cdv:Value) (A:Around) (outer:List Env) (s:Shared) (H:Hp) (E:XK),Room k (A.deeper (envOfC q (defScope st) s.heap.objs.size f cdv))->PSs (cxOf CX0 P w K mg base N q (defScope st) f cdv A outer s H E).nox (defBody st) (tSeq (sFld K (tVar 0) (tOf K f2) "words") (sFld K (tVar 0) (tC (.int 0)) "place"))) :
 FnOk P w K mg base CX0 (k+1) f fd ps (spR K f2):=by
 refine F.ok S (fun vs H Q E h=>by rw[h.1,hp]) fun cdv A outer s H vs Q E hr h=>?_
 obtain⟨hl,x,C,dx,vb,b,d2,G,rfl,n,hx,gx,sm,rb,e2,q⟩:=h
 refine⟨_,hb cdv A outer s H E hr,?_⟩
 have r:RpL K G [.adr x,b] [V.ref x,vb]:=.cons (by rw[Rp]) (.one rb)
 have s0:SR K H G (start N [V.ref x,vb]) H G [some (.sh (.adr x)),some (.sh b)]:=by
  have:=SR.start (N:=N) sm r
  rw[hn]at this
  exact this
 have self:∀{σ:L2.St} {Ha Ga Hb Gb:Hp},SR K Ha Ga σ Hb Gb [some (.sh (.adr x)),some (.sh b)]->σ[0]?=some (some (V.ref x)):=fun s=>by
  obtain⟨v,q1,q2⟩:=s.sh 0 _ rfl
  rw[Rp]at q2
  rw[q1,q2]
 refine tOf.at e2 s0 fun y1 H2 G2 g2 r2 s2=>?_
 have w2:WR K x (.ins C dx []) H G _ H2 G2 _:=⟨s2,gx,hx⟩
 refine⟨_,self s2,x,C,dx,[],rfl,w2.at,(k1 C n).1,(k1 C n).2,by decide,?_⟩
 have w3:=w2.put (.ins C dx (putF "words" y1 []))
 refine⟨_,self w3.sr,x,C,dx,_,rfl,w3.at,(k2 C n).1,(k2 C n).2,by show 1 < 1000;decide,?_⟩
 have w4:=w3.put (.ins C dx (putF "place" (.int 0) (putF "words" y1 [])))
 refine q y1 _ G2 (fun y o hy ho=>?_) ?_ w4.no g2.g w4.sr.seen (fun y hy hy'=>?_) r2
 ·rw[Yk hy,Yk hy]
  exact s2.gr.h y o ho
 ·rw[Ym]
  rfl
 ·exact s2.gr.n y hy hy'
def Iqr(K:W.Frag)(st:Stmt):Prop:=∃C f fd,W.nsIn K mainGlobals "Reader"=some (some (.ref C))/\Mk K C f/\Fun K "__init__" "Reader.__init__" st f fd
theorem iqr_mk{K:W.Frag}{st:Stmt}{C f:Addr}{oc:Value}{od an:Option Addr}{osl:Array (Option Value)}{kV doc pm cdv ct:Value}(a:W.nsIn K mainGlobals "Reader"=some (some (.ref C)))(mk:W.makesIn K C=true)(kc:W.keepIn K (.ref C)=true)
 (i:W.findIn K (.ref C) "__init__"=some (some (.ref f))) (n:W.isFn K (.ref f)=true) (l:K.lookup f=some ⟨oc,od,.func (W.fnOf "__init__" "Reader.__init__" (defArgs st) (defBody st) (defScope st) .none kV doc pm an cdv ct),osl⟩) (cd:W.codeIn K cdv "Reader.__init__"=true) (k:W.keepIn K (.ref f)=true):Iqr K st:=
 ⟨C,f,_,a,⟨mk,i,n,kc⟩,Ynz l cd k⟩
def OkRd(P:Program)(w:World)(K:W.Frag)(mg:Str->Option Value)(base:Heap)(k:Nat)(ps:List Str)(f2:Ro->Option D):Prop:=
 ∃C f fd,W.nsIn K mainGlobals "Reader"=some (some (.ref C))/\mg "Reader"=some (.ref C)/\Mk K C f/\FnOk P w K mg base CX0 k f fd ps (spR K f2)/\Binds K fd ps []
theorem okir{st:Stmt}{k:Nat}{N ps:List Str}{f2:Ro->Option D}(F:Iqr K st)(hW:∀C,W.nsIn K mainGlobals "Reader"=some (some (.ref C))->mg "Reader"=some (.ref C))(S:FnScope N ps (defScope st))(k1:CF K "Reader" "words")(k2:CF K "Reader" "place")
 (hb:∀{f:Addr} {cdv:Value} {A:Around} {outer:List Env} {s:Shared} {H:Hp} {E:XK},Room k (A.deeper (envOfC "Reader.__init__" (defScope st) s.heap.objs.size f cdv))->PSs (cxOf CX0 P w K mg base N "Reader.__init__" (defScope st) f cdv A outer s H E).nox (defBody st) (tSeq (sFld K (tVar 0) (tOf K f2) "words") (sFld K (tVar 0) (tC (.int 0)) "place"))) (hn:N.length=2:=by rfl) (hm:ps.length=2:=by rfl)
 (B:Bnm "__init__" "Reader.__init__" st ps:=by(intro _ _ _ _ _ _ us hl;obtain⟨_,_,rfl⟩:=len2 hl;rfl)):OkRd P w K mg base (k+1) ps f2:=by
 obtain⟨C,f,fd,a,mk,fu⟩:=F
 exact⟨C,f,fd,a,hW C a,mk,Yub fu S hn hm k1 k2 fun _ _ _ _ _ _ hr=>hb hr,fu.binds B⟩
end
end
section
variable {K:W.Frag}
theorem SR.hideI{x C dx:Addr}{fs:List (Str × V)}{H0 G0 H G:Hp}{σ:L2.St}{ρ:Ro}(s:SR K H0 G0 σ H G ρ)(h:H x=some (.ins C dx fs))(g:G x=none):SR K (upd H0 x (.ins C dx fs)) G0 σ H G ρ:=by
 refine⟨⟨fun a o ho=>?_,s.gr.g,s.gr.s,fun a ha ha'=>?_⟩,s.len,s.sh,fun j m em=>?_,s.ap,fun j t ks vs em=>?_,s.apd⟩
 ·by_cases z:a=x
  ·subst z;rw[Ym]at ho;rw[<-ho];exact h
  ·rw[Yk z]at ho;exact s.gr.h a o ho
 ·have n1:a≠x:=fun z=>ha' (by rw[z];exact g)
  rw[Yk n1]
  exact s.gr.n a ha ha'
 ·obtain⟨a,ys,z1,z2,z3,z4,z5⟩:=s.ow j m em
  have n1:a≠x:=fun z=>by rw[z,h]at z4;cases z4
  exact⟨a,ys,z1,z2,by rw[Yk n1];exact z3,z4,z5⟩
 ·obtain⟨a,kxs,vxs,z1,z2,z3,z4,z5⟩:=s.od j t ks vs em
  have n1:a≠x:=fun z=>by
   subst z
   rcases z4 with⟨_,kvs,e,_⟩ | ⟨_,nks,ep,e,_⟩
   ·rw[h]at e;cases e
   ·rw[h]at e;cases e
  exact⟨a,kxs,vxs,z1,z2,by rw[Yk n1];exact z3,z4,z5⟩
def Yuc(i:Nat)(f2 a1:Ro->Option D)(g:List Str->Addr->TmV Int):Ro->Option Out:=fun ρ=>(a1 ρ).bind fun b=>(f2 [none,some (.sh b)]).bind fun
 | .lst l=>(Ylz l).bind fun ws=>(runG (fun l=>g ws l (ρ.set i (some (.sh (.adr l))))) 0).map fun p=>.rt p.1
 | _=>none
section
variable {X:Cx} {e1:Expr} {a1 f2:Ro->Option D} {pos:Pos} {sts:List Stmt}
theorem Yo9(i:Nat){k k':Nat}{ps:List Str}{y:Str}{p1 p2 cpos:Pos}{g:List Str->Addr->TmV Int}(O:OkRd X.prog X.w X.K X.mg X.base k ps f2)(hf2:∀b d,f2 [none,some (.sh b)]=some d->∀x,f2 [some (.sh (.adr x)),some (.sh b)]=some d)
 (hr:Room k' X.A) (hg:Gl X "Reader") (h1:ZE X e1 a1) (hN:X.N.Nodup) (rest:∀(z:RI) l,ZTB X (rdH X.K z) l sts (g z.ws l)) (hk:k+1<=k':=by first | exact qu _ | lia)
 (hy:X.N[i]?=some y:=by rfl) (hx:Loc X.env.scope y:=by first | exact Or.inl rfl | exact Or.inr rfl) (hse:swapsWith (.Call (.Name "Reader" p2) [e1] [] cpos) (some (.Name y p1)) pos.line X.env=pure false:=by rfl) (hf:X.fn y=true\/X.env.scope.names.lookup y=some .local:=by first | exact .inl rfl | exact .inr rfl)
 (hs1:starEach [e1] X.env=(false,eval e1 X.env)::starEach [] X.env:=by rfl) (hpl:(backTo cpos (starEach [] X.env)).any (·.1)=false:=by rfl) :
 ZB X (.Assign [.Name y p1] (.Call (.Name "Reader" p2) [e1] [] cpos) pos::sts) (Yuc i f2 a1 g):=by
 obtain⟨C,f,fd,hC,hm,mk,F,hb⟩:=O
 have hrest:PSs X sts fun F σ H=>∃z l,sOfZ (rdH X.K z) X.K l (g z.ws l) F σ H:=fun pins s σ H D I h=>by
  obtain⟨z,l,h⟩:=h
  exact(rest z l).un pins s σ H D I h
 refine⟨PSs.imp (Yf6 (Yld hN hy hx (Yvy (E:=E0) mk F (hr.mono hk) hg hm hb .nil Yo2 (Ybw h1.un Yek hs1) (by decide) hs1 hpl) hse hf) hrest) fun F σ H hx_=>?_⟩
 obtain⟨ρ,out,H0,G0,G,e,s,c⟩:=hx_
 unfold Yuc at e
 obtain⟨b,q1,e⟩:=qa e
 obtain⟨d2,q2,e⟩:=qa e
 split at e
 case h_2=>cases e
 rename_i L
 obtain⟨ws,q3,e⟩:=qa e
 obtain⟨⟨d,t'⟩,q4,e⟩:=qc e
 subst e
 cases Yg3 q3
 refine tOf.at q1 s fun v1 Ha Ga ga ra sa=>?_
 intro x dx hx0 hdx hne
 have gax:Ga x=none:=sa.seen.free hx0
 have smc:Same Ga (upd (upd Ha dx (.own x)) x (.ins C dx [])):=fun a o ho=>by
  have h1:a≠x:=fun z=>by rw[z,gax]at ho;cases ho
  have h2:a≠dx:=fun z=>by rw[z,sa.seen.free hdx]at ho;cases ho
  rw[Yk h1,Yk h2]
  exact sa.seen a o ho
 refine⟨rfl,x,C,dx,v1,b,.lst (ws.map D.str),Ga,rfl,hC,Ym,gax,smc,ra,hf2 b _ q2 x,fun y1 H' G' keep hx' gx' g1 g2 g3 r1=>⟨rfl,?_⟩⟩
 have hHa:Same H Ha:=ga.h
 have hHx:H x=none:=hHa.free hx0
 have hHdx:H dx=none:=hHa.free hdx
 have smH:Same H H':=fun a o ho=>by
  have n1:a≠x:=fun z=>by rw[z,hHx]at ho;cases ho
  have n2:a≠dx:=fun z=>by rw[z,hHdx]at ho;cases ho
  exact keep a o n1 (by rw[Yk n1,Yk n2];exact hHa a o ho)
 have gr:Gr H G H' G':=⟨smH,ga.g.trans g1,g2,fun a ha ha'=>by
  cases z:Ga a with
  | none=>
    have h3:=g3 a z ha'
    have n1:a≠x:=fun y=>ha' (by rw[y];exact gx')
    rw[Yk n1]at h3
    by_cases n2:a=dx
    ·rw[n2];exact hHdx
    ·rw[Yk n2]at h3
     exact hHa.free h3
  | some o=>exact ga.n a ha (by rw[z];exact fun y=>nomatch y)⟩
 have s2:=(s.grow gr).set_sh i (d:=.adr x) (v:=.ref x) (by rw[Rp])
 have hH0x:H0 x=none:=s.gr.h.free hHx
 have hG0x:G0 x=none:=s2.gr.g.free gx'
 have s3:=s2.hideI hx' gx'
 obtain⟨Hb,s4,hbx,back⟩:=s3.rebaseW gx' Ym
 refine⟨⟨C,dx,y1,ws⟩,x,_,0,.rt d t',Hb,G',G',Yl4 q4 x,⟨s4,gx',hbx,hC,r1⟩,fun v H4 G4 H5 f5 h5 g5 r5=>?_⟩
 have g6:=(back H5 [] H4 G4 [] f5 (SR.mkSh g5 rfl (fun i d e=>(by simp at e)) (fun i l e=>(by simp at e)) (fun i t ks vs e=>(by simp at e)))).gr
 refine c v H4 G4 ⟨fun a o ho=>g6.h a o ?_,g6.g,g6.s,fun a ha ha'=>?_⟩ r5
 ·have n1:a≠x:=fun z=>by rw[z,hH0x]at ho;cases ho
  show(if a=x then H5 x else upd H0 x _ a)=some o
  rw[if_neg n1,Yk n1]
  exact ho
 ·have h6:(if a=x then H5 x else upd H0 x (.ins C dx (rks.zip [y1,.int 0])) a)=none:=g6.n a ha ha'
  by_cases z:a=x
  ·rw[z];exact hH0x
  ·rw[if_neg z,Yk z]at h6
   exact h6
end
def Yok{τ:Type}(gl:Ro->Option (List D))(src:List (Option Nat))(gt:D->Ro->Option Ro)(fe:TeV τ):TaV τ:=fun ρ t=>(gl ρ).bind fun ds=>Yfo gt fe (capR src ρ) ds t
section
variable {τ:Type} {Z:Hid τ} {X:Cx} {l:Addr} {elt tg iter:Expr} {scope:Scope} {N:List Str} {src:List (Option Nat)} {gt:D->Ro->Option Ro} {gl:Ro->Option (List D)} {fe:TeV τ} {pos:Pos}
theorem Yud{K:W.Frag}(hle:∀ρ d ρ1,gt d (capR src ρ)=some ρ1->Le (capR src ρ) ρ1){σ:L2.St}{H:Hp}{Q:VK}
 (h:tWF Z K l (Yok gl src gt fe) σ H Q):tLC (tIof K gl) src (gOf K gt) (tTof K tY) (tWE Z K l fe) σ H Q:=by
 obtain⟨ρ,t0,dsR,t',H0,G0,G,er,w,k⟩:=h
 obtain⟨ds,h1,h2⟩:=qa er
 refine⟨ρ,ds,H0,G0,G,h1,w.sr,fun J H1 G1 g1 wk=>?_⟩
 have w1:=w.grow g1
 have fa1:Off l H0 H0:=Off.rfl'
 have sm1:=g1.g
 intro p hp
 have hpl:p≠l:=fun z=>by rw[z,w1.at]at hp;cases hp
 have gp:G1 p=none:=w1.sr.seen.free hp
 have noow:∀(i:Nat) l,(capR src ρ)[i]?≠some (some (B.ow l)):=fun i l h=>by
  unfold capR at h
  rw[qz]at h
  obtain⟨o,h1,h2⟩:=qc h
  obtain⟨j,rfl,h3⟩:=qa h2
  split at h3<;>cases h3
 have nood:∀(i:Nat) t ks vs,(capR src ρ)[i]?≠some (some (B.od t ks vs)):=fun i t ks vs h=>by
  unfold capR at h
  rw[qz]at h
  obtain⟨o,h1,h2⟩:=qc h
  obtain⟨j,rfl,h3⟩:=qa h2
  split at h3<;>cases h3
 have sc:=w1.sr.cap src
 refine⟨fun i m σ' H'=>m=ds.length - i/\i<=ds.length/\∃G' done xs rest tt Hc,Off l H1 Hc/\WZ Z K l tt Hc G1 σ' H' G' (capR src ρ)/\H' p=some (.lst xs)/\G' p=none/\RpL K G' done xs/\xs.length<=i/\Yfo gt fe (capR src ρ) (ds.drop i) tt=some (rest,t')/\done++rest=dsR,
  ⟨_,rfl,Nat.zero_le _,G1,[],[],dsR,t0,H1,Off.rfl',⟨sc.grow (Gr.hid w1.sr.seen hp _),w1.no,w1.at,w1.seen⟩,Ym,gp,.nil,Nat.zero_le _,h2,rfl⟩,?_⟩
 rintro i m σ' H' ⟨rfl,hi,G',done,xs,rest,tt,Hc,fc,w',hx,gx,rx,hl,e',hd⟩
 have W:=wk.2 i H' G' w'.sr.gr.g w'.sr.seen
 have hcp:Hc p=none:=by rw[fc p hpl];exact hp
 by_cases hlt:i < ds.length
 ·have hdi:ds[i]?=some ds[i]:=qr hlt
  obtain⟨go,yl⟩:=W.1 _ hdi
  rw[List.drop_eq_getElem_cons hlt,Yfo]at e'
  obtain⟨ρ1,e1,e'⟩:=qa e'
  obtain⟨⟨v,t2⟩,e2,e'⟩:=qa e'
  obtain⟨⟨rest',t3⟩,e3,e4⟩:=qc e'
  cases e4
  refine .inr ⟨go,fun x H2 y=>?_⟩
  obtain⟨G2,g2,r2⟩:=yl x H2 y
  have w2:=w'.grow g2
  have hx2:H2 p=some (.lst xs):=g2.h _ _ hx
  have gx2:G2 p=none:=Ydl g2 hx gx
  have s2b:SR K H2 G2 σ' H2 G2 (capR src ρ):=SR.mkSh (Gr.refl w2.sr.seen) w2.sr.len w2.sr.sh noow nood
  refine⟨_,capR src ρ,ρ1,H2,G2,G2,e1,s2b,r2,fun σ3 s3=>?_⟩
  refine tTof.at (b:=true) rfl s3 fun H4 G4 g4 s4=>?_
  have le:=hle ρ _ ρ1 e1
  rw[if_pos rfl]
  refine⟨ρ1,tt,v,t2,H2,G2,G4,e2,⟨s4,w2.no,w2.at,w2.seen⟩,fun vv H5 G5 Hd fd w5 sm5 r5=>?_⟩
  have hdp:Hd p=some (.lst xs):=by rw[fd p hpl];exact hx2
  have hx5:H5 p=some (.lst xs):=w5.sr.gr.h _ _ hdp
  have gx5:G5 p=none:=Ydl w5.sr.gr hdp gx2
  have hz:=wk.1
  have smg:Same G' G5:=g2.g.trans w5.sr.gr.g
  have s6:=w5.sr.le le
  refine⟨xs,hx5,by lia,ds.length - (i+1),by lia,rfl,hlt,G5,done++[v],xs++[vv],rest',t2,fun x=>if x=l then Hd l else Hc x,fun x hx=>?_,⟨SR.mkSh ⟨fun b o q=>?_,w'.sr.gr.g.trans smg,fun b o q=>?_,fun b q q'=>?_⟩ s6.len s6.sh noow nood,w1.no,?_,w1.seen⟩,Ym,gx5,(rx.mono smg).append (.one r5),by simp;lia,e3,by simpa using hd⟩
  ·show(if x=l then Hd l else Hc x)=_
   rw[if_neg hx];exact fc x hx
  ·change (if b=l then Hd l else Hc b)=some o at q
   by_cases z:b=l
   ·rw[if_pos z]at q
    have z2:b≠p:=fun y=>hpl (by rw[<-y,z])
    rw[Yk z2,z];exact w5.sr.gr.h _ _ q
   ·rw[if_neg z]at q
    have z2:b≠p:=fun y=>by rw[y,hcp]at q;cases q
    rw[Yk z2]
    exact w5.sr.gr.h _ _ (by rw[fd b z];exact g2.h _ _ (w'.sr.gr.h _ _ q))
  ·rw[Yk (Yv q gx5)];exact w5.sr.seen b o q
  ·show(if b=l then Hd l else Hc b)=none
   by_cases z3:G' b=none
   ·by_cases z4:G2 b=none
    ·have h6:=w5.sr.gr.n b z4 q'
     have z:b≠l:=fun z=>by rw[z,w5.h0]at h6;cases h6
     rw[if_neg z]
     rw[fd b z]at h6
     exact w'.sr.gr.h.free (g2.h.free h6)
    ·have h6:=g2.n b z3 z4
     have z:b≠l:=fun z=>by rw[z,w'.at]at h6;cases h6
     rw[if_neg z]
     exact w'.sr.gr.h.free h6
   ·have h6:=w'.sr.gr.n b q z3
    have z:b≠l:=fun z=>by rw[z,w'.h0]at h6;cases h6
    rw[if_neg z];exact h6
  ·show(if l=l then Hd l else Hc l)=_
   rw[if_pos rfl];exact w5.h0
 ·have ei:i=ds.length:=by lia
  subst ei
  rw[List.drop_length,Yfo]at e'
  cases e'
  rw[List.append_nil]at hd
  subst hd
  have g9:Gr (upd H1 l (Z.rep t')) G1 H' G':=⟨fun x o ho=>by
   by_cases z:x=l
   ·subst z;rw[Ym]at ho;rw[<-ho];exact w'.at
   ·rw[Yk z]at ho;exact w'.sr.gr.h x o (by rw[fc x z];exact ho),w'.sr.gr.g,w'.sr.seen,fun x h h'=>by
   have h6:=w'.sr.gr.n x h h'
   have z:x≠l:=fun z=>by rw[z,w'.h0]at h6;cases h6
   rw[Yk z,<-fc x z];exact h6⟩
  exact .inl ⟨W.2 (qu _),k p xs H' G' _ (fa1.trans (Off.put l H0 _)) ((w1.put t').grow g9) (sm1.trans w'.sr.gr.g) hx gx rx⟩
theorem Yrj(S:CompSc X.N X.env.scope N src scope)(hc:X.calm=true)(hi:ZI X tg iter gl)(hg:∀cl C fp s H,ZG (Ya5 X scope N cl C fp s H) tg gt)(he:∀cl C fp s H,ZWE (Ya5 X scope N cl C fp s H) Z l elt fe)
 (hle:∀ρ d ρ1,gt d (capR src ρ)=some ρ1->Le (capR src ρ) ρ1) (hs:∀x,foldedSetIterable iter X.env x=pure x:=by intro _;rfl) :
 ZWF X Z l (.ListComp elt [⟨tg,iter,[],0⟩] scope pos) (Yok gl src gt fe):=
 ⟨PE.imp (Ymt S hc hi.un (fun cl C fp s H=>(hg cl C fp s H).un) (fun _ _ _ _ _=>Yqb) (fun cl C fp s H=>(he cl C fp s H).un) hs) fun _ _ _ h=>Yud hle h⟩
end
end
section
variable {K:W.Frag}
abbrev OkT(P:Program)(w:World)(K:W.Frag)(mg:Str->Option Value)(base:Heap)(k n:Nat)(x:Str)(ps:List Str)(g:List D->List Int->Option (D × List Int)):Prop:=OkV (fun _:Unit=>tpH) P w K mg base k n true x ps fun _=>g
theorem Yae{X:Cx}{l:Addr}{es:List Expr}{ga:Ro->Option (List D)}{g:List D->List Int->Option (D × List Int)}{p q cpos:Pos}(i:Nat){j k n:Nat}{x y:Str}{ps:List Str}(c:OkT X.prog X.w X.K X.mg X.base j (n+1) x ps g)(hr:Room k X.A)(hg:Gl X x)(ha:ZA X es ga)(hl:∀ρ ds,ga ρ=some ds->ds.length=n)(hj:j<=k:=by first | exact qu _ | lia)
 (hi:X.N[i]?=some y:=by rfl) (hv:Vis X.env.scope y:=by first | exact Or.inl rfl | exact Or.inr (Or.inl rfl) | exact Or.inr (Or.inr rfl)) (hd:(y==("__debug__":Str))=false:=by decide) (hcd:(y==("__classdict__":Str))=false:=by decide)
 (hdb:(x==("__debug__":Str))=false:=by decide) (he:starEach (.Name y q::es) X.env=(false,eval (.Name y q) X.env)::starEach es X.env:=by rfl) (hpl:(backTo cpos (starEach es X.env)).any (·.1)=false:=by rfl) :
 ZWE X tpH l (.Call (.Name x p) (.Name y q::es) [] cpos) (Yac l i (Ya0 ga g)):=Ytw (Zf:=fun _:Unit=>tpH) (z:=()) i c hr hg ha hl hj hi hv hd hcd hdb he hpl
theorem Yue{τ ι:Type}{Zf:ι->Hid τ}{P:Program}{w:World}{mg:Str->Option Value}{base:Heap}{k n:Nat}{bb:Bool}{x q:Str}{ps:List Str}{st:Stmt}{a:Addr}{fd:FuncData}(F:Fun K x q st a fd)(b:Binds K fd ps [])(hm:mg x=some (.ref a)) :
 OkV Zf P w K mg base k n bb x ps (fun _ _ _=>none):=by
 have no:∀vs H Q E,¬spV Zf K n bb (fun _ _ _=>none) vs H Q E:=fun vs H Q E h=>by
  obtain⟨_,z,l,vs',ds,t,d,t',G,_,_,_,_,_,_,e,_⟩:=h
  cases e
 exact⟨a,fd,⟨fun vs H Q E h=>absurd h (no vs H Q E),fun A outer s H args us vs Q E _ _ _ _ h=>absurd h (no vs H Q E)⟩,b,F.kp,hm⟩
theorem Yg4{X:Cx}{l:Addr}{z:RI}{e:Expr}{g:RI->List D->Int->Option (D × Int)}{p q cpos:Pos}(i:Nat){j k:Nat}{x y:Str}{ps:List Str}{fa:Ro->Option D}(c:OkV (rdH X.K) X.prog X.w X.K X.mg X.base j 2 false x ps g)(hr:Room k X.A)(hg:Gl X x)(ha:ZE X e fa)(hj:j<=k:=by first | exact qu _ | lia)
 (hi:X.N[i]?=some y:=by rfl) (hv:Vis X.env.scope y:=by first | exact Or.inl rfl | exact Or.inr (Or.inl rfl) | exact Or.inr (Or.inr rfl)) (hd:(y==("__debug__":Str))=false:=by decide) (hcd:(y==("__classdict__":Str))=false:=by decide)
 (hdb:(x==("__debug__":Str))=false:=by decide) (he:starEach [e,.Name y q] X.env=(false,eval e X.env)::starEach [.Name y q] X.env:=by rfl) (he2:starEach [.Name y q] X.env=(false,eval (.Name y q) X.env)::starEach [] X.env:=by rfl) (hpl:(backTo cpos (starEach [.Name y q] X.env)).any (·.1)=false:=by rfl) :
 ZWE X (rdH X.K z) l (.Call (.Name x p) [e,.Name y q] [] cpos) (Yac l i (Ya0 (Yj fa aNil) (g z))):=Yq6 (Zf:=rdH X.K) (z:=z) i c hr hg ha hj hi hv hd hcd hdb he he2 hpl
end
end M
namespace Lw
open PySem PySem.Spec PyProof.Rows L2 M
def top(i:Nat):Stmt:=PySem.Challenge.pw_duskbook_k59_papers_read.main.body.getD i (.Pass ⟨0,0,0,0⟩)
def ktab:List (Addr × List Str):=[(76,[]),(77,[(Str.ofString "road"),(Str.ofString "road")]),(78,[(Str.ofString "road")]),(79,[(Str.ofString "road"),(Str.ofString "road")]),(80,[(Str.ofString "places")]),(81,[(Str.ofString "source"),(Str.ofString "places"),(Str.ofString "places")]),(82,[(Str.ofString "plan rows")]),(83,[(Str.ofString "sum rows")]),(84,[(Str.ofString "beacons"),(Str.ofString "if rows")]),(86,[(Str.ofString "beacon"),(Str.ofString "source"),(Str.ofString "truth")]),(87,[(Str.ofString "beacon"),(Str.ofString "beacons"),(Str.ofString "truth")]),(88,[(Str.ofString "beacon"),(Str.ofString "beacons")])]
def Ygi:List Str:=[(Str.ofString "broken"),(Str.ofString "clash"),(Str.ofString "cross"),(Str.ofString "late"),(Str.ofString "odd"),(Str.ofString "lone"),(Str.ofString "plan"),(Str.ofString "sums"),(Str.ofString "rows")]
def Ydg:List Str:=[(Str.ofString "plan rows"),(Str.ofString "sum rows"),(Str.ofString "if rows")]
def y9:List Str:=[(Str.ofString "road"),(Str.ofString "places"),(Str.ofString "beacons")]
def Yan:List Str:=[(Str.ofString "+"),(Str.ofString "-")]
def gt_PAPERS:List (Str × Addr):=[((Str.ofString "broken"),76),((Str.ofString "clash"),77),((Str.ofString "cross"),78),((Str.ofString "late"),79),((Str.ofString "odd"),80),((Str.ofString "lone"),81),((Str.ofString "plan"),82),((Str.ofString "sums"),83),((Str.ofString "rows"),84)]
def gt_ROWS:List (Str × Addr):=[((Str.ofString "plan rows"),86),((Str.ofString "sum rows"),87),((Str.ofString "if rows"),88)]
def gt_SEVERAL:List (Str × Str):=[((Str.ofString "road"),(Str.ofString "saying")),((Str.ofString "places"),(Str.ofString "place")),((Str.ofString "beacons"),(Str.ofString "beacon"))]
def gt_TRUTHS_BY_MARK:List (Str × Bool):=[((Str.ofString "+"),true),((Str.ofString "-"),false)]
def gt_TRUTHS_BY_WORD:List (Str × Bool):=[((Str.ofString "yes"),true),((Str.ofString "no"),false)]
set_option maxHeartbeats 4000000
def Fq(K:W.Frag)(mg:Str->Option Value)(x:Str)(i:Nat):Prop:=∃a fd,Fun K x x (top i) a fd/\mg x=some (.ref a)
def Fk(K:W.Frag)(x:Str)(i:Nat):Prop:=∃a fd,W.nsIn K mainGlobals x=some (some (.ref a))/\Fun K x x (top i) a fd
theorem Fk.on{K:W.Frag}{h:Heap}{mg:Str->Option Value}{x:Str}{i:Nat}(F:Fk K x i)(X:K.In h)(G:h.Ns mainGlobals mg):Fq K mg x i:=by
 obtain⟨a,fd,n,f⟩:=F
 exact⟨a,fd,f,W.mg_of X G n⟩
theorem fk_mk{K:W.Frag}{x:Str}{i:Nat}{f:Addr}{oc:Value}{od an:Option Addr}{osl:Array (Option Value)}{kV doc pm cdv ct:Value}(a:W.nsIn K mainGlobals x=some (some (.ref f)))(l:K.lookup f=some ⟨oc,od,.func (W.fnOf x x (defArgs (top i)) (defBody (top i)) (defScope (top i)) .none kV doc pm an cdv ct),osl⟩)(c:W.codeIn K cdv x=true)(k:W.keepIn K (.ref f)=true):Fk K x i:=⟨_,_,a,Ynz l c k⟩
theorem fns{N ps:List Str}{sc:Scope}(a:sc.kind=.function:=by rfl)(b:sc.isCoroutine=false:=by rfl)(c:sc.isGenerator=false:=by rfl)(d:N.Nodup:=by decide +kernel)(e:N.take ps.length=ps:=by rfl)(f:∀x∈ps,sc.names.lookup x=some .local\/sc.names.lookup x=some .cell:=by decide +kernel)(g:∀y∈sc.names,y.2≠.free:=by decide +kernel):FnScope N ps sc:=⟨a,b,c,d,e,f,g⟩
def Bnd(x:Str)(i:Nat)(ps:List Str):Prop:=∀(kV doc pm:Value) (an:Option Addr) (cdv ct:Value) (us:List Value),us.length=ps.length->bindArgs (W.fnOf x x (defArgs (top i)) (defBody (top i)) (defScope (top i)) .none kV doc pm an cdv ct) ⟨us,[]⟩=pure (ps.zip us)
theorem okfn{P:Program}{w:World}{K:W.Frag}{mg:Str->Option Value}{base:Heap}{x:Str}{i k n m:Nat}{N ps:List Str}{fb:Ro->Option Out}(F:Fq K mg x i)(S:FnScope N ps (defScope (top i)))(hb:∀{f:Addr} {cdv:Value} {A:Around} {outer:List Env} {s:Shared} {H:Hp} {E:XK},Room k (A.deeper (envOfC x (defScope (top i)) s.heap.objs.size f cdv))->ZB (cxOf CX0 P w K mg base N x (defScope (top i)) f cdv A outer s H E).nox (defBody (top i)) fb)(hn:N.length=n:=by rfl)(hm:ps.length=m:=by rfl)(B:Bnd x i ps:=by(intro _ _ _ _ _ _ us hl;first | (obtain⟨_,rfl⟩:=len1 hl;rfl) | (obtain⟨_,_,rfl⟩:=len2 hl;rfl) | (obtain⟨_,_,_,rfl⟩:=len3 hl;rfl) | (obtain⟨_,_,_,_,rfl⟩:=len4 hl;rfl) | (obtain⟨_,_,_,_,_,rfl⟩:=len5 hl;rfl) | (obtain⟨_,_,_,_,_,_,rfl⟩:=len6 hl;rfl) | (obtain⟨_,_,_,_,_,_,_,rfl⟩:=len7 hl;rfl))):Okf P w K mg base (k+1) m x ps (runB m n fb):=by
 obtain⟨a,fd,f,h⟩:=F
 exact Yzo f (f.binds B) h (Yj3 (k:=k) f S hn hm fun _ _ _ _ _ _ hr=>hb hr)
theorem okfr{P:Program}{w:World}{K:W.Frag}{mg:Str->Option Value}{base:Heap}{x:Str}{i m L:Nat}{ps:List Str}{mr:Nat->List D->Option D}(F:Fq K mg x i)(h0:mr 0=fun _=>none)(hs:∀{k j:Nat},Okf P w K mg base k m x ps (mr j)->L<=k->Okf P w K mg base (k+1) m x ps (mr (j+1)))(hm:ps.length=m:=by rfl)(B:Bnd x i ps:=by(intro _ _ _ _ _ _ us hl;first | (obtain⟨_,rfl⟩:=len1 hl;rfl) | (obtain⟨_,_,rfl⟩:=len2 hl;rfl) | (obtain⟨_,_,_,rfl⟩:=len3 hl;rfl) | (obtain⟨_,_,_,_,rfl⟩:=len4 hl;rfl) | (obtain⟨_,_,_,_,_,rfl⟩:=len5 hl;rfl) | (obtain⟨_,_,_,_,_,_,rfl⟩:=len6 hl;rfl) | (obtain⟨_,_,_,_,_,_,_,rfl⟩:=len7 hl;rfl))):∀j,Okf P w K mg base (L+j) m x ps (mr j)
 | 0=>by
   obtain⟨a,fd,f,h⟩:=F
   rw[h0]
   exact Yn6 f (f.binds B) h hm
 | j+1=>hs (okfr F h0 hs hm B j) (Nat.le_add_right _ _)
theorem okft{P:Program}{w:World}{K:W.Frag}{mg:Str->Option Value}{base:Heap}{x:Str}{i k n m:Nat}{N ps:List Str}{g:Addr->TmM}(F:Fq K mg x i)(S:FnScope N ps (defScope (top i)))(hb:∀{l:Addr} {f:Addr} {cdv:Value} {A:Around} {outer:List Env} {s:Shared} {H:Hp} {E:XK},Room k (A.deeper (envOfC x (defScope (top i)) s.heap.objs.size f cdv))->ZTB (cxOf CX0 P w K mg base N x (defScope (top i)) f cdv A outer s H E).nox tpH l (defBody (top i)) (g l))(hn:N.length=n:=by rfl)(hm:ps.length=m:=by rfl)(B:Bnd x i ps:=by(intro _ _ _ _ _ _ us hl;first | (obtain⟨_,rfl⟩:=len1 hl;rfl) | (obtain⟨_,_,rfl⟩:=len2 hl;rfl))):OkT P w K mg base (k+1) m x ps (runT n g):=by
 obtain⟨a,fd,f,h⟩:=F
 exact⟨a,fd,Yq7 (Zf:=fun _:Unit=>tpH) (g:=fun _=>g) (b:=true) (k:=k) f S hn hm fun _ _ _ _ _ _ _ _ hr=>hb hr,f.binds B,f.kp,h⟩
theorem okfv{P:Program}{w:World}{K:W.Frag}{mg:Str->Option Value}{base:Heap}{x:Str}{i k n:Nat}{N ps:List Str}{g:RI->Addr->TmV Int}(F:Fq K mg x i)(S:FnScope N ps (defScope (top i)))(hb:∀{z:RI} {l:Addr} {f:Addr} {cdv:Value} {A:Around} {outer:List Env} {s:Shared} {H:Hp} {E:XK},Room k (A.deeper (envOfC x (defScope (top i)) s.heap.objs.size f cdv))->ZTB (cxOf CX0 P w K mg base N x (defScope (top i)) f cdv A outer s H E).nox (rdH K z) l (defBody (top i)) (g z l))(hn:N.length=n:=by rfl)(hm:ps.length=2:=by rfl)(B:Bnd x i ps:=by(intro _ _ _ _ _ _ us hl;obtain⟨_,_,rfl⟩:=len2 hl;rfl)):OkV (rdH K) P w K mg base (k+1) 2 false x ps (fun z=>runV false n (g z)):=by
 obtain⟨a,fd,f,h⟩:=F
 exact⟨a,fd,Yq7 (k:=k) f S hn hm fun _ _ _ _ _ _ _ _ hr=>hb hr,f.binds B,f.kp,h⟩
theorem okv0{P:Program}{w:World}{K:W.Frag}{mg:Str->Option Value}{base:Heap}{x:Str}{i k:Nat}{ps:List Str}{g:RI->List D->Int->Option (D × Int)}(F:Fq K mg x i)(h0:g=fun _ _ _=>none)(hm:ps.length=2:=by rfl)(B:Bnd x i ps:=by(intro _ _ _ _ _ _ us hl;obtain⟨_,_,rfl⟩:=len2 hl;rfl)):OkV (rdH K) P w K mg base k 2 false x ps g:=by
 obtain⟨a,fd,f,h⟩:=F
 rw[h0]
 exact Yue f (f.binds B) h
theorem okf0{P:Program}{w:World}{K:W.Frag}{mg:Str->Option Value}{base:Heap}{x:Str}{i m k:Nat}{ps:List Str}{mr:List D->Option D}(F:Fq K mg x i)(h0:mr=fun _=>none)(hm:ps.length=m:=by rfl)(B:Bnd x i ps:=by(intro _ _ _ _ _ _ us hl;first | (obtain⟨_,rfl⟩:=len1 hl;rfl) | (obtain⟨_,_,rfl⟩:=len2 hl;rfl))):Okf P w K mg base k m x ps mr:=by
 obtain⟨a,fd,f,h⟩:=F
 rw[h0]
 exact Yn6 f (f.binds B) h hm
theorem aL1{f0:Ro->Option D}:∀ρ l,Yj f0 aNil ρ=some l->l.length=1:=Ylm fun _ _ h=>Ys3 h
theorem aL2{f0 f1:Ro->Option D}:∀ρ l,Yj f0 (Yj f1 aNil) ρ=some l->l.length=2:=Ylm aL1
structure Bl(K:W.Frag)(w:World)(mg:Str->Option Value):Prop where
 Len:mg "len"=none
 Range:mg "range"=none
 List:mg "list"=none
 Tuple:mg "tuple"=none
 Int:mg "int"=none
 Bool:mg "bool"=none
 Str:mg "str"=none
 All:mg "all"=none
 Isinstance:mg "isinstance"=none
 Reversed:mg "reversed"=none
 Zip:mg "zip"=none
 g_BEACON_COUNT:GI mg "BEACON_COUNT" 60
 g_FIGURES:GS mg "FIGURES" "0123456789"
 g_MOST_FIGURES:GI mg "MOST_FIGURES" 3
 g_MOST_NUMBER:GI mg "MOST_NUMBER" 200
 g_PAPERS:GDA K w mg "PAPERS" gt_PAPERS
 g_ROWS:GDA K w mg "ROWS" gt_ROWS
 g_SEVERAL:GD K w mg "SEVERAL" gt_SEVERAL
 g_TRUTHS_BY_MARK:GDB K w mg "TRUTHS_BY_MARK" gt_TRUTHS_BY_MARK
 g_TRUTHS_BY_WORD:GDB K w mg "TRUTHS_BY_WORD" gt_TRUTHS_BY_WORD
 k_PAPERS:GK K w mg "PAPERS" Ygi
 k_ROWS:GK K w mg "ROWS" Ydg
 k_SEVERAL:GK K w mg "SEVERAL" y9
 k_TRUTHS_BY_MARK:GK K w mg "TRUTHS_BY_MARK" Yan
 kts:KTs K ktab
 f5:Fq K mg "is_beacon" 5
 f10:Fq K mg "saying_written" 10
 f11:Fq K mg "number_read" 11
 f12:Fq K mg "beacon_read" 12
 f13:Fq K mg "saying_read" 13
 f20:Fq K mg "thing_written" 20
 f22:Fq K mg "parts_written" 22
 f21:Fq K mg "part_written" 21
 f23:Fq K mg "paper_written" 23
 f25:Fq K mg "place_read" 25
 f26:Fq K mg "checked" 26
 f27:Fq K mg "thing_read" 27
 r_is_at_end:Mq K "Reader" "is_at_end" "Reader.is_at_end" (inClass (top 24) 1)
 r_taken:Mq K "Reader" "taken" "Reader.taken" (inClass (top 24) 2)
 f29:Fq K mg "parts_read" 29
 f28:Fq K mg "part_read" 28
 r_init:Iqr K (inClass (top 24) 0)
 f30:Fq K mg "paper_read" 30
 f32:Fq K mg "_law_mixed" 32
 f33:Fq K mg "_law_next" 33
 f34:Fq K mg "_law_many" 34
 f35:Fq K mg "_law_any_road" 35
 f36:Fq K mg "_law_any_numbers" 36
 f37:Fq K mg "_law_any_rows" 37
 f38:Fq K mg "_law_any" 38
 f39:Fq K mg "_law_number_words" 39
 f40:Fq K mg "_law_road_words" 40
 f41:Fq K mg "_law_free_word" 41
 f42:Fq K mg "_law_rows_words" 42
 f43:Fq K mg "_law_paper_words" 43
 f44:Fq K mg "_law_same" 44
 cR:∀C,W.nsIn K mainGlobals "Reader"=some (some (.ref C))->mg "Reader"=some (.ref C)
 n_words:Nq K "Reader" "words"
 n_place:Nq K "Reader" "place"
section
variable {P:Program} {w:World} {K:W.Frag} {mg:Str->Option Value} {base:Heap}
theorem Yl7:FnScope ["thing"] ["thing"] (defScope (top 5)):=fns
def Yiu:Ro->Option Out:=(sRet (andV (mB (b1 (getC 0) (isiD "int"))) (andV (notV (mB (b1 (getC 0) (isiD "bool")))) (mB (ch3 (kD (.int 0)) (getC 0) (kD (.int 60)) leI ltI)))))
def Ydy:List D->Option D:=runB 1 1 Yiu
theorem Yl8(bl:Bl K w mg):Okf P w K mg base 1 1 "is_beacon" ["thing"] Ydy:=by
 refine okfn bl.f5 Yl7 fun hr=>?_
 exact(Ys (Yx (Yg0 (Yc0 (Yb 0) rfl rfl bl.Isinstance bl.Int boot_int (Yqd)) (Yg0 (Ywo (Yc0 (Yb 0) rfl rfl bl.Isinstance bl.Bool boot_bool (Ygc))) (Yhx (Yqs Yvr Yid y04 Yid (Yc Yi) (Yb 0) (Yc (Ykj bl.g_BEACON_COUNT rfl))))))))
theorem sc_saying_written:FnScope ["saying","beacon"] ["saying"] (defScope (top 10)):=fns
def Yd7:Ro->Option Out:=(sSeq (sSet 1 (b2 (getC 0) (kD (.int 0)) ixD)) (sRet (ifV (b1 (b2 (getC 0) (kD (.int 1)) ixD) truD) (b1 (getC 1) (fsD (Str.ofString "+"))) (b1 (getC 1) (fsD (Str.ofString "-"))))))
def Ybo:List D->Option D:=runB 1 2 Yd7
theorem Yg5(bl:Bl K w mg):Okf P w K mg base 1 1 "saying_written" ["saying"] Ybo:=by
 refine okfn bl.f10 sc_saying_written fun hr=>?_
 exact(Yu (Yg2 1 sc_saying_written.nd (y3 (Yb 0) (Yc Yi))) (Ys (Yx (Yls (Ycz (Yc (y3 (Yb 0) (Yc Yi)))) (Yu3 (Yb 1)) (Yu3 (Yb 1))))))
theorem Yjj:FnScope ["word"] ["word"] (defScope (top 11)):=fns
theorem cs_number_read_0:CompSc ["word"] (defScope (top 11)) ["sign"] [none] (fsc [(".0",.local),("sign",.local),("FIGURES",.globalImplicit)]):=Ycw (by decide +kernel)
def Yd8:Ro->Option D:=(mB (b2 (getC 0) (kD (.str "0123456789")) inS))
@[simp] def Yiv:Ro->Option Out:=(sRet (cC (Yj (getC 0) aNil) intS))
@[simp] def Yiw:Ro->Option Out:=(sSeq (sIf (andT (b2 (cC (Yj (getC 0) aNil) lenS) (kD (.int 1)) gtI) (b2 (b2 (getC 0) (kD (.int 0)) ixS) (kD (.str "0")) (eqM false))) (sRet (kD .non)) sNil) Yiv)
def Ydz:Ro->Option Out:=(sSeq (sIf (orT (notT (ch3 (kD (.int 1)) (cC (Yj (getC 0) aNil) lenS) (kD (.int 3)) leI leI)) (notT (b1 (cC (Yj (lF (Yjh (b1 (getV 0) Yrd) [none] (gSet 0) tY (Yd8))) aNil) allC) truD))) (sRet (kD .non)) sNil) Yiw)
def Yby:List D->Option D:=runB 1 1 Ydz
theorem Ye8(bl:Bl K w mg):Okf P w K mg base 1 1 "number_read" ["word"] Yby:=by
 refine okfn bl.f11 Yjj fun hr=>?_
 exact(Yu (Yas (Yd6 (Ygd (Yil (Yqt Yvr Yid Yvr Yid (Yc Yi) (Yc (Yaw Yhd Yoh rfl bl.Len PySem.boot_len (Yt (Yb 0) Yz))) (Yc (Ykj bl.g_MOST_FIGURES rfl)))) (Ydv (Yil (Ycz (Yc (Yaw (Ylq rfl) Yqj rfl bl.All boot_all (Yt (Yc (Ybb (Yge cs_number_read_0 rfl (Yxd (Yn 0)) (fun _ _ _ _ _=>(Ybl 0 cs_number_read_0.nd)) (fun _ _ _ _ _=>Yio) (fun _ _ _ _ _=>(Yxb (Yb 0) (Yc (Yt7 bl.g_FIGURES rfl)))) (Yfk (i:=0) rfl)))) Yz)))))))) (Ys (Yx Ybq)) Yag) (Yu (Yas (Yd6 (Ym1 (Yqr (Yc (Yaw Yhd Yoh rfl bl.Len PySem.boot_len (Yt (Yb 0) Yz))) (Yc Yi)) (Ykh (Yav hr.units (Yc (Ym6 (Yb 0) (Yc Yi) (fun _ _=>rfl))) (Yc Yw))))) (Ys (Yx Ybq)) Yag) (Ys (Yx (Yad Yrc Yt3 rfl bl.Int boot_int (Yt (Yb 0) Yz))))))
theorem sc_beacon_read:FnScope ["word","number"] ["word"] (defScope (top 12)):=fns
def Ygj:Ro->Option Out:=(sSeq (sSet 1 (cC (Yj (getV 0) aNil) Yby)) (sRet (ifV (b1 (cC (Yj (getV 1) aNil) Ydy) truD) (getV 1) (kD .non))))
def Ybz:List D->Option D:=runB 1 2 Ygj
theorem Ye9(bl:Bl K w mg):Okf P w K mg base 2 1 "beacon_read" ["word"] Ybz:=by
 refine okfn bl.f12 sc_beacon_read fun hr=>?_
 exact(Yu (Yg2 1 sc_beacon_read.nd (Yr (Ye8 bl) hr rfl (Yd (Yn 0) Yg) aL1)) (Ys (Yx (Yls (Ycz (Yc (Yr (Yl8 bl) hr rfl (Yd (Yn 1) Yg) aL1))) (Yn 1) Ybq))))
theorem sc_saying_read:FnScope ["word","beacon"] ["word"] (defScope (top 13)):=fns
@[simp] def Yix:Ro->Option Out:=(sRet (dTup (Yj (getV 1) (Yj (b1 (b2 (getC 0) (kD (.int 0)) ixS) (Yl6 gt_TRUTHS_BY_MARK)) aNil))))
@[simp] def Yiy:Ro->Option Out:=(sSeq (sIf (orT (b2 (getC 1) (kD .non) (isN false)) (b1 (b2 (getC 0) (kD (.int 0)) ixS) (inG true Yan))) (sRet (kD .non)) sNil) Yix)
def Yd0:Ro->Option Out:=(sSeq (sSet 1 (cC (Yj (b1 (getV 0) (cutS 1)) aNil) Ybz)) Yiy)
def Yct:List D->Option D:=runB 1 2 Yd0
theorem Yjk(bl:Bl K w mg):Okf P w K mg base 3 1 "saying_read" ["word"] Yct:=by
 refine okfn bl.f13 sc_saying_read fun hr=>?_
 exact(Yu (Yg2 1 sc_saying_read.nd (Yr (Ye9 bl) hr rfl (Yd (Yt6 (Yn 0)) Yg) aL1)) (Yu (Yas (Yd6 (Ygd (Yg1 (Yb 1) (Yc Ybq)) (Ydv (Ygh bl.k_TRUTHS_BY_MARK rfl (Yc (Ym6 (Yb 0) (Yc Yi) (fun _ _=>rfl))))))) (Ys (Yx Ybq)) Yag) (Ys (Yx (Yim (Yd (Yn 1) (Yd (Yo8 bl.g_TRUTHS_BY_MARK rfl (Yc (Ym6 (Yb 0) (Yc Yi) (fun _ _=>rfl)))) Yg)))))))
theorem Yhm:FnScope ["form","thing"] ["form","thing"] (defScope (top 20)):=fns
@[simp] def Yg6:Ro->Option Out:=(sRet (ifV (b2 (getC 1) (kD .non) (isN false)) (kD (.str "none")) (cC (Yj (getC 1) aNil) strC)))
@[simp] def Yg7:Ro->Option Out:=(sSeq (sIf (b2 (getC 0) (kD (.str "truth")) (eqM false)) (sRet (ifV (b1 (getC 1) truD) (kD (.str "yes")) (kD (.str "no")))) sNil) Yg6)
def Ybf:Ro->Option Out:=(sSeq (sIf (b2 (getC 0) (kD (.str "saying")) (eqM false)) (sRet (cC (Yj (getV 1) aNil) Ybo)) sNil) Yg7)
def Yy:List D->Option D:=runB 2 2 Ybf
theorem Yd9(bl:Bl K w mg):Okf P w K mg base 2 2 "thing_written" ["form","thing"] Yy:=by
 refine okfn bl.f20 Yhm fun hr=>?_
 exact(Yu (Yas (Yav hr.units (Yb 0) (Yc Yw)) (Ys (Yx (Yr (Yg5 bl) hr rfl (Yd (Yn 1) Yg) aL1))) Yag) (Yu (Yas (Yav hr.units (Yb 0) (Yc Yw)) (Ys (Yx (Yls (Ycz (Yb 1)) Yw Yw))) Yag) (Ys (Yx (Yls (Yg1 (Yb 1) (Yc Ybq)) Yw (Yad Yal Ycf rfl bl.Str boot_str (Yt (Yb 1) Yz)))))))
theorem sc_parts_written:FnScope ["forms","parts","words","form","part"] ["forms","parts"] (defScope (top 22)):=fns
def Yb0(rec:List D->Option D):Ro->Option Out:=(sMut 2 (cC (Yj (getV 3) (Yj (getV 4) aNil)) rec) extD)
def Yc1(rec:List D->Option D):Ro->Option Out:=(sSeq (sOwn 2 (dLst aNil)) (sSeq (sFor (zipF ktab (getV 0) (getV 1)) (Ys4 3 4) (Yb0 rec)) (wF [2] (sRet (getV 2)))))
theorem sc_part_written:FnScope ["form","part","words","row"] ["form","part"] (defScope (top 21)):=fns
theorem cs_part_written_0:CompSc ["form","part","words","row"] (defScope (top 21)) ["thing","form"] [none,some 0] (fsc [(".0",.local),("thing",.local),("thing_written",.globalImplicit),("SEVERAL",.globalImplicit),("form",.free)]):=Ycw (by decide +kernel)
def Yb9(rec:List D->Option D):Ro->Option D:=(cC (Yj (b1 (getC 1) (Ylr gt_SEVERAL)) (Yj (getV 0) aNil)) Yy)
def Yca(rec:List D->Option D):Ro->Option Out:=(sMut 2 (cC (Yj (b1 (getC 0) (Ye7 gt_ROWS)) (Yj (getV 3) aNil)) rec) extD)
def Ycg(rec:List D->Option D):Ro->Option Out:=(sSeq (sIf (b1 (getC 0) (inG false y9)) (sRet (lF (b2 (lF (dLst (Yj (cC (Yj (cC (Yj (getC 1) aNil) lenC) aNil) strC) aNil))) (lF (Yjh (b1 (getV 1) Ybd) [none,some 0] (gSet 0) tY (Yb9 rec))) catD))) sNil) (sSeq (sIf (b1 (getC 0) (inG true Ydg)) (sRet (lF (dLst (Yj (cC (Yj (getV 0) (Yj (getV 1) aNil)) Yy) aNil)))) sNil) (sSeq (sOwn 2 (dLst (Yj (cC (Yj (cC (Yj (getC 1) aNil) lenC) aNil) strC) aNil))) (sSeq (sFor (b1 (getV 1) Ybd) (gSet 3) (Yca rec)) (wF [2] (sRet (getV 2)))))))
mutual
def Ye:Nat->List D->Option D
 | 0=>fun _=>none
 | k+1=>runB 2 4 (Ycg (Yp k))
def Yp:Nat->List D->Option D
 | 0=>fun _=>none
 | k+1=>runB 2 5 (Yc1 (Ye k))
end
def Yb1:List D->Option D:=Yp 6
theorem Yhn(bl:Bl K w mg){k j:Nat}(rc:Okf P w K mg base k 2 "parts_written" ["forms","parts"] (Yp j))(hk:3<=k):Okf P w K mg base (k+1) 2 "part_written" ["form","part"] (Ye (j+1)):=by
 unfold Ye
 refine okfn bl.f21 sc_part_written fun hr=>?_
 exact(Yu (Yas (Yrg bl.k_SEVERAL rfl (Yb 0)) (Ys (Yx (Ybb (Ybs (Yc (Ybb (Ya4 (Yd (Yad Yal Ycf rfl bl.Str boot_str (Yt (Yc (Yaw Yam Ydc rfl bl.Len PySem.boot_len (Yt (Yb 1) Yz))) Yz)) Yg)))) (Yc (Ybb (Yge cs_part_written_0 rfl (Yin (Yn 1)) (fun _ _ _ _ _=>(Ybl 0 cs_part_written_0.nd)) (fun _ _ _ _ _=>Yio) (fun _ _ _ _ _=>(Yr (Yd9 bl) hr rfl (Yd (Ylt bl.g_SEVERAL rfl (Yb 1)) (Yd (Yn 0) Yg)) aL2)) (Yfk (i:=0) rfl)))))))) Yag) (Yu (Yas (Ygh bl.k_ROWS rfl (Yb 0)) (Ys (Yx (Ybb (Ya4 (Yd (Yr (Yd9 bl) hr rfl (Yd (Yn 0) (Yd (Yn 1) Yg)) aL2) Yg))))) Yag) (Yu (Ybr 2 sc_part_written.nd (Ya4 (Yd (Yad Yal Ycf rfl bl.Str boot_str (Yt (Yc (Yaw Yam Ydc rfl bl.Len PySem.boot_len (Yt (Yb 1) Yz))) Yz)) Yg))) (Yu (Ym2 PassesOwn.never rfl (Yin (Yn 1)) (Ybl 3 sc_part_written.nd) (Ys (Yj4 2 (Yr rc hr rfl (Yd (Yey bl.g_ROWS rfl (Yb 0)) (Yd (Yn 3) Yg)) aL2)))) (Ys (Yki [2] (Yx (Yn 2))))))))
theorem Yg8(bl:Bl K w mg){k j:Nat}(rc:Okf P w K mg base k 2 "part_written" ["form","part"] (Ye j))(hk:3<=k):Okf P w K mg base (k+1) 2 "parts_written" ["forms","parts"] (Yp (j+1)):=by
 unfold Yp
 refine okfn bl.f22 sc_parts_written fun hr=>?_
 exact(Yu (Ybr 2 sc_parts_written.nd (Ya4 Yg)) (Yu (Ym2 PassesOwn.never rfl (Yxf bl.kts rfl bl.Zip (Yn 0) (Yn 1)) (Ytg 3 4 rfl sc_parts_written.nd) (Ys (Yj4 2 (Yr rc hr rfl (Yd (Yn 3) (Yd (Yn 4) Yg)) aL2)))) (Ys (Yki [2] (Yx (Yn 2))))))
theorem Yna(bl:Bl K w mg):∀j,Okf P w K mg base (3+j) 2 "part_written" ["form","part"] (Ye j)/\Okf P w K mg base (3+j) 2 "parts_written" ["forms","parts"] (Yp j)
 | 0=>⟨okf0 bl.f21 (by unfold Ye;rfl),okf0 bl.f22 (by unfold Yp;rfl)⟩
 | j+1=>⟨Yhn bl (Yna bl j).2 (Nat.le_add_right _ _),Yg8 bl (Yna bl j).1 (Nat.le_add_right _ _)⟩
theorem Yho(bl:Bl K w mg):Okf P w K mg base (3+6) 2 "parts_written" ["forms","parts"] Yb1:=(Yna bl 6).2
theorem Yhp:FnScope ["paper"] ["paper"] (defScope (top 23)):=fns
def Yen:Ro->Option Out:=(sRet (cC (Yj (lF (b2 (lF (dLst (Yj (b2 (getC 0) (kD (.int 0)) ixD) aNil))) (cC (Yj (b1 (b2 (getC 0) (kD (.int 0)) ixD) (Ye7 gt_PAPERS)) (Yj (slD (getC 0) (some (kD (.int 1))) none) aNil)) Yb1) catD)) aNil) (Yl0 (Str.ofString " "))))
def Yb2:List D->Option D:=runB 1 1 Yen
theorem Yhq(bl:Bl K w mg):Okf P w K mg base 10 1 "paper_written" ["paper"] Yb2:=by
 refine okfn bl.f23 Yhp fun hr=>?_
 exact(Ys (Yx (Yod (Yt (Yc (Ybb (Ybs (Yc (Ybb (Ya4 (Yd (y3 (Yb 0) (Yc Yi)) Yg)))) (Yc (Yr (Yho bl) hr rfl (Yd (Yey bl.g_PAPERS rfl (Yc (y3 (Yb 0) (Yc Yi)))) (Yd (Yqu (fl:=(some (kD (.int 1)))) (fh:=none) (Yb 0) (Yzx (Yc Yi)) Yzw) Yg)) aL2))))) Yz))))
theorem sc_place_read:FnScope ["word","number"] ["word"] (defScope (top 25)):=fns
def Yhg:Ro->Option Out:=(sSeq (sSet 1 (cC (Yj (getV 0) aNil) Yby)) (sRet (ifV (orT (b2 (getC 1) (kD .non) (isN false)) (b2 (getC 1) (kD (.int 200)) gtI)) (kD .non) (getV 1))))
def Ybv:List D->Option D:=runB 1 2 Yhg
theorem Ygk(bl:Bl K w mg):Okf P w K mg base 2 1 "place_read" ["word"] Ybv:=by
 refine okfn bl.f25 sc_place_read fun hr=>?_
 exact(Yu (Yg2 1 sc_place_read.nd (Yr (Ye8 bl) hr rfl (Yd (Yn 0) Yg) aL1)) (Ys (Yx (Yls (Yd6 (Ygd (Yg1 (Yb 1) (Yc Ybq)) (Ydv (Yqr (Yb 1) (Yc (Ykj bl.g_MOST_NUMBER rfl)))))) Ybq (Yn 1)))))
theorem Ypa:FnScope ["thing"] ["thing"] (defScope (top 26)):=fns
def Yl9:Ro->Option Out:=(sSeq (sIf (b2 (getC 0) (kD .non) (isN false)) nS sNil) (sRet (getV 0)))
def Yb3:List D->Option D:=runB 1 1 Yl9
theorem Ydo(bl:Bl K w mg):Okf P w K mg base 1 1 "checked" ["thing"] Yb3:=by
 refine okfn bl.f26 Ypa fun hr=>?_
 exact(Yu (Yas (Yg1 (Yb 0) (Yc Ybq)) (Ys Ygf) Yag) (Ys (Yx (Yn 0))))
theorem Ykq:FnScope ["form","word"] ["form","word"] (defScope (top 27)):=fns
@[simp] def Yjl:Ro->Option Out:=(sRet (cC (Yj (cC (Yj (getV 1) aNil) Ybz) aNil) Yb3))
@[simp] def Yjm:Ro->Option Out:=(sSeq (sIf (b2 (getC 0) (kD (.str "place")) (eqM false)) (sRet (cC (Yj (cC (Yj (getV 1) aNil) Ybv) aNil) Yb3)) sNil) Yjl)
@[simp] def Yjn:Ro->Option Out:=(sSeq (sIf (b2 (getC 0) (kD (.str "truth")) (eqM false)) (sRet (cC (Yj (b1 (getC 1) (Yua gt_TRUTHS_BY_WORD)) aNil) Yb3)) sNil) Yjm)
@[simp] def Yjo:Ro->Option Out:=(sSeq (sIf (b2 (getC 0) (kD (.str "saying")) (eqM false)) (sRet (cC (Yj (cC (Yj (getV 1) aNil) Yct) aNil) Yb3)) sNil) Yjn)
def Ybg:Ro->Option Out:=(sSeq (sIf (andT (b2 (getC 0) (kD (.str "source")) (eqM false)) (b2 (getC 1) (kD (.str "none")) (eqM false))) (sRet (kD .non)) sNil) Yjo)
def y7:List D->Option D:=runB 2 2 Ybg
theorem Ygl(bl:Bl K w mg):Okf P w K mg base 4 2 "thing_read" ["form","word"] y7:=by
 refine okfn bl.f27 Ykq fun hr=>?_
 exact(Yu (Yas (Yd6 (Ym1 (Yav hr.units (Yb 0) (Yc Yw)) (Ykh (Yav hr.units (Yb 1) (Yc Yw))))) (Ys (Yx Ybq)) Yag) (Yu (Yas (Yav hr.units (Yb 0) (Yc Yw)) (Ys (Yx (Yr (Ydo bl) hr rfl (Yd (Yr (Yjk bl) hr rfl (Yd (Yn 1) Yg) aL1) Yg) aL1))) Yag) (Yu (Yas (Yav hr.units (Yb 0) (Yc Yw)) (Ys (Yx (Yr (Ydo bl) hr rfl (Yd (Yri bl.g_TRUTHS_BY_WORD rfl (Yb 1)) Yg) aL1))) Yag) (Yu (Yas (Yav hr.units (Yb 0) (Yc Yw)) (Ys (Yx (Yr (Ydo bl) hr rfl (Yd (Yr (Ygk bl) hr rfl (Yd (Yn 1) Yg) aL1) Yg) aL1))) Yag) (Ys (Yx (Yr (Ydo bl) hr rfl (Yd (Yr (Ye9 bl) hr rfl (Yd (Yn 1) Yg) aL1) Yg) aL1)))))))
theorem Yfq:FnScope ["self"] ["self"] (defScope (inClass (top 24) 1)):=fns
def Yb4(ws:List Str)(l:Addr):TmV Int:=(retZ (rdD ws) l 0 (mB (b2 (b1 (getV 0) (fldD "Reader" "place")) (cC (Yj (b1 (getV 0) (fldD "Reader" "words")) aNil) lenC) (eqM false))))
def Ybc(ws:List Str):List D->Int->Option (D × Int):=runV true 1 (Yb4 ws)
theorem Yc2(bl:Bl K w mg):Okm P w K mg base 1 "Reader" "is_at_end" ["self"] (spV (rdH K) K 1 true fun z=>Ybc z.ws):=by
 refine okmv (g:=fun z=>Yb4 z.ws) bl.r_is_at_end Yfq fun {z l} _ _ _ _ _ _ _ hr=>?_
 exact(Yab (Yoj 0 (Yik hr.units (Yc (Ykm bl.n_place.cf (Yn 0))) (Yc (Yaw Yam Ydc rfl bl.Len PySem.boot_len (Yt (Yc (Ykm bl.n_words.cf (Yn 0))) Yz))))))
theorem Yiz:FnScope ["self"] ["self"] (defScope (inClass (top 24) 2)):=fns
def Yea(ws:List Str)(l:Addr):TmV Int:=(retZ (rdD ws) l 0 (b2 (b1 (getV 0) (fldD "Reader" "words")) (b2 (b1 (getV 0) (fldD "Reader" "place")) (kD (.int 1)) subI) ixD))
def Yeb(ws:List Str)(l:Addr):TmV Int:=(seqW (incR l 0) (Yea ws l))
def Ydh(ws:List Str)(l:Addr):TmV Int:=(seqW (ifE (blE (Yac l 0 (Ya0 aNil (Ybc ws)))) (Ycj nS) nilW) (Yeb ws l))
def Yax(ws:List Str):List D->Int->Option (D × Int):=runV true 1 (Ydh ws)
theorem Yb5(bl:Bl K w mg):Okm P w K mg base 2 "Reader" "taken" ["self"] (spV (rdH K) K 1 true fun z=>Yax z.ws):=by
 refine okmv (g:=fun z=>Ydh z.ws) bl.r_taken Yiz fun {z l} _ _ _ _ _ _ _ hr=>?_
 exact(y2 (Yq9 (Yq8 (Yez 0 (Yc2 bl) hr)) (Yab (Yaj Ygf)) Ydd) (y2 (Yxh 0 bl.n_place.cf) (Yab (Yoj 0 (y3 (Yc (Ykm bl.n_words.cf (Yn 0))) (Yc (Yqq (Yc (Ykm bl.n_place.cf (Yn 0))) (Yc Yi))))))))
theorem Ykr:FnScope ["forms","reader"] ["forms","reader"] (defScope (top 29)):=fns
theorem cs_parts_read_0:CompSc ["forms","reader"] (defScope (top 29)) ["form","reader"] [none,some 1] (fsc [(".0",.local),("form",.local),("part_read",.globalImplicit),("reader",.free)]):=Ycw (by decide +kernel)
def Yb6(ws:List Str)(rec:List D->Int->Option (D × Int))(l:Addr):TeV Int:=(Yac l 1 (Ya0 (Yj (getV 0) aNil) rec))
def Yeo(ws:List Str)(rec:List D->Int->Option (D × Int))(l:Addr):TmV Int:=(retE (tupE (Yok (b1 (getV 0) (tabD ktab)) [none,some 1] (gSet 0) (Yb6 ws rec l))))
theorem sc_part_read:FnScope ["form","reader","parts","count"] ["form","reader"] (defScope (top 28)):=fns
def Ya8(ws:List Str)(rec:List D->Int->Option (D × Int))(l:Addr):TmV Int:=(ifW (fun ρ _=>(b1 (getC 0) (inG false y9)) ρ) (appE 2 (Yis (Ya6 (Ycs (b1 (getC 0) (Ylr gt_SEVERAL))) (Ya6 (Yac l 1 (Ya0 aNil (Yax ws))) nilE)) y7)) (appE 2 (Yac l 1 (Ya0 (Yj (b1 (getC 0) (Ye7 gt_ROWS)) aNil) rec))))
def Ycu(ws:List Str)(rec:List D->Int->Option (D × Int))(l:Addr):TmV Int:=(Ycj (sRet (cC (Yj (getC 2) aNil) tupC)))
def Ygm(ws:List Str)(rec:List D->Int->Option (D × Int))(l:Addr):TmV Int:=(seqW (forE (Yis (Ya6 (Yis (Ya6 (Yac l 1 (Ya0 aNil (Yax ws))) nilE) Ybv) nilE) Yb3) (gSet 3) (Ya8 ws rec l)) (Ycu ws rec l))
def Ygn(ws:List Str)(rec:List D->Int->Option (D × Int))(l:Addr):TmV Int:=(seqW (Ycj (sOwn 2 (dLst aNil))) (Ygm ws rec l))
def Ycb(ws:List Str)(rec:List D->Int->Option (D × Int))(l:Addr):TmV Int:=(seqW (ifW (fun ρ _=>(andT (b1 (getC 0) (inG true y9)) (b1 (getC 0) (inG true Ydg))) ρ) (retE (Yis (Ya6 (Ycs (getV 0)) (Ya6 (Yac l 1 (Ya0 aNil (Yax ws))) nilE)) y7)) nilW) (Ygn ws rec l))
mutual
def Yl:Nat->List Str->List D->Int->Option (D × Int)
 | 0=>fun _ _ _=>none
 | k+1=>fun ws=>runV false 4 (Ycb ws (Yo k ws))
def Yo:Nat->List Str->List D->Int->Option (D × Int)
 | 0=>fun _ _ _=>none
 | k+1=>fun ws=>runV false 2 (Yeo ws (Yl k ws))
end
def Yck:List Str->List D->Int->Option (D × Int):=Yo 6
theorem Yks(bl:Bl K w mg){k j:Nat}(rc:OkV (rdH K) P w K mg base k 2 false "parts_read" ["forms","reader"] fun z=>Yo j z.ws)(hk:5<=k):OkV (rdH K) P w K mg base (k+1) 2 false "part_read" ["form","reader"] fun z=>Yl (j+1) z.ws:=by
 unfold Yl
 refine okfv (g:=fun z=>Ycb z.ws (Yo j z.ws)) bl.f28 sc_part_read fun {z l} _ _ _ _ _ _ _ hr=>?_
 exact(y2 (Ye6 (Yd6 (Ym1 (Ygh bl.k_SEVERAL rfl (Yb 0)) (Ykh (Ygh bl.k_ROWS rfl (Yb 0))))) (Yab (Yde (Yem (Ygl bl) hr rfl (y4 (Yai (Yn 0)) (y4 (Yez 1 (Yb5 bl) hr) Ybt)) (wLc (wLc wL0))))) Ydd) (y2 (Yaj (Ybr 2 sc_part_read.nd (Ya4 Yg))) (y2 (Ym8 PassesOwn.never rfl rfl bl.Range (Yem (Ydo bl) hr rfl (y4 (Yem (Ygk bl) hr rfl (y4 (Yez 1 (Yb5 bl) hr) Ybt) (wLc wL0)) Ybt) (wLc wL0)) (Ybl 3 sc_part_read.nd) (Yab (Ye6 (Yrg bl.k_SEVERAL rfl (Yb 0)) (Yab (Ykn 2 (Yem (Ygl bl) hr rfl (y4 (Yai (Ylt bl.g_SEVERAL rfl (Yb 0))) (y4 (Yez 1 (Yb5 bl) hr) Ybt)) (wLc (wLc wL0))))) (Yab (Ykn 2 (Yg4 (z:=z) (g:=fun z=>Yo j z.ws) 1 rc hr rfl (Yey bl.g_ROWS rfl (Yb 0)))))))) (Yab (Yaj (Yx (Yad Ycq Ymy rfl bl.Tuple boot_tuple (Yt (Yb 2) Yz))))))))
theorem Yjp(bl:Bl K w mg){k j:Nat}(rc:OkV (rdH K) P w K mg base k 2 false "part_read" ["form","reader"] fun z=>Yl j z.ws)(hk:5<=k):OkV (rdH K) P w K mg base (k+1) 2 false "parts_read" ["forms","reader"] fun z=>Yo (j+1) z.ws:=by
 unfold Yo
 refine okfv (g:=fun z=>Yeo z.ws (Yl j z.ws)) bl.f29 Ykr fun {z l} _ _ _ _ _ _ _ hr=>?_
 exact(Yab (Yde (Yoe (Yrj cs_parts_read_0 rfl (Yxg bl.kts (Yn 0)) (fun _ _ _ _ _=>(Ybl 0 cs_parts_read_0.nd)) (fun _ _ _ _ _=>(Yg4 (z:=z) (g:=fun z=>Yl j z.ws) 1 rc hr rfl (Yn 0))) (Yfk (i:=0) rfl)) rfl bl.Tuple)))
theorem Ykt(bl:Bl K w mg):∀j,(OkV (rdH K) P w K mg base (5+j) 2 false "part_read" ["form","reader"] fun z=>Yl j z.ws)/\(OkV (rdH K) P w K mg base (5+j) 2 false "parts_read" ["forms","reader"] fun z=>Yo j z.ws)
 | 0=>⟨okv0 bl.f28 (by unfold Yl;rfl),okv0 bl.f29 (by unfold Yo;rfl)⟩
 | j+1=>⟨Yks bl (Ykt bl j).2 (Nat.le_add_right _ _),Yjp bl (Ykt bl j).1 (Nat.le_add_right _ _)⟩
theorem Yku(bl:Bl K w mg):OkV (rdH K) P w K mg base (5+6) 2 false "parts_read" ["forms","reader"] fun z=>Yck z.ws:=(Ykt bl 6).2
theorem Yhr:FnScope ["self","text"] ["self","text"] (defScope (inClass (top 24) 0)):=fns
def Ybp:Ro->Option D:=(b1 (getV 1) (Yra (Str.ofString " ")))
theorem Yhs(bl:Bl K w mg):OkRd P w K mg base 1 ["self","text"] Ybp:=by
 refine okir bl.r_init bl.cR Yhr bl.n_words.cf bl.n_place.cf fun hr=>?_
 exact(Yf6 (Yut (pv 0) (zuE (Yrb (Yn 1))) rfl) (Ymm (Yut (pv 0) Ynu rfl)))
theorem sc_paper_read:FnScope ["text","reader","word","parts"] ["text"] (defScope (top 30)):=fns
def Yfa(ws:List Str)(l:Addr):TmV Int:=(Ycj (sRet (b2 (dTup (Yj (getV 2) aNil)) (getC 3) Yqp)))
def Yfb(ws:List Str)(l:Addr):TmV Int:=(seqW (ifE (notE (blE (Yac l 1 (Ya0 aNil (Ybc ws))))) (Ycj nS) nilW) (Yfa ws l))
def Yfc(ws:List Str)(l:Addr):TmV Int:=(seqW (setE 3 (Yac l 1 (Ya0 (Yj (b1 (getC 2) (Ye7 gt_PAPERS)) aNil) (Yck ws)))) (Yfb ws l))
def Yfd(ws:List Str)(l:Addr):TmV Int:=(seqW (Ycj (sIf (b1 (getC 2) (inG true Ygi)) nS sNil)) (Yfc ws l))
def Ych(ws:List Str)(l:Addr):TmV Int:=(seqW (setE 2 (Yac l 1 (Ya0 aNil (Yax ws)))) (Yfd ws l))
def Yep:Ro->Option Out:=(Yuc 1 Ybp (getV 0) Ych)
def Ycl:List D->Option D:=runB 1 4 Yep
theorem Ygo(bl:Bl K w mg):Okf P w K mg base 12 1 "paper_read" ["text"] Ycl:=by
 refine okfn bl.f30 sc_paper_read fun hr=>?_
 exact(Yo9 1 (Yhs bl) (fun _ _ h _=>h) hr rfl (Yn 0) sc_paper_read.nd (fun z l=>(y2 (Ydf 2 sc_paper_read.nd (Yez 1 (Yb5 bl) hr)) (y2 (Yaj (Yas (Ygh bl.k_PAPERS rfl (Yb 2)) (Ys Ygf) Yag)) (y2 (Ydf 3 sc_paper_read.nd (Yg4 (z:=z) (g:=fun z=>Yck z.ws) 1 (Yku bl) hr rfl (Yey bl.g_PAPERS rfl (Yb 2)))) (y2 (Yq9 (Yw7 (Yq8 (Yez 1 (Yc2 bl) hr))) (Yab (Yaj Ygf)) Ydd) (Yab (Yaj (Yx (Yth (Yc (Yim (Yd (Yn 2) Yg))) (Yb 3)))))))))))
theorem Yma:FnScope ["cell","by"] ["cell","by"] (defScope (top 32)):=fns
def Yi0:Ro->Option Out:=(sRet (b2 (b2 (b2 (getC 0) (kD (.int 2305843009213693951)) modI) (getC 1) mulI) (kD (.int 2305843009213693951)) modI))
def Yc3:List D->Option D:=runB 2 2 Yi0
theorem Ymb(bl:Bl K w mg):Okf P w K mg base 1 2 "_law_mixed" ["cell","by"] Yc3:=by
 refine okfn bl.f32 Yma fun hr=>?_
 exact(Ys (Yx (Ybe (Yc (Yfm (Yc (Ybe (Yb 0) (Yc Yi))) (Yb 1))) (Yc Yi))))
theorem Ynb:FnScope ["tape"] ["tape"] (defScope (top 33)):=fns
def Ymc(l:Addr):TmM:=(Ycj (sRet (kD (.int 0))))
def Yg9(l:Addr):TmM:=(seqW (ifW (Yty l 0 (b2 (cC (Yj (getC 0) aNil) lenC) (kD (.int 0)) gtI)) (retE (Yis (Ya6 (popE l 0) (Ya6 (Ycs (kD (.int 2049848353892358983))) nilE)) Yc3)) nilW) (Ymc l))
def Ya9:List D->List Int->Option (D × List Int):=runT 1 Yg9
theorem Yc4(bl:Bl K w mg):OkT P w K mg base 2 1 "_law_next" ["tape"] Ya9:=by
 refine okft bl.f33 Ynb fun hr=>?_
 exact(y2 (Yw8 0 (Yqr (Yc (Yaw Yam Ydc rfl bl.Len PySem.boot_len (Yt (Yb 0) Yz))) (Yc Yi)) (Yab (Yde (Yem (Ymb bl) hr rfl (y4 (Yw9 0) (y4 (Yai Yi) Ybt)) (wLc (wLc wL0))))) Ydd) (Yab (Yaj (Yx Yi))))
theorem sc_law_many:FnScope ["tape","most","left"] ["tape","most"] (defScope (top 34)):=fns
def Yhh(l:Addr):TmM:=(Ycj (sRet (b2 (getC 2) (kD (.int 6)) modI)))
def Yhi(l:Addr):TmM:=(seqW (Ycj (sIf (b2 (b2 (b2 (getC 2) (kD (.int 6)) divI) (kD (.int 8)) modI) (kD (.int 1)) (eqM false)) (sRet (b2 (kD (.int 60)) (b2 (b2 (getC 2) (kD (.int 48)) divI) (b2 (getC 1) (kD (.int 59)) subI) modI) addI)) sNil)) (Yhh l))
def Yj6(l:Addr):TmM:=(seqW (setE 2 (Yac l 0 (Ya0 aNil Ya9))) (Yhi l))
def Ydp:List D->List Int->Option (D × List Int):=runT 3 Yj6
theorem Yfr(bl:Bl K w mg):OkT P w K mg base 3 2 "_law_many" ["tape","most"] Ydp:=by
 refine okft bl.f34 sc_law_many fun hr=>?_
 exact(y2 (Ydf 2 sc_law_many.nd (Yae 0 (Yc4 bl) hr rfl Yg aL0)) (y2 (Yaj (Yas (Yav hr.units (Yc (Ybe (Yc (Ydu (Yb 2) (Yc Yi))) (Yc Yi))) (Yc Yi)) (Ys (Yx (Ywq (Yc Yi) (Yc (Ybe (Yc (Ydu (Yb 2) (Yc Yi))) (Yc (Yqq (Yb 1) (Yc Yi)))))))) Yag)) (Yab (Yaj (Yx (Ybe (Yb 2) (Yc Yi)))))))
theorem sc_law_any_road:FnScope ["tape","road","k","left"] ["tape"] (defScope (top 35)):=fns
def Ycc(l:Addr):TmM:=(seqW (setE 3 (binE (Yac l 0 (Ya0 aNil Ya9)) (Ycs (b2 (b2 (kD (.int 7919)) (getC 2) mulI) (getC 2) mulI)) addI)) (Ycj (sMut 1 (dTup (Yj (b2 (getC 3) (kD (.int 60)) modI) (Yj (mB (b2 (b2 (b2 (getC 3) (kD (.int 60)) divI) (kD (.int 2)) modI) (kD (.int 1)) (eqM false))) aNil))) appD)))
def Yec(l:Addr):TmM:=(Ycj (sRet (cC (Yj (getC 1) aNil) tupC)))
def Yed(l:Addr):TmM:=(seqW (forE (Yac l 0 (Ya0 (Yj (kD (.int 200)) aNil) Ydp)) (gSet 2) (Ycc l)) (Yec l))
def Yfe(l:Addr):TmM:=(seqW (Ycj (sOwn 1 (dLst aNil))) (Yed l))
def Yay:List D->List Int->Option (D × List Int):=runT 4 Yfe
theorem Yc5(bl:Bl K w mg):OkT P w K mg base 4 1 "_law_any_road" ["tape"] Yay:=by
 refine okft bl.f35 sc_law_any_road fun hr=>?_
 exact(y2 (Yaj (Ybr 1 sc_law_any_road.nd (Ya4 Yg))) (y2 (Ym8 PassesOwn.never rfl rfl bl.Range (Yae 0 (Yfr bl) hr rfl (Yd Yi Yg) aL1) (Ybl 2 sc_law_any_road.nd) (y2 (Ydf 3 sc_law_any_road.nd (Ym7 (Yae 0 (Yc4 bl) hr rfl Yg aL0) (Yai (Yfm (Yc (Yfm (Yc Yi) (Yb 2))) (Yb 2))))) (Yab (Yaj (Ydn 1 (Yim (Yd (Ybe (Yb 3) (Yc Yi)) (Yd (Yik hr.units (Yc (Ybe (Yc (Ydu (Yb 3) (Yc Yi))) (Yc Yi))) (Yc Yi)) Yg)))))))) (Yab (Yaj (Yx (Yad Ycq Ymy rfl bl.Tuple boot_tuple (Yt (Yb 1) Yz)))))))
theorem Ygp:FnScope ["tape","most"] ["tape","most"] (defScope (top 36)):=fns
theorem cs_law_any_numbers_0:CompSc ["tape","most"] (defScope (top 36)) ["k","tape","most"] [none,some 0,some 1] (fsc [(".0",.local),("k",.local),("_law_next",.globalImplicit),("most",.free),("tape",.free)]):=Ycw (by decide +kernel)
def Ycp(l:Addr):Te:=(binE (binE (Yac l 1 (Ya0 aNil Ya9)) (Ycs (b2 (b2 (kD (.int 7919)) (getC 0) mulI) (getC 0) mulI)) addI) (Ycs (getV 2)) modI)
def Ydq(l:Addr):TmM:=(retE (tupE (Yl3 (Yac l 0 (Ya0 (Yj (kD (.int 200)) aNil) Ydp)) [none,some 0,some 1] (gSet 0) (Ycp l))))
def Yaf:List D->List Int->Option (D × List Int):=runT 2 Ydq
theorem Yak(bl:Bl K w mg):OkT P w K mg base 4 2 "_law_any_numbers" ["tape","most"] Yaf:=by
 refine okft bl.f36 Ygp fun hr=>?_
 exact(Yab (Yde (Yoe (Ytu cs_law_any_numbers_0 rfl rfl bl.Range (Yae 0 (Yfr bl) hr rfl (Yd Yi Yg) aL1) (fun _ _ _ _ _=>(Ybl 0 cs_law_any_numbers_0.nd)) (fun _ _ _ _ _=>(Yw4 (Ym7 (Yae 1 (Yc4 bl) hr rfl Yg aL0) (Yai (Yfm (Yc (Yfm (Yc Yi) (Yb 0))) (Yb 0)))) (Yai (Yn 2)))) (Yfk (i:=0) rfl)) rfl bl.Tuple)))
theorem sc_law_any_rows:FnScope ["tape","word","rows","k","left"] ["tape","word"] (defScope (top 37)):=fns
def Yao(l:Addr):TmM:=(seqW (setE 4 (binE (Yac l 0 (Ya0 aNil Ya9)) (Ycs (b2 (b2 (kD (.int 7919)) (getC 3) mulI) (getC 3) mulI)) addI)) (ifW (fun ρ _=>(b2 (getC 1) (kD (.str "plan")) (eqM false)) ρ) (Ycj (sMut 2 (dTup (Yj (b2 (getC 4) (kD (.int 60)) modI) (Yj (b2 (lF (dLst (Yj (kD .non) (Yj (b2 (b2 (getC 4) (kD (.int 60)) divI) (kD (.int 60)) modI) aNil)))) (b2 (b2 (getC 4) (kD (.int 3600)) divI) (kD (.int 2)) modI) ixD) (Yj (mB (b2 (b2 (b2 (getC 4) (kD (.int 7200)) divI) (kD (.int 2)) modI) (kD (.int 1)) (eqM false))) aNil)))) appD)) (ifW (fun ρ _=>(b2 (getC 1) (kD (.str "sums")) (eqM false)) ρ) (appE 2 (tupE (Ya6 (Ycs (b2 (getC 4) (kD (.int 60)) modI)) (Ya6 (Yac l 0 (Ya0 (Yj (kD (.int 60)) aNil) Yaf)) (Ya6 (Ycs (mB (b2 (b2 (b2 (getC 4) (kD (.int 7200)) divI) (kD (.int 2)) modI) (kD (.int 1)) (eqM false)))) nilE))))) (appE 2 (tupE (Ya6 (Ycs (b2 (getC 4) (kD (.int 60)) modI)) (Ya6 (Yac l 0 (Ya0 (Yj (kD (.int 60)) aNil) Yaf)) nilE)))))))
def Yee(l:Addr):TmM:=(Ycj (sRet (cC (Yj (getC 2) aNil) tupC)))
def Yef(l:Addr):TmM:=(seqW (forE (Yac l 0 (Ya0 (Yj (kD (.int 66)) aNil) Ydp)) (gSet 3) (Yao l)) (Yee l))
def Yff(l:Addr):TmM:=(seqW (Ycj (sOwn 2 (dLst aNil))) (Yef l))
def Ybn:List D->List Int->Option (D × List Int):=runT 5 Yff
theorem Yeq(bl:Bl K w mg):OkT P w K mg base 5 2 "_law_any_rows" ["tape","word"] Ybn:=by
 refine okft bl.f37 sc_law_any_rows fun hr=>?_
 exact(y2 (Yaj (Ybr 2 sc_law_any_rows.nd (Ya4 Yg))) (y2 (Ym8 PassesOwn.never rfl rfl bl.Range (Yae 0 (Yfr bl) hr rfl (Yd Yi Yg) aL1) (Ybl 3 sc_law_any_rows.nd) (y2 (Ydf 4 sc_law_any_rows.nd (Ym7 (Yae 0 (Yc4 bl) hr rfl Yg aL0) (Yai (Yfm (Yc (Yfm (Yc Yi) (Yb 3))) (Yb 3))))) (Yab (Ye6 (Yav hr.units (Yb 1) (Yc Yw)) (Yab (Yaj (Ydn 2 (Yim (Yd (Ybe (Yb 4) (Yc Yi)) (Yd (y3 (Yc (Ybb (Ya4 (Yd Ybq (Yd (Ybe (Yc (Ydu (Yb 4) (Yc Yi))) (Yc Yi)) Yg))))) (Yc (Ybe (Yc (Ydu (Yb 4) (Yc Yi))) (Yc Yi)))) (Yd (Yik hr.units (Yc (Ybe (Yc (Ydu (Yb 4) (Yc Yi))) (Yc Yi))) (Yc Yi)) Yg))))))) (Yab (Ye6 (Yav hr.units (Yb 1) (Yc Yw)) (Yab (Ykn 2 (Yel (y4 (Yai (Ybe (Yb 4) (Yc Yi))) (y4 (Yae 0 (Yak bl) hr rfl (Yd Yi Yg) aL1) (y4 (Yai (Yik hr.units (Yc (Ybe (Yc (Ydu (Yb 4) (Yc Yi))) (Yc Yi))) (Yc Yi))) Ybt)))))) (Yab (Ykn 2 (Yel (y4 (Yai (Ybe (Yb 4) (Yc Yi))) (y4 (Yae 0 (Yak bl) hr rfl (Yd Yi Yg) aL1) Ybt))))))))))) (Yab (Yaj (Yx (Yad Ycq Ymy rfl bl.Tuple boot_tuple (Yt (Yb 2) Yz)))))))
theorem sc_law_any:FnScope ["tape","left","word","road","places","numbers"] ["tape"] (defScope (top 38)):=fns
def Yi1(l:Addr):TmM:=(Ycj (sRet (dTup (Yj (getV 2) aNil))))
def Yfs(l:Addr):TmM:=(seqW (ifW (fun ρ _=>(b2 (getC 2) (kD (.str "rows")) (eqM false)) ρ) (seqW (setE 5 (Yac l 0 (Ya0 (Yj (kD (.int 60)) aNil) Yaf))) (retE (tupE (Ya6 (Ycs (getV 2)) (Ya6 (Ycs (getV 5)) (Ya6 (Yac l 0 (Ya0 (Yj (getV 2) aNil) Ybn)) nilE)))))) nilW) (Yi1 l))
def Yd1(l:Addr):TmM:=(seqW (ifW (fun ρ _=>(orT (b2 (getC 2) (kD (.str "plan")) (eqM false)) (b2 (getC 2) (kD (.str "sums")) (eqM false))) ρ) (retE (tupE (Ya6 (Ycs (getV 2)) (Ya6 (Yac l 0 (Ya0 (Yj (getV 2) aNil) Ybn)) nilE)))) nilW) (Yfs l))
def Yft(l:Addr):TmM:=(seqW (ifW (fun ρ _=>(b2 (getC 2) (kD (.str "lone")) (eqM false)) ρ) (seqW (setE 4 (Yac l 0 (Ya0 (Yj (kD (.int 201)) aNil) Yaf))) (retE (tupE (Ya6 (Ycs (getV 2)) (Ya6 (Ycs (b2 (lF (dLst (Yj (kD .non) (Yj (b2 (b2 (getC 1) (kD (.int 9)) divI) (kD (.int 60)) modI) aNil)))) (b2 (b2 (getC 1) (kD (.int 540)) divI) (kD (.int 2)) modI) ixD)) (Ya6 (Ycs (getV 4)) (Ya6 (Yac l 0 (Ya0 (Yj (kD (.int 201)) aNil) Yaf)) nilE))))))) nilW) (Yd1 l))
def Yfu(l:Addr):TmM:=(seqW (ifW (fun ρ _=>(b2 (getC 2) (kD (.str "odd")) (eqM false)) ρ) (retE (tupE (Ya6 (Ycs (getV 2)) (Ya6 (Yac l 0 (Ya0 (Yj (kD (.int 201)) aNil) Yaf)) nilE)))) nilW) (Yft l))
def Yfv(l:Addr):TmM:=(seqW (ifW (fun ρ _=>(b2 (getC 2) (kD (.str "cross")) (eqM false)) ρ) (retE (tupE (Ya6 (Ycs (getV 2)) (Ya6 (Yac l 0 (Ya0 aNil Yay)) nilE)))) nilW) (Yfu l))
def Yc6(l:Addr):TmM:=(seqW (ifW (fun ρ _=>(orT (b2 (getC 2) (kD (.str "clash")) (eqM false)) (b2 (getC 2) (kD (.str "late")) (eqM false))) ρ) (seqW (setE 3 (Yac l 0 (Ya0 aNil Yay))) (retE (tupE (Ya6 (Ycs (getV 2)) (Ya6 (Ycs (getV 3)) (Ya6 (Yac l 0 (Ya0 aNil Yay)) nilE)))))) nilW) (Yfv l))
def Yi2(l:Addr):TmM:=(seqW (Ycj (sSet 2 (b2 (lF (dLst (Yj (kD (.str "broken")) (Yj (kD (.str "clash")) (Yj (kD (.str "cross")) (Yj (kD (.str "late")) (Yj (kD (.str "odd")) (Yj (kD (.str "lone")) (Yj (kD (.str "plan")) (Yj (kD (.str "sums")) (Yj (kD (.str "rows")) aNil))))))))))) (b2 (getC 1) (kD (.int 9)) modI) ixD))) (Yc6 l))
def Yi3(l:Addr):TmM:=(seqW (setE 1 (Yac l 0 (Ya0 aNil Ya9))) (Yi2 l))
def Ygq:List D->List Int->Option (D × List Int):=runT 6 Yi3
theorem Ypb(bl:Bl K w mg):OkT P w K mg base 6 1 "_law_any" ["tape"] Ygq:=by
 refine okft bl.f38 sc_law_any fun hr=>?_
 exact(y2 (Ydf 1 sc_law_any.nd (Yae 0 (Yc4 bl) hr rfl Yg aL0)) (y2 (Yaj (Yg2 2 sc_law_any.nd (y3 (Yc (Ybb (Ya4 (Yd Yw (Yd Yw (Yd Yw (Yd Yw (Yd Yw (Yd Yw (Yd Yw (Yd Yw (Yd Yw Yg)))))))))))) (Yc (Ybe (Yb 1) (Yc Yi)))))) (y2 (Ye6 (Yd6 (Ygd (Yav hr.units (Yb 2) (Yc Yw)) (Ydv (Yav hr.units (Yb 2) (Yc Yw))))) (y2 (Ydf 3 sc_law_any.nd (Yae 0 (Yc5 bl) hr rfl Yg aL0)) (Yab (Yde (Yel (y4 (Yai (Yn 2)) (y4 (Yai (Yn 3)) (y4 (Yae 0 (Yc5 bl) hr rfl Yg aL0) Ybt))))))) Ydd) (y2 (Ye6 (Yav hr.units (Yb 2) (Yc Yw)) (Yab (Yde (Yel (y4 (Yai (Yn 2)) (y4 (Yae 0 (Yc5 bl) hr rfl Yg aL0) Ybt))))) Ydd) (y2 (Ye6 (Yav hr.units (Yb 2) (Yc Yw)) (Yab (Yde (Yel (y4 (Yai (Yn 2)) (y4 (Yae 0 (Yak bl) hr rfl (Yd Yi Yg) aL1) Ybt))))) Ydd) (y2 (Ye6 (Yav hr.units (Yb 2) (Yc Yw)) (y2 (Ydf 4 sc_law_any.nd (Yae 0 (Yak bl) hr rfl (Yd Yi Yg) aL1)) (Yab (Yde (Yel (y4 (Yai (Yn 2)) (y4 (Yai (y3 (Yc (Ybb (Ya4 (Yd Ybq (Yd (Ybe (Yc (Ydu (Yb 1) (Yc Yi))) (Yc Yi)) Yg))))) (Yc (Ybe (Yc (Ydu (Yb 1) (Yc Yi))) (Yc Yi))))) (y4 (Yai (Yn 4)) (y4 (Yae 0 (Yak bl) hr rfl (Yd Yi Yg) aL1) Ybt)))))))) Ydd) (y2 (Ye6 (Yd6 (Ygd (Yav hr.units (Yb 2) (Yc Yw)) (Ydv (Yav hr.units (Yb 2) (Yc Yw))))) (Yab (Yde (Yel (y4 (Yai (Yn 2)) (y4 (Yae 0 (Yeq bl) hr rfl (Yd (Yn 2) Yg) aL1) Ybt))))) Ydd) (y2 (Ye6 (Yav hr.units (Yb 2) (Yc Yw)) (y2 (Ydf 5 sc_law_any.nd (Yae 0 (Yak bl) hr rfl (Yd Yi Yg) aL1)) (Yab (Yde (Yel (y4 (Yai (Yn 2)) (y4 (Yai (Yn 5)) (y4 (Yae 0 (Yeq bl) hr rfl (Yd (Yn 2) Yg) aL1) Ybt))))))) Ydd) (Yab (Yaj (Yx (Yim (Yd (Yn 2) Yg)))))))))))))
theorem Yfw:FnScope ["numbers"] ["numbers"] (defScope (top 39)):=fns
theorem cs_law_number_words_0:CompSc ["numbers"] (defScope (top 39)) ["number"] [none] (fsc [(".0",.local),("number",.local),("str",.globalImplicit)]):=Ycw (by decide +kernel)
def Ybh:Ro->Option D:=(cC (Yj (getC 0) aNil) strC)
def Yc9:Ro->Option Out:=(sRet (lF (b2 (lF (dLst (Yj (cC (Yj (cC (Yj (getC 0) aNil) lenC) aNil) strC) aNil))) (lF (Yjh (b1 (getV 0) Ybd) [none] (gSet 0) tY (Ybh))) catD)))
def Yaa:List D->Option D:=runB 1 1 Yc9
theorem Yap(bl:Bl K w mg):Okf P w K mg base 1 1 "_law_number_words" ["numbers"] Yaa:=by
 refine okfn bl.f39 Yfw fun hr=>?_
 exact(Ys (Yx (Ybb (Ybs (Yc (Ybb (Ya4 (Yd (Yad Yal Ycf rfl bl.Str boot_str (Yt (Yc (Yaw Yam Ydc rfl bl.Len PySem.boot_len (Yt (Yb 0) Yz))) Yz)) Yg)))) (Yc (Ybb (Yge cs_law_number_words_0 rfl (Yin (Yn 0)) (fun _ _ _ _ _=>(Ybl 0 cs_law_number_words_0.nd)) (fun _ _ _ _ _=>Yio) (fun _ _ _ _ _=>(Yad Yal Ycf rfl bl.Str boot_str (Yt (Yb 0) Yz))) (Yfk (i:=0) rfl))))))))
theorem Yha:FnScope ["road"] ["road"] (defScope (top 40)):=fns
theorem cs_law_road_words_0:CompSc ["road"] (defScope (top 40)) ["saying"] [none] (fsc [(".0",.local),("saying",.local),("int",.globalImplicit),("str",.globalImplicit)]):=Ycw (by decide +kernel)
def Ybu:Ro->Option D:=(b2 (b2 (lF (dLst (Yj (kD (.str "-")) (Yj (kD (.str "+")) aNil)))) (cC (Yj (b2 (getC 0) (kD (.int 1)) ixD) aNil) intC) ixD) (cC (Yj (b2 (getC 0) (kD (.int 0)) ixD) aNil) strC) addS)
def Yeg:Ro->Option Out:=(sRet (lF (b2 (lF (dLst (Yj (cC (Yj (cC (Yj (getC 0) aNil) lenC) aNil) strC) aNil))) (lF (Yjh (b1 (getV 0) Ybd) [none] (gSet 0) tY (Ybu))) catD)))
def Yau:List D->Option D:=runB 1 1 Yeg
theorem Ycd(bl:Bl K w mg):Okf P w K mg base 1 1 "_law_road_words" ["road"] Yau:=by
 refine okfn bl.f40 Yha fun hr=>?_
 exact(Ys (Yx (Ybb (Ybs (Yc (Ybb (Ya4 (Yd (Yad Yal Ycf rfl bl.Str boot_str (Yt (Yc (Yaw Yam Ydc rfl bl.Len PySem.boot_len (Yt (Yb 0) Yz))) Yz)) Yg)))) (Yc (Ybb (Yge cs_law_road_words_0 rfl (Yin (Yn 0)) (fun _ _ _ _ _=>(Ybl 0 cs_law_road_words_0.nd)) (fun _ _ _ _ _=>Yio) (fun _ _ _ _ _=>(Yto (Yc (y3 (Yc (Ybb (Ya4 (Yd Yw (Yd Yw Yg))))) (Yc (Yad Yh3 Ymz rfl bl.Int boot_int (Yt (Yc (y3 (Yb 0) (Yc Yi))) Yz))))) (Yc (Yad Yal Ycf rfl bl.Str boot_str (Yt (Yc (y3 (Yb 0) (Yc Yi))) Yz))))) (Yfk (i:=0) rfl))))))))
theorem Yht:FnScope ["beacon"] ["beacon"] (defScope (top 41)):=fns
def Yc7:Ro->Option Out:=(sSeq (sIf (b2 (getC 0) (kD .non) (isN false)) (sRet (kD (.str "none"))) sNil) (sRet (cC (Yj (getC 0) aNil) strC)))
def Ybi:List D->Option D:=runB 1 1 Yc7
theorem Yeh(bl:Bl K w mg):Okf P w K mg base 1 1 "_law_free_word" ["beacon"] Ybi:=by
 refine okfn bl.f41 Yht fun hr=>?_
 exact(Yu (Yas (Yg1 (Yb 0) (Yc Ybq)) (Ys (Yx Yw)) Yag) (Ys (Yx (Yad Yal Ycf rfl bl.Str boot_str (Yt (Yb 0) Yz)))))
theorem sc_law_rows_words:FnScope ["word","rows","words","row"] ["word","rows"] (defScope (top 42)):=fns
def Yaq:Ro->Option Out:=(sSeq (sMut 2 (cC (Yj (b2 (getC 3) (kD (.int 0)) ixD) aNil) strC) appD) (sSeq (sIf (b2 (getC 0) (kD (.str "plan")) (eqM false)) (sOwn 2 (b2 (getC 2) (lF (dLst (Yj (cC (Yj (b2 (getC 3) (kD (.int 1)) ixD) aNil) Ybi) (Yj (b2 (lF (dLst (Yj (kD (.str "no")) (Yj (kD (.str "yes")) aNil)))) (cC (Yj (b2 (getC 3) (kD (.int 2)) ixD) aNil) intC) ixD) aNil)))) catD)) (sOwn 2 (b2 (getC 2) (cC (Yj (b2 (getC 3) (kD (.int 1)) ixD) aNil) Yaa) catD))) (sIf (b2 (getC 0) (kD (.str "sums")) (eqM false)) (sMut 2 (b2 (lF (dLst (Yj (kD (.str "no")) (Yj (kD (.str "yes")) aNil)))) (cC (Yj (b2 (getC 3) (kD (.int 2)) ixD) aNil) intC) ixD) appD) sNil)))
@[simp] def Ygr:Ro->Option Out:=(wF [2] (sRet (getV 2)))
@[simp] def Ygs:Ro->Option Out:=(sSeq (sFor (b1 (getV 1) Ybd) (gSet 3) Yaq) Ygr)
def Yei:Ro->Option Out:=(sSeq (sOwn 2 (dLst (Yj (cC (Yj (cC (Yj (getC 1) aNil) lenC) aNil) strC) aNil))) Ygs)
def Ya7:List D->Option D:=runB 2 4 Yei
theorem Ydr(bl:Bl K w mg):Okf P w K mg base 2 2 "_law_rows_words" ["word","rows"] Ya7:=by
 refine okfn bl.f42 sc_law_rows_words fun hr=>?_
 exact(Yu (Ybr 2 sc_law_rows_words.nd (Ya4 (Yd (Yad Yal Ycf rfl bl.Str boot_str (Yt (Yc (Yaw Yam Ydc rfl bl.Len PySem.boot_len (Yt (Yb 1) Yz))) Yz)) Yg))) (Yu (Ym2 PassesOwn.never rfl (Yin (Yn 1)) (Ybl 3 sc_law_rows_words.nd) (Yu (Ydn 2 (Yad Yal Ycf rfl bl.Str boot_str (Yt (Yc (y3 (Yb 3) (Yc Yi))) Yz))) (Yu (Yas (Yav hr.units (Yb 0) (Yc Yw)) (Ys (Ybr 2 sc_law_rows_words.nd (Ybs (Yb 2) (Yc (Ybb (Ya4 (Yd (Yr (Yeh bl) hr rfl (Yd (y3 (Yb 3) (Yc Yi)) Yg) aL1) (Yd (y3 (Yc (Ybb (Ya4 (Yd Yw (Yd Yw Yg))))) (Yc (Yad Yh3 Ymz rfl bl.Int boot_int (Yt (Yc (y3 (Yb 3) (Yc Yi))) Yz)))) Yg)))))))) (Ys (Ybr 2 sc_law_rows_words.nd (Ybs (Yb 2) (Yc (Yr (Yap bl) hr rfl (Yd (y3 (Yb 3) (Yc Yi)) Yg) aL1)))))) (Ys (Yas (Yav hr.units (Yb 0) (Yc Yw)) (Ys (Ydn 2 (y3 (Yc (Ybb (Ya4 (Yd Yw (Yd Yw Yg))))) (Yc (Yad Yh3 Ymz rfl bl.Int boot_int (Yt (Yc (y3 (Yb 3) (Yc Yi))) Yz)))))) Yag))))) (Ys (Yki [2] (Yx (Yn 2))))))
theorem sc_law_paper_words:FnScope ["paper","word","words"] ["paper"] (defScope (top 43)):=fns
@[simp] def Yfx:Ro->Option Out:=(wF [2] (sRet (getV 2)))
@[simp] def Yfy:Ro->Option Out:=(sSeq (sIf (b2 (getC 1) (kD (.str "rows")) (eqM false)) (sOwn 2 (b2 (lF (b2 (getC 2) (cC (Yj (b2 (getC 0) (kD (.int 1)) ixD) aNil) Yaa) catD)) (cC (Yj (getV 1) (Yj (b2 (getC 0) (kD (.int 2)) ixD) aNil)) Ya7) catD)) sNil) Yfx)
@[simp] def Yfz:Ro->Option Out:=(sSeq (sIf (orT (b2 (getC 1) (kD (.str "plan")) (eqM false)) (b2 (getC 1) (kD (.str "sums")) (eqM false))) (sOwn 2 (b2 (getC 2) (cC (Yj (getV 1) (Yj (b2 (getC 0) (kD (.int 1)) ixD) aNil)) Ya7) catD)) sNil) Yfy)
@[simp] def Yf0:Ro->Option Out:=(sSeq (sIf (b2 (getC 1) (kD (.str "lone")) (eqM false)) (sSeq (sMut 2 (cC (Yj (b2 (getC 0) (kD (.int 1)) ixD) aNil) Ybi) appD) (sOwn 2 (b2 (lF (b2 (getC 2) (cC (Yj (b2 (getC 0) (kD (.int 2)) ixD) aNil) Yaa) catD)) (cC (Yj (b2 (getC 0) (kD (.int 3)) ixD) aNil) Yaa) catD))) sNil) Yfz)
@[simp] def Yf1:Ro->Option Out:=(sSeq (sIf (b2 (getC 1) (kD (.str "odd")) (eqM false)) (sOwn 2 (b2 (getC 2) (cC (Yj (b2 (getC 0) (kD (.int 1)) ixD) aNil) Yaa) catD)) sNil) Yf0)
@[simp] def Yf2:Ro->Option Out:=(sSeq (sIf (b2 (getC 1) (kD (.str "cross")) (eqM false)) (sOwn 2 (b2 (getC 2) (cC (Yj (b2 (getC 0) (kD (.int 1)) ixD) aNil) Yau) catD)) sNil) Yf1)
@[simp] def Yf3:Ro->Option Out:=(sSeq (sIf (orT (b2 (getC 1) (kD (.str "clash")) (eqM false)) (b2 (getC 1) (kD (.str "late")) (eqM false))) (sOwn 2 (b2 (lF (b2 (getC 2) (cC (Yj (b2 (getC 0) (kD (.int 1)) ixD) aNil) Yau) catD)) (cC (Yj (b2 (getC 0) (kD (.int 2)) ixD) aNil) Yau) catD)) sNil) Yf2)
@[simp] def Yf4:Ro->Option Out:=(sSeq (sOwn 2 (dLst (Yj (getV 1) aNil))) Yf3)
def y6:Ro->Option Out:=(sSeq (sSet 1 (b2 (getC 0) (kD (.int 0)) ixD)) Yf4)
def Ybm:List D->Option D:=runB 1 3 y6
theorem Ygt(bl:Bl K w mg):Okf P w K mg base 3 1 "_law_paper_words" ["paper"] Ybm:=by
 refine okfn bl.f43 sc_law_paper_words fun hr=>?_
 exact(Yu (Yg2 1 sc_law_paper_words.nd (y3 (Yb 0) (Yc Yi))) (Yu (Ybr 2 sc_law_paper_words.nd (Ya4 (Yd (Yn 1) Yg))) (Yu (Yas (Yd6 (Ygd (Yav hr.units (Yb 1) (Yc Yw)) (Ydv (Yav hr.units (Yb 1) (Yc Yw))))) (Ys (Ybr 2 sc_law_paper_words.nd (Ybs (Yc (Ybb (Ybs (Yb 2) (Yc (Yr (Ycd bl) hr rfl (Yd (y3 (Yb 0) (Yc Yi)) Yg) aL1))))) (Yc (Yr (Ycd bl) hr rfl (Yd (y3 (Yb 0) (Yc Yi)) Yg) aL1))))) Yag) (Yu (Yas (Yav hr.units (Yb 1) (Yc Yw)) (Ys (Ybr 2 sc_law_paper_words.nd (Ybs (Yb 2) (Yc (Yr (Ycd bl) hr rfl (Yd (y3 (Yb 0) (Yc Yi)) Yg) aL1))))) Yag) (Yu (Yas (Yav hr.units (Yb 1) (Yc Yw)) (Ys (Ybr 2 sc_law_paper_words.nd (Ybs (Yb 2) (Yc (Yr (Yap bl) hr rfl (Yd (y3 (Yb 0) (Yc Yi)) Yg) aL1))))) Yag) (Yu (Yas (Yav hr.units (Yb 1) (Yc Yw)) (Yu (Ydn 2 (Yr (Yeh bl) hr rfl (Yd (y3 (Yb 0) (Yc Yi)) Yg) aL1)) (Ys (Ybr 2 sc_law_paper_words.nd (Ybs (Yc (Ybb (Ybs (Yb 2) (Yc (Yr (Yap bl) hr rfl (Yd (y3 (Yb 0) (Yc Yi)) Yg) aL1))))) (Yc (Yr (Yap bl) hr rfl (Yd (y3 (Yb 0) (Yc Yi)) Yg) aL1)))))) Yag) (Yu (Yas (Yd6 (Ygd (Yav hr.units (Yb 1) (Yc Yw)) (Ydv (Yav hr.units (Yb 1) (Yc Yw))))) (Ys (Ybr 2 sc_law_paper_words.nd (Ybs (Yb 2) (Yc (Yr (Ydr bl) hr rfl (Yd (Yn 1) (Yd (y3 (Yb 0) (Yc Yi)) Yg)) aL2))))) Yag) (Yu (Yas (Yav hr.units (Yb 1) (Yc Yw)) (Ys (Ybr 2 sc_law_paper_words.nd (Ybs (Yc (Ybb (Ybs (Yb 2) (Yc (Yr (Yap bl) hr rfl (Yd (y3 (Yb 0) (Yc Yi)) Yg) aL1))))) (Yc (Yr (Ydr bl) hr rfl (Yd (Yn 1) (Yd (y3 (Yb 0) (Yc Yi)) Yg)) aL2))))) Yag) (Ys (Yki [2] (Yx (Yn 2))))))))))))
theorem Ync:FnScope ["found","due"] ["found","due"] (defScope (top 44)):=fns
theorem cs_law_same_0:CompSc ["found","due"] (defScope (top 44)) ["k","found","due"] [none,some 0,some 1] (fsc [(".0",.local),("k",.local),("_law_same",.globalImplicit),("due",.free),("found",.free)]):=Ycw (by decide +kernel)
def Yd2(rec:List D->Option D):Ro->Option D:=(cC (Yj (b2 (getC 1) (getC 0) ixD) (Yj (b2 (getC 2) (getC 0) ixD) aNil)) rec)
def Ycv(rec:List D->Option D):Ro->Option Out:=(sSeq (sIf (b1 (mB (b1 (getC 1) (isiD "tuple"))) truD) (sSeq (sIf (orT (notT (b1 (mB (b1 (getC 0) (isiD "tuple"))) truD)) (b2 (cC (Yj (getC 0) aNil) lenC) (cC (Yj (getC 1) aNil) lenC) (eqM true))) (sRet (kD (.bl false))) sNil) (sRet (cC (Yj (lF (Yjh (cF (Yj (cC (Yj (getC 1) aNil) lenC) aNil) rng1) [none,some 0,some 1] (gSet 0) tY (Yd2 rec))) aNil) allC))) sNil) (sSeq (sIf (b2 (getC 1) (kD .non) (isN false)) (sRet (mB (b2 (getC 0) (kD .non) (isN false)))) sNil) (sSeq (sIf (b1 (mB (b1 (getC 1) (isiD "str"))) truD) (sRet (andV (mB (b1 (getC 0) (isiD "str"))) (mB (b2 (getC 0) (getC 1) (eqM false))))) sNil) (sSeq (sIf (orT (b1 (mB (b1 (getC 1) (isiD "bool"))) truD) (b1 (mB (b1 (getC 0) (isiD "bool"))) truD)) (sRet (andV (mB (b1 (getC 1) (isiD "bool"))) (andV (mB (b1 (getC 0) (isiD "bool"))) (mB (b2 (getC 0) (getC 1) (eqM false)))))) sNil) (sRet (andV (mB (b1 (getC 0) (isiD "int"))) (mB (b2 (getC 0) (getC 1) (eqM false)))))))))
def Ybj:Nat->List D->Option D
 | 0=>fun _=>none
 | k+1=>runB 2 2 (Ycv (Ybj k))
def Ye0:List D->Option D:=Ybj 12
theorem Ymd(bl:Bl K w mg){k j:Nat}(rc:Okf P w K mg base k 2 "_law_same" ["found","due"] (Ybj j))(hk:0<=k):Okf P w K mg base (k+1) 2 "_law_same" ["found","due"] (Ybj (j+1)):=by
 refine okfn bl.f44 Ync fun hr=>?_
 exact(Yu (Yas (Ycz (Yc (Yc0 (Yb 1) rfl rfl bl.Isinstance bl.Tuple boot_tuple (Yln)))) (Yu (Yas (Yd6 (Ygd (Yil (Ycz (Yc (Yc0 (Yb 0) rfl rfl bl.Isinstance bl.Tuple boot_tuple (Yln))))) (Ydv (Yzv hr.units (Yc (Yaw Yam Ydc rfl bl.Len PySem.boot_len (Yt (Yb 0) Yz))) (Yc (Yaw Yam Ydc rfl bl.Len PySem.boot_len (Yt (Yb 1) Yz))))))) (Ys (Yx Yn9)) Yag) (Ys (Yx (Yaw (Ylq rfl) Yqj rfl bl.All boot_all (Yt (Yc (Ybb (Yge cs_law_same_0 rfl (Yj2 rfl bl.Range (Yd (Yaw Yam Ydc rfl bl.Len PySem.boot_len (Yt (Yb 1) Yz)) Yg)) (fun _ _ _ _ _=>(Ybl 0 cs_law_same_0.nd)) (fun _ _ _ _ _=>Yio) (fun _ _ _ _ _=>(Yr rc hr rfl (Yd (y3 (Yb 1) (Yb 0)) (Yd (y3 (Yb 2) (Yb 0)) Yg)) aL2)) (Yfk (i:=0) rfl)))) Yz))))) Yag) (Yu (Yas (Yg1 (Yb 1) (Yc Ybq)) (Ys (Yx (Ywp (Yb 0) (Yc Ybq)))) Yag) (Yu (Yas (Ycz (Yc (Yc0 (Yb 1) rfl rfl bl.Isinstance bl.Str boot_str (Yqe)))) (Ys (Yx (Yg0 (Yc0 (Yb 0) rfl rfl bl.Isinstance bl.Str boot_str (Yqe)) (Yhx (Yik hr.units (Yb 0) (Yb 1)))))) Yag) (Yu (Yas (Yd6 (Ygd (Ycz (Yc (Yc0 (Yb 1) rfl rfl bl.Isinstance bl.Bool boot_bool (Ygc)))) (Ydv (Ycz (Yc (Yc0 (Yb 0) rfl rfl bl.Isinstance bl.Bool boot_bool (Ygc))))))) (Ys (Yx (Yg0 (Yc0 (Yb 1) rfl rfl bl.Isinstance bl.Bool boot_bool (Ygc)) (Yg0 (Yc0 (Yb 0) rfl rfl bl.Isinstance bl.Bool boot_bool (Ygc)) (Yhx (Yik hr.units (Yb 0) (Yb 1))))))) Yag) (Ys (Yx (Yg0 (Yc0 (Yb 0) rfl rfl bl.Isinstance bl.Int boot_int (Yqd)) (Yhx (Yik hr.units (Yb 0) (Yb 1))))))))))
theorem Yi4(bl:Bl K w mg):Okf P w K mg base 12 2 "_law_same" ["found","due"] Ye0:=okfr (L:=0) (mr:=Ybj) bl.f44 rfl (Ymd bl) (j:=12)
theorem sc_law:FnScope ["script","tape","k","paper"] ["script"] (defScope (top 45)):=fns
def Ygu(l:Addr):TmM:=(seqW (setE 3 (Yac l 1 (Ya0 aNil Ygq))) (seqW (Ycj (sIf (notT (b1 (cC (Yj (cC (Yj (cC (Yj (cC (Yj (getV 3) aNil) Ybm) aNil) (Yl0 (Str.ofString " "))) aNil) Ycl) (Yj (getV 3) aNil)) Ye0) truD)) (sRet (kD (.bl false))) sNil)) (Ycj (sIf (notT (b1 (cC (Yj (cC (Yj (cC (Yj (getV 3) aNil) Yb2) aNil) Ycl) (Yj (getV 3) aNil)) Ye0) truD)) (sRet (kD (.bl false))) sNil))))
def Yxi(l:Addr):TmM:=(Ycj (sRet (kD (.bl true))))
def Ynd(l:Addr):TmM:=(seqW (Yqy (cF (Yj (kD (.int 4)) aNil) rng1) (gSet 2) (Ygu l)) (Yxi l))
def Yxj:Ro->Option Out:=(Ytz 1 (revF (getC 0)) Ynd)
def Yne:List D->Option D:=runB 1 4 Yxj
theorem y0b(bl:Bl K w mg){a:Addr}{fd:FuncData}(F:Fun K "law" "law" (top 45) a fd):FnOk P w K mg base CX0 13 a fd ["script"] (spOf K 1 Yne):=by
 refine Yj3 (k:=12) F sc_law rfl rfl fun cdv A outer s H E hr=>?_
 exact(Yt0 1 sc_law.nd (Ym3 rfl rfl bl.List rfl bl.Reversed (Yb 0)) (fun l=>(y2 (Ytv PassesOwn.never rfl (Yj2 rfl bl.Range (Yd Yi Yg)) (Ybl 2 sc_law.nd) (y2 (Ydf 3 sc_law.nd (Yae 1 (Ypb bl) hr rfl Yg aL0)) (y2 (Yaj (Yas (Yil (Ycz (Yc (Yr (Yi4 bl) hr rfl (Yd (Yr (Ygo bl) hr rfl (Yd (Yod (Yt (Yc (Yr (Ygt bl) hr rfl (Yd (Yn 3) Yg) aL1)) Yz)) Yg) aL1) (Yd (Yn 3) Yg)) aL2)))) (Ys (Yx Yn9)) Yag)) (Yab (Yaj (Yas (Yil (Ycz (Yc (Yr (Yi4 bl) hr rfl (Yd (Yr (Ygo bl) hr rfl (Yd (Yr (Yhq bl) hr rfl (Yd (Yn 3) Yg) aL1) Yg) aL1) (Yd (Yn 3) Yg)) aL2)))) (Ys (Yx Yn9)) Yag)))))) (Yab (Yaj (Yx Yn9))))))
end
abbrev Ykv:Nat:=13
theorem all_mk{l:W.OpenLaw}{w:World}{K:W.Frag}{h:Heap}{mg:Str->Option Value}{fa vi:Addr}(X:K.In h)(G:h.Ns mainGlobals mg)(hfa:mg "law"=some (.ref fa))
 {v4 vn:Option Addr} {v5:Array (Option Value)} {v6 vo vp vq ux vt:Value}
 (F_is_beacon:Fk K "is_beacon" 5)
 (F_saying_written:Fk K "saying_written" 10)
 (F_number_read:Fk K "number_read" 11)
 (F_beacon_read:Fk K "beacon_read" 12)
 (F_saying_read:Fk K "saying_read" 13)
 (F_thing_written:Fk K "thing_written" 20)
 (F_parts_written:Fk K "parts_written" 22)
 (F_part_written:Fk K "part_written" 21)
 (F_paper_written:Fk K "paper_written" 23)
 (F_place_read:Fk K "place_read" 25)
 (F_checked:Fk K "checked" 26)
 (F_thing_read:Fk K "thing_read" 27)
 (F_Reader_is_at_end:Mq K "Reader" "is_at_end" "Reader.is_at_end" (inClass (top 24) 1))
 (F_Reader_taken:Mq K "Reader" "taken" "Reader.taken" (inClass (top 24) 2))
 (F_parts_read:Fk K "parts_read" 29)
 (F_part_read:Fk K "part_read" 28)
 (F_Reader___init:Iqr K (inClass (top 24) 0))
 (F_paper_read:Fk K "paper_read" 30)
 (F_law_mixed:Fk K "_law_mixed" 32)
 (F_law_next:Fk K "_law_next" 33)
 (F_law_many:Fk K "_law_many" 34)
 (F_law_any_road:Fk K "_law_any_road" 35)
 (F_law_any_numbers:Fk K "_law_any_numbers" 36)
 (F_law_any_rows:Fk K "_law_any_rows" 37)
 (F_law_any:Fk K "_law_any" 38)
 (F_law_number_words:Fk K "_law_number_words" 39)
 (F_law_road_words:Fk K "_law_road_words" 40)
 (F_law_free_word:Fk K "_law_free_word" 41)
 (F_law_rows_words:Fk K "_law_rows_words" 42)
 (F_law_paper_words:Fk K "_law_paper_words" 43)
 (F_law_same:Fk K "_law_same" 44)
 (v7:W.nsIn K mainGlobals "law"=some (some (.ref vi))) (v8:K.lookup vi=some ⟨v6,v4,.func (W.fnOf "law" "law" (defArgs (top 45)) (defBody (top 45)) (defScope (top 45)) .none vo vp vq vn ux vt),v5⟩) (v9:W.codeIn K ux "law"=true) (xa:W.keepIn K (.ref vi)=true)
 (N_words:Nq K "Reader" "words")
 (N_place:Nq K "Reader" "place")
 {gn_76:_} (gq_76:K.lookup 76=some ⟨.type "tuple",none,.seq #[] gn_76,#[]⟩)
 {gn_77:_} {gt_77_0 gt_77_1:_} (gq_77:K.lookup 77=some ⟨.type "tuple",none,.seq #[.str "road" gt_77_0,.str "road" gt_77_1] gn_77,#[]⟩)
 {gn_78:_} {gt_78_0:_} (gq_78:K.lookup 78=some ⟨.type "tuple",none,.seq #[.str "road" gt_78_0] gn_78,#[]⟩)
 {gn_79:_} {gt_79_0 gt_79_1:_} (gq_79:K.lookup 79=some ⟨.type "tuple",none,.seq #[.str "road" gt_79_0,.str "road" gt_79_1] gn_79,#[]⟩)
 {gn_80:_} {gt_80_0:_} (gq_80:K.lookup 80=some ⟨.type "tuple",none,.seq #[.str "places" gt_80_0] gn_80,#[]⟩)
 {gn_81:_} {gt_81_0 gt_81_1 gt_81_2:_} (gq_81:K.lookup 81=some ⟨.type "tuple",none,.seq #[.str "source" gt_81_0,.str "places" gt_81_1,.str "places" gt_81_2] gn_81,#[]⟩)
 {gn_82:_} {gt_82_0:_} (gq_82:K.lookup 82=some ⟨.type "tuple",none,.seq #[.str "plan rows" gt_82_0] gn_82,#[]⟩)
 {gn_83:_} {gt_83_0:_} (gq_83:K.lookup 83=some ⟨.type "tuple",none,.seq #[.str "sum rows" gt_83_0] gn_83,#[]⟩)
 {gn_84:_} {gt_84_0 gt_84_1:_} (gq_84:K.lookup 84=some ⟨.type "tuple",none,.seq #[.str "beacons" gt_84_0,.str "if rows" gt_84_1] gn_84,#[]⟩)
 {gn_86:_} {gt_86_0 gt_86_1 gt_86_2:_} (gq_86:K.lookup 86=some ⟨.type "tuple",none,.seq #[.str "beacon" gt_86_0,.str "source" gt_86_1,.str "truth" gt_86_2] gn_86,#[]⟩)
 {gn_87:_} {gt_87_0 gt_87_1 gt_87_2:_} (gq_87:K.lookup 87=some ⟨.type "tuple",none,.seq #[.str "beacon" gt_87_0,.str "beacons" gt_87_1,.str "truth" gt_87_2] gn_87,#[]⟩)
 {gn_88:_} {gt_88_0 gt_88_1:_} (gq_88:K.lookup 88=some ⟨.type "tuple",none,.seq #[.str "beacon" gt_88_0,.str "beacons" gt_88_1] gn_88,#[]⟩)
 {uk:Tok} (ul:W.nsIn K mainGlobals "BEACON_COUNT"=some (some (.int 60 uk)))
 {vj:Tok} (vk:W.nsIn K mainGlobals "FIGURES"=some (some (.str "0123456789" vj)))
 {um:Tok} (uo:W.nsIn K mainGlobals "MOST_FIGURES"=some (some (.int 3 um)))
 {ut:Tok} (uu:W.nsIn K mainGlobals "MOST_NUMBER"=some (some (.int 200 ut)))
 {vw:_} {u4 u5 u6 u7 u9 vc vd ve vf:_} (uv:W.nsIn K mainGlobals "PAPERS"=some (some (.ref 75))) (uw:K.lookup 75=some ⟨.type "dict",none,.dict #[⟨PyData.keyHash w.params (Str.ofString "broken"),.str "broken" u4,.ref 76⟩,⟨PyData.keyHash w.params (Str.ofString "clash"),.str "clash" u5,.ref 77⟩,⟨PyData.keyHash w.params (Str.ofString "cross"),.str "cross" u6,.ref 78⟩,⟨PyData.keyHash w.params (Str.ofString "late"),.str "late" u7,.ref 79⟩,⟨PyData.keyHash w.params (Str.ofString "odd"),.str "odd" u9,.ref 80⟩,⟨PyData.keyHash w.params (Str.ofString "lone"),.str "lone" vc,.ref 81⟩,⟨PyData.keyHash w.params (Str.ofString "plan"),.str "plan" vd,.ref 82⟩,⟨PyData.keyHash w.params (Str.ofString "sums"),.str "sums" ve,.ref 83⟩,⟨PyData.keyHash w.params (Str.ofString "rows"),.str "rows" vf,.ref 84⟩] vw,#[]⟩)
 {v3:_} {vy vz v0:_} (vg:W.nsIn K mainGlobals "ROWS"=some (some (.ref 85))) (vh:K.lookup 85=some ⟨.type "dict",none,.dict #[⟨PyData.keyHash w.params (Str.ofString "plan rows"),.str "plan rows" vy,.ref 86⟩,⟨PyData.keyHash w.params (Str.ofString "sum rows"),.str "sum rows" vz,.ref 87⟩,⟨PyData.keyHash w.params (Str.ofString "if rows"),.str "if rows" v0,.ref 88⟩] v3,#[]⟩)
 {vm:_} {uy uz u0 u1 u2 u3:_} (uq:W.nsIn K mainGlobals "SEVERAL"=some (some (.ref 89))) (ur:K.lookup 89=some ⟨.type "dict",none,.dict #[⟨PyData.keyHash w.params (Str.ofString "road"),.str "road" uy,.str "saying" uz⟩,⟨PyData.keyHash w.params (Str.ofString "places"),.str "places" u0,.str "place" u1⟩,⟨PyData.keyHash w.params (Str.ofString "beacons"),.str "beacons" u2,.str "beacon" u3⟩] vm,#[]⟩)
 {ug:_} {uc ud:_} (ua:W.nsIn K mainGlobals "TRUTHS_BY_MARK"=some (some (.ref 47))) (ub:K.lookup 47=some ⟨.type "dict",none,.dict #[⟨PyData.keyHash w.params (Str.ofString "+"),.str "+" uc,.bool true⟩,⟨PyData.keyHash w.params (Str.ofString "-"),.str "-" ud,.bool false⟩] ug,#[]⟩)
 {uh:_} {ue uf:_} (ui:W.nsIn K mainGlobals "TRUTHS_BY_WORD"=some (some (.ref 74))) (uj:K.lookup 74=some ⟨.type "dict",none,.dict #[⟨PyData.keyHash w.params (Str.ofString "yes"),.str "yes" ue,.bool true⟩,⟨PyData.keyHash w.params (Str.ofString "no"),.str "no" uf,.bool false⟩] uh,#[]⟩)
 (z_len:W.nsIn K mainGlobals "len"=some none)
 (z_range:W.nsIn K mainGlobals "range"=some none)
 (z_list:W.nsIn K mainGlobals "list"=some none)
 (z_tuple:W.nsIn K mainGlobals "tuple"=some none)
 (z_int:W.nsIn K mainGlobals "int"=some none)
 (z_bool:W.nsIn K mainGlobals "bool"=some none)
 (z_str:W.nsIn K mainGlobals "str"=some none)
 (z_all:W.nsIn K mainGlobals "all"=some none)
 (z_isinstance:W.nsIn K mainGlobals "isinstance"=some none)
 (z_reversed:W.nsIn K mainGlobals "reversed"=some none)
 (z_zip:W.nsIn K mainGlobals "zip"=some none)
 : ∃fd:FuncData,(∀(s:Shared) (v:Value),BindsTo s fd ⟨[v],[]⟩ [("script",v)])/\∀base:Heap,K.In base->base.Ns mainGlobals mg->FnOk l.prog w K mg base CX0 Ykv fa fd ["script"] (spOf K 1 Yne):=by
 have e:=hfa.symm.trans (W.mg_of X G v7)
 cases e
 have bl:Bl K w mg:=⟨W.mg_none_of X G z_len,W.mg_none_of X G z_range,W.mg_none_of X G z_list,W.mg_none_of X G z_tuple,W.mg_none_of X G z_int,W.mg_none_of X G z_bool,W.mg_none_of X G z_str,W.mg_none_of X G z_all,W.mg_none_of X G z_isinstance,W.mg_none_of X G z_reversed,W.mg_none_of X G z_zip,⟨_,W.mg_of X G ul⟩,⟨by decide +kernel,_,W.mg_of X G vk⟩,⟨_,W.mg_of X G uo⟩,⟨_,W.mg_of X G uu⟩,⟨_,_,_,_,W.mg_of X G uv,uw,⟨rfl,rfl,rfl⟩,rfl,(.cons ⟨rfl,⟨_,rfl⟩,rfl⟩ (.cons ⟨rfl,⟨_,rfl⟩,rfl⟩ (.cons ⟨rfl,⟨_,rfl⟩,rfl⟩ (.cons ⟨rfl,⟨_,rfl⟩,rfl⟩ (.cons ⟨rfl,⟨_,rfl⟩,rfl⟩ (.cons ⟨rfl,⟨_,rfl⟩,rfl⟩ (.cons ⟨rfl,⟨_,rfl⟩,rfl⟩ (.cons ⟨rfl,⟨_,rfl⟩,rfl⟩ (.cons ⟨rfl,⟨_,rfl⟩,rfl⟩ .nil)))))))))⟩,⟨_,_,_,_,W.mg_of X G vg,vh,⟨rfl,rfl,rfl⟩,rfl,(.cons ⟨rfl,⟨_,rfl⟩,rfl⟩ (.cons ⟨rfl,⟨_,rfl⟩,rfl⟩ (.cons ⟨rfl,⟨_,rfl⟩,rfl⟩ .nil)))⟩,⟨_,_,_,_,W.mg_of X G uq,ur,⟨rfl,rfl,rfl⟩,rfl,(.cons ⟨rfl,⟨_,rfl⟩,⟨_,rfl⟩,by decide +kernel⟩ (.cons ⟨rfl,⟨_,rfl⟩,⟨_,rfl⟩,by decide +kernel⟩ (.cons ⟨rfl,⟨_,rfl⟩,⟨_,rfl⟩,by decide +kernel⟩ .nil)))⟩,⟨_,_,_,_,W.mg_of X G ua,by decide,ub,⟨rfl,rfl,rfl⟩,rfl,(.cons ⟨rfl,⟨_,rfl⟩,rfl⟩ (.cons ⟨rfl,⟨_,rfl⟩,rfl⟩ .nil))⟩,⟨_,_,_,_,W.mg_of X G ui,by decide,uj,⟨rfl,rfl,rfl⟩,rfl,(.cons ⟨rfl,⟨_,rfl⟩,rfl⟩ (.cons ⟨rfl,⟨_,rfl⟩,rfl⟩ .nil))⟩,⟨_,_,_,_,W.mg_of X G uv,by decide,uw,⟨rfl,rfl,rfl⟩,rfl,(.cons ⟨rfl,⟨_,rfl⟩⟩ (.cons ⟨rfl,⟨_,rfl⟩⟩ (.cons ⟨rfl,⟨_,rfl⟩⟩ (.cons ⟨rfl,⟨_,rfl⟩⟩ (.cons ⟨rfl,⟨_,rfl⟩⟩ (.cons ⟨rfl,⟨_,rfl⟩⟩ (.cons ⟨rfl,⟨_,rfl⟩⟩ (.cons ⟨rfl,⟨_,rfl⟩⟩ (.cons ⟨rfl,⟨_,rfl⟩⟩ .nil)))))))))⟩,⟨_,_,_,_,W.mg_of X G vg,by decide,vh,⟨rfl,rfl,rfl⟩,rfl,(.cons ⟨rfl,⟨_,rfl⟩⟩ (.cons ⟨rfl,⟨_,rfl⟩⟩ (.cons ⟨rfl,⟨_,rfl⟩⟩ .nil)))⟩,⟨_,_,_,_,W.mg_of X G uq,by decide,ur,⟨rfl,rfl,rfl⟩,rfl,(.cons ⟨rfl,⟨_,rfl⟩⟩ (.cons ⟨rfl,⟨_,rfl⟩⟩ (.cons ⟨rfl,⟨_,rfl⟩⟩ .nil)))⟩,⟨_,_,_,_,W.mg_of X G ua,by decide,ub,⟨rfl,rfl,rfl⟩,rfl,(.cons ⟨rfl,⟨_,rfl⟩⟩ (.cons ⟨rfl,⟨_,rfl⟩⟩ .nil))⟩,⟨⟨_,_,_,gq_76,rfl,rfl,by rw[sizeLine_eq];simp,.nil⟩,⟨⟨_,_,_,gq_77,rfl,rfl,by rw[sizeLine_eq];simp,(.cons ⟨⟨_,rfl⟩,by decide +kernel⟩ (.cons ⟨⟨_,rfl⟩,by decide +kernel⟩ .nil))⟩,⟨⟨_,_,_,gq_78,rfl,rfl,by rw[sizeLine_eq];simp,(.cons ⟨⟨_,rfl⟩,by decide +kernel⟩ .nil)⟩,⟨⟨_,_,_,gq_79,rfl,rfl,by rw[sizeLine_eq];simp,(.cons ⟨⟨_,rfl⟩,by decide +kernel⟩ (.cons ⟨⟨_,rfl⟩,by decide +kernel⟩ .nil))⟩,⟨⟨_,_,_,gq_80,rfl,rfl,by rw[sizeLine_eq];simp,(.cons ⟨⟨_,rfl⟩,by decide +kernel⟩ .nil)⟩,⟨⟨_,_,_,gq_81,rfl,rfl,by rw[sizeLine_eq];simp,(.cons ⟨⟨_,rfl⟩,by decide +kernel⟩ (.cons ⟨⟨_,rfl⟩,by decide +kernel⟩ (.cons ⟨⟨_,rfl⟩,by decide +kernel⟩ .nil)))⟩,⟨⟨_,_,_,gq_82,rfl,rfl,by rw[sizeLine_eq];simp,(.cons ⟨⟨_,rfl⟩,by decide +kernel⟩ .nil)⟩,⟨⟨_,_,_,gq_83,rfl,rfl,by rw[sizeLine_eq];simp,(.cons ⟨⟨_,rfl⟩,by decide +kernel⟩ .nil)⟩,⟨⟨_,_,_,gq_84,rfl,rfl,by rw[sizeLine_eq];simp,(.cons ⟨⟨_,rfl⟩,by decide +kernel⟩ (.cons ⟨⟨_,rfl⟩,by decide +kernel⟩ .nil))⟩,⟨⟨_,_,_,gq_86,rfl,rfl,by rw[sizeLine_eq];simp,(.cons ⟨⟨_,rfl⟩,by decide +kernel⟩ (.cons ⟨⟨_,rfl⟩,by decide +kernel⟩ (.cons ⟨⟨_,rfl⟩,by decide +kernel⟩ .nil)))⟩,⟨⟨_,_,_,gq_87,rfl,rfl,by rw[sizeLine_eq];simp,(.cons ⟨⟨_,rfl⟩,by decide +kernel⟩ (.cons ⟨⟨_,rfl⟩,by decide +kernel⟩ (.cons ⟨⟨_,rfl⟩,by decide +kernel⟩ .nil)))⟩,⟨⟨_,_,_,gq_88,rfl,rfl,by rw[sizeLine_eq];simp,(.cons ⟨⟨_,rfl⟩,by decide +kernel⟩ (.cons ⟨⟨_,rfl⟩,by decide +kernel⟩ .nil))⟩,trivial⟩⟩⟩⟩⟩⟩⟩⟩⟩⟩⟩⟩,F_is_beacon.on X G,F_saying_written.on X G,F_number_read.on X G,F_beacon_read.on X G,F_saying_read.on X G,F_thing_written.on X G,F_parts_written.on X G,F_part_written.on X G,F_paper_written.on X G,F_place_read.on X G,F_checked.on X G,F_thing_read.on X G,F_Reader_is_at_end,F_Reader_taken,F_parts_read.on X G,F_part_read.on X G,F_Reader___init,F_paper_read.on X G,F_law_mixed.on X G,F_law_next.on X G,F_law_many.on X G,F_law_any_road.on X G,F_law_any_numbers.on X G,F_law_any_rows.on X G,F_law_any.on X G,F_law_number_words.on X G,F_law_road_words.on X G,F_law_free_word.on X G,F_law_rows_words.on X G,F_law_paper_words.on X G,F_law_same.on X G,fun C h=>W.mg_of X G h,N_words,N_place⟩
 have xb:=Ynz (st:=(top 45)) v8 v9 xa
 refine⟨W.fnOf "law" "law" (defArgs (top 45)) (defBody (top 45)) (defScope (top 45)) .none vo vp vq vn ux vt,fun s v=>.of_eq rfl,fun base _ _=>?_⟩
 exact y0b bl xb
theorem walk(hlaw:∀ns:List Int,ns.length<=63->Yne [.scr ns]=some (.bl true)){l:W.OpenLaw}{q:Program}{loose:List Str}{XP:(Str->Option Value)->Heap->Prop}{YP:World->Heap->Prop}{d:DefRec}{K:Params->W.Frag}(hn:l.most=some 63)(hdf:d.params.defaults=[])
 (hY:∀(w:World) (h:Heap),YP w h->(K w.params).In h)
 (F:∀(w:World) (mg:Str->Option Value) (fa:Addr) (h:Heap),(K w.params).In h->h.Ns mainGlobals mg->mg d.name=some (.ref fa)->
  ∃fd:FuncData,(∀(s:Shared) (u:Value),BindsTo s fd ⟨[u],[]⟩ [("script",u)])/\∀base:Heap,(K w.params).In base->base.Ns mainGlobals mg->FnOk l.prog w (K w.params) mg base CX0 Ykv fa fd ["script"] (spOf (K w.params) 1 Yne)) :
 W.WalkO q loose XP YP l.row.toRowW d [] (fun f vs=>PySem.call f vs):=
 L2.walk_of (n:=63) (k:=Ykv) (x:="script") (CX:=fun _=>CX0) (sp:=fun w=>spOf (K w.params) 1 Yne) hn (by decide) hdf ⟨rfl,by decide,by decide⟩ hY F
  (fun w H a ns hl _ hS=>⟨rfl,[.scr ns],.bl true,H,Same.refl H,.one (by rw[Rp];exact⟨a,rfl,hS⟩),hlaw ns hl,fun v H' G' g r=>by rw[Rp]at r;exact r⟩) fun _ _ _ _ _ z=>z
end Lw
namespace Lw
open PySem L2 M Bk
end Lw
namespace Lw
open PySem L2 M Bk
theorem Yxk(c m:Int):∃v:Int,0<=v/\Yc3 [.int c,.int m]=some (.int v):=by
 refine⟨c % 2305843009213693951 * m % 2305843009213693951,Int.emod_nonneg _ (by decide),?_⟩
 rw[Yc3,Yat (by rfl)]
 have h1:0<=c % 2305843009213693951:=Int.emod_nonneg _ (by decide)
 have h2:c % 2305843009213693951 < 2305843009213693951:=Int.emod_lt_of_pos _ (by decide)
 have h3:mulI (.int (c % 2305843009213693951)) (.int m)=some (.int (c % 2305843009213693951 * m)):=Ykk ⟨by lia,by lia⟩
 simp[Yi0,Yq,h3]
end Lw
namespace Lw
open PySem L2 M Bk
theorem Yme:∀(j:Nat) (d:D),Pl d->dep d < j->Ybj j [d,d]=some (.bl true)
 | 0,_,_,h=>absurd h (Nat.not_lt_zero _)
 | j+1,d,hp,hd=>by
   rw[Ybj,Yat (by rfl)]
   cases d with
   | tup l=>
     rw[Pl]at hp
     obtain⟨hl,hp⟩:=hp
     rw[Yfn]at hd
     have hc:=Yqv (fe:=Yd2 (Ybj j)) (r:=[some (.sh (.tup l)),some (.sh (.tup l))]) (enc:=fun i:Nat=>D.int (0+(i:Nat))) (fun _=>.bl true) (l:=List.range l.length) (fun i hi=>by
      have hi':=List.mem_range.mp hi
      have hm:l[i]∈l:=List.getElem_mem hi'
      have ih:=Yme j l[i] (PlL_iff.mp hp _ hm) (by have:=Yqw hm;lia)
      simp[Yd2,Ytj hi',ih])
     have hrg:=Ykl (n:=(l.length:Int)) (by lia) (by lia)
     rw[Ym4]at hrg
     simp[Ycv,Yq,isiD,Yc8,Yke,capR,hrg]at hc ⊢
     rw[hc]
     simp[Function.comp_def]
   | non=>simp[Ycv,Yq,isiD,Yc8,Yke]
   | bl b=>simp[Ycv,Yq,isiD,Yc8,Yke]
   | int i=>simp[Ycv,Yq,isiD,Yc8,Yke,isN,Yif]
   | str x=>simp[Ycv,Yq,isiD,Yc8,Yke,isN,Yif,Yoa]
   | lst l=>exact hp.elim
   | scr l=>exact hp.elim
   | dct t l m=>exact hp.elim
   | obj t l m=>exact hp.elim
   | adr l=>exact hp.elim
theorem y0c{d:D}(h:Pl d)(hd:dep d < 12):Ye0 [d,d]=some (.bl true):=Yme 12 d h hd
end Lw
namespace Lw
open PySem L2 M Bk
end Lw
namespace Lw
open PySem L2 M Bk
section
variable {τ:Type} {f g:Ro->τ->Option (OutW τ)} {ρ ρ':Ro} {t t':τ}
theorem Yah(h:f ρ t=some (.nx ρ' t')):seqW f g ρ t=g ρ' t':=by
 unfold seqW
 rw[h]
 rfl
theorem Yci{f:Ro->Option Out}(h:f ρ=some (.nx ρ')):Ycj f ρ t=some (.nx ρ' t):=by
 unfold Ycj
 rw[h]
 rfl
theorem Yda{f:Ro->Option Out}{d:D}(h:f ρ=some (.rt d)):Ycj f ρ t=some (.rt d t):=by
 unfold Ycj
 rw[h]
 rfl
theorem Yrk{c:Ro->τ->Option Bool}(h:c ρ t=some true):ifW c f g ρ t=f ρ t:=by
 unfold ifW
 rw[h]
 rfl
theorem Ypc{c:Ro->τ->Option Bool}(h:c ρ t=some false):ifW c f g ρ t=g ρ t:=by
 unfold ifW
 rw[h]
 rfl
theorem Ykw{gt:D->Ro->Option Ro}{fb:Ro->τ->Option (OutW τ)}{α:Type}(enc:α->D)(I:List α->Ro->τ->Prop):∀(l pre:List α) (ρ:Ro) (t:τ),I pre ρ t->
 (∀q a r ρ t,pre++l=q++a::r->I q ρ t->∃ρ1 ρ2 t2,gt (enc a) ρ=some ρ1/\fb ρ1 t=some (.nx ρ2 t2)/\I (q++[a]) ρ2 t2)->∃ρ' t',forW gt fb (l.map enc) ρ t=some (.nx ρ' t')/\I (pre++l) ρ' t'
 | [],pre,ρ,t,h0,_=>⟨ρ,t,rfl,by rw[List.append_nil];exact h0⟩
 | a::l,pre,ρ,t,h0,hs=>by
   obtain⟨ρ1,ρ2,t2,e1,e2,h2⟩:=hs pre a l ρ t rfl h0
   obtain⟨ρ',t',e3,h3⟩:=Ykw enc I l (pre++[a]) ρ2 t2 h2 fun q b r ρ t e hI=>hs q b r ρ t (by rw[<-e,Qc];rfl) hI
   refine⟨ρ',t',?_,by rw[Qc]at h3;exact h3⟩
   rw[qy,forW,e1,qd,e2,qd]
   exact e3
end
theorem Ybk{τ:Type}{l i:Nat}{f:TeV τ}{ρ:Ro}{t:τ}(h:ρ[i]?=some (some (.sh (.adr l)))):Yac l i f ρ t=f ρ t:=by
 unfold Yac
 rw[h]
 exact if_pos rfl
theorem Yb7{τ:Type}{ga:Ro->Option (List D)}{g:List D->τ->Option (D × τ)}{ρ:Ro}{ds:List D}{t:τ}(h:ga ρ=some ds):Ya0 ga g ρ t=g ds t:=by
 unfold Ya0
 rw[h]
 rfl
theorem Ycn{τ:Type}{i:Nat}{f:TeV τ}{ρ:Ro}{t t':τ}{d:D}(h:f ρ t=some (d,t')):setE i f ρ t=some (.nx (ρ.set i (some (.sh d))) t'):=by
 unfold setE
 rw[h]
 rfl
theorem Ydi{τ:Type}{f:TeV τ}{ρ:Ro}{t t':τ}{d:D}(h:f ρ t=some (d,t')):retE f ρ t=some (.rt d t'):=by
 unfold retE
 rw[h]
 rfl
theorem Yar{τ:Type}{f:Ro->Option D}{ρ:Ro}{t:τ}{d:D}(h:f ρ=some d):Ycs f ρ t=some (d,t):=by
 unfold Ycs
 rw[h]
 rfl
theorem Yrl{τ:Type}{fa fb:TeV τ}{g:D->D->Option D}{ρ:Ro}{t t1 t2:τ}{a b d:D}(h1:fa ρ t=some (a,t1))(h2:fb ρ t1=some (b,t2))(h3:g a b=some d):binE fa fb g ρ t=some (d,t2):=by
 unfold binE
 rw[h1]
 show(fb ρ t1).bind _=_
 rw[h2]
 show(g a b).map _=_
 rw[h3]
 rfl
theorem y8{τ:Type}{fa:TeV τ}{fb:TaV τ}{ρ:Ro}{t t1 t2:τ}{a:D}{l:List D}(h1:fa ρ t=some (a,t1))(h2:fb ρ t1=some (l,t2)):Ya6 fa fb ρ t=some (a::l,t2):=by
 unfold Ya6
 rw[h1]
 show(fb ρ t1).map _=_
 rw[h2]
 rfl
theorem Ydj{τ:Type}{f:TaV τ}{ρ:Ro}{t t1:τ}{l:List D}(h:f ρ t=some (l,t1))(hl:l.length<=1000000):tupE f ρ t=some (.tup l,t1):=by
 unfold tupE
 rw[h]
 exact if_pos hl
theorem Ynf{τ:Type}{f g:Ro->τ->Option (OutW τ)}{ρ:Ro}{t t':τ}{d:D}(h:f ρ t=some (.rt d t')):seqW f g ρ t=some (.rt d t'):=by
 unfold seqW
 rw[h]
 rfl
theorem Yrm(t:List Int):∃(v:Int) (t':List Int),0<=v/\Ya9 [] t=some (.int v,t'):=by
 cases ht:t.getLast? with
 | none=>
   have h0:t=[]:=List.getLast?_eq_none_iff.mp ht
   subst h0
   refine⟨0,[],Int.le_refl _,Ydx fun l=>?_⟩
   have hst:Yq 1 [.adr l]=[some (.sh (.adr l))]:=rfl
   rw[hst]
   unfold Yg9
   rw[Yah (ρ':=[some (.sh (.adr l))]) (t':=[])]
   ·rfl
   ·rw[Ypc]
    ·rfl
    ·unfold Yty thT
     show(if l=l then _ else none).bind _=_
     rw[if_pos rfl]
     rfl
 | some k=>
   obtain⟨v,hv0,hv⟩:=Yxk k 2049848353892358983
   refine⟨v,t.dropLast,hv0,Ydx fun l=>?_⟩
   have hne:t≠[]:=fun z=>by rw[z]at ht;cases ht
   have hpos:(0:Int) < (t.length:Int):=by
    have:=List.length_pos_iff.mpr hne
    lia
   have hst:Yq 1 [.adr l]=[some (.sh (.adr l))]:=rfl
   rw[hst]
   unfold Yg9
   rw[Ynf (d:=.int v) (t':=t.dropLast)]
   rw[Yrk]
   ·refine Ydi ?_
    unfold Yis
    rw[y8 (a:=.int k) (t1:=t.dropLast) (l:=[.int 2049848353892358983]) (t2:=t.dropLast)]
    ·show(Yc3 [.int k,.int 2049848353892358983]).map _=_
     rw[hv]
     rfl
    ·unfold popE
     show(if l=l then (t.getLast?).map _ else none)=_
     rw[if_pos rfl,ht]
     rfl
    ·exact y8 (Yar rfl) rfl
   ·unfold Yty thT
    show(if l=l then some [some (B.sh (.lst (t.map D.int)))]else none).bind _=_
    rw[if_pos rfl,qd]
    simp[hpos,List.length_pos_iff.mpr hne]
theorem Yrn(most:Int)(hm:most=200\/most=66)(t:List Int):∃(m:Nat) (t':List Int),m<=200/\Ydp [.int most] t=some (.int (m:Int),t'):=by
 obtain⟨v,t',hv0,hv⟩:=Yrm t
 have hsub:subI (.int most) (.int 59)=some (.int (most - 59)):=by simp
 have h0:(0:Int) < most - 59:=by lia
 obtain⟨m,hm200,hmm⟩:∃m:Nat,m<=200/\(if v / 6 % 8=1 then 60+v / 48 % (most - 59)else v % 6)=(m:Int):=by
  have b1:=Int.emod_nonneg (v / 48) (show most - 59≠0 by lia)
  have b2:=Int.emod_lt_of_pos (v / 48) h0
  by_cases h:v / 6 % 8=1
  ·rw[if_pos h]
   exact⟨(60+v / 48 % (most - 59)).toNat,by lia,by lia⟩
  ·rw[if_neg h]
   exact⟨(v % 6).toNat,by lia,by lia⟩
 refine⟨m,t',hm200,Ydx fun l=>?_⟩
 have hst:Yq 3 [.adr l,.int most]=[some (.sh (.adr l)),some (.sh (.int most)),none]:=rfl
 rw[hst]
 unfold Yj6
 rw[Yah (Ycn (d:=.int v) (t':=t') ((Ybk rfl).trans ((Yb7 (ds:=[]) rfl).trans hv)))]
 unfold Yhi
 have hmod:modI (.int (v / 48)) (.int (most - 59))=some (.int (v / 48 % (most - 59))):=Ylu h0
 by_cases h:v / 6 % 8=1
 ·rw[if_pos h]at hmm
  refine Ynf (Yda ?_)
  simp[h,hmod,hmm]
 ·rw[if_neg h]at hmm
  rw[Yah (Yci (ρ':=[some (.sh (.adr l)),some (.sh (.int most)),some (.sh (.int v))]) (by simp[h]))]
  unfold Yhh
  refine Yda ?_
  simp[hmm]
theorem Yro(t:List Int)(k:Nat)(hk:k < 1000):∃(v:Int) (t':List Int),0<=v/\∀(l i:Nat) (ρ:Ro) (f:Ro->Option D),ρ[i]?=some (some (.sh (.adr l)))->f ρ=some (.int (7919 * k * k))->binE (Yac l i (Ya0 aNil Ya9)) (Ycs f) addI ρ t=some (.int v,t'):=by
 obtain⟨v,t',hv0,hv⟩:=Yrm t
 refine⟨v+7919 * k * k,t',?_,fun l i ρ f h1 h2=>?_⟩
 ·have:(0:Int)<=7919 * k * k:=by
   have h1:(0:Int)<=7919 * (k:Int):=by lia
   exact Int.mul_nonneg h1 (by lia)
  lia
 ·exact Yrl ((Ybk h1).trans ((Yb7 (ds:=[]) rfl).trans hv)) (Yar h2) (by simp)
theorem y0d{k:Nat}(hk:k < 1000)(c:Int)(hc:0<=c/\c < 10000):(mulI (.int c) (.int (k:Int))).bind (fun a=>mulI a (.int (k:Int)))=some (.int (c * (k:Int) * (k:Int))):=by
 have b1:0<=c * (k:Int):=Int.mul_nonneg hc.1 (by lia)
 have b2:c * (k:Int)<=10000 * 1000:=Int.mul_le_mul (by lia) (by lia) (by lia) (by lia)
 rw[Ykk ⟨by lia,by lia⟩,qd]
 exact Ykk ⟨by lia,by lia⟩
theorem y1x{k:Nat}{c:D}{d:D}{ρ:Ro}{i:Nat}(h:getC i ρ=some (.int (k:Int)))(h2:(mulI c (.int (k:Int))).bind (fun a=>mulI a (.int (k:Int)))=some d):b2 (b2 (kD c) (getC i) mulI) (getC i) mulI ρ=some d:=by
 unfold b2 kD
 rw[h]
 exact h2
theorem e_sq{k:Nat}(hk:k < 1000){ρ:Ro}{i:Nat}(h:getC i ρ=some (.int (k:Int))):b2 (b2 (kD (.int 7919)) (getC i) mulI) (getC i) mulI ρ=some (.int (7919 * (k:Int) * (k:Int))):=
 y1x h (y0d hk 7919 ⟨by decide,by decide⟩)
theorem Ykx{β:Type}{gt:D->Ro->Option Ro}{fb:Addr->TmM}{α:Type}(enc:α->D)(St:Addr->β->Ro->Prop)(I:List α->β->Prop):∀(l pre:List α) (b:β) (t:List Int),I pre b->
 (∀q a r b t,pre++l=q++a::r->I q b->∃b' t',I (q++[a]) b'/\∀x ρ,St x b ρ->∃ρ1 ρ2,gt (enc a) ρ=some ρ1/\fb x ρ1 t=some (.nx ρ2 t')/\St x b' ρ2)->
 ∃b' t',I (pre++l) b'/\∀x ρ,St x b ρ->∃ρ',forW gt (fb x) (l.map enc) ρ t=some (.nx ρ' t')/\St x b' ρ'
 | [],pre,b,t,h0,_=>⟨b,t,by rw[List.append_nil];exact h0,fun x ρ h=>⟨ρ,rfl,h⟩⟩
 | a::l,pre,b,t,h0,hs=>by
   obtain⟨b1,t1,i1,h1⟩:=hs pre a l b t rfl h0
   obtain⟨b2,t2,i2,h2⟩:=Ykx enc St I l (pre++[a]) b1 t1 i1 fun q b r c t e hI=>hs q b r c t (by rw[<-e,Qc];rfl) hI
   refine⟨b2,t2,by rw[Qc]at i2;exact i2,fun x ρ h=>?_⟩
   obtain⟨ρ1,ρ2,e1,e2,s2⟩:=h1 x ρ h
   obtain⟨ρ3,e3,s3⟩:=h2 x ρ2 s2
   refine⟨ρ3,?_,s3⟩
   rw[qy,forW,e1,qd,e2,qd]
   exact e3
theorem Ymf{β α:Type}{gt:D->Ro->Option Ro}{fe:Addr->Te}{ρ:Addr->Ro}(enc:α->D)(en2:β->D)(P:β->Prop):∀(l:List α) (t:List Int),
 (∀a∈l,∀t,∃v t',P v/\∀x,∃ρ1,gt (enc a) (ρ x)=some ρ1/\fe x ρ1 t=some (en2 v,t'))->∃(vs:List β) (t':List Int),vs.length=l.length/\(∀v∈vs,P v)/\∀x,Yfo gt (fe x) (ρ x) (l.map enc) t=some (vs.map en2,t')
 | [],t,_=>⟨[],t,rfl,fun _ h=>(nomatch h),fun _=>rfl⟩
 | a::l,t,h=>by
   obtain⟨v,t1,hv,h1⟩:=h a (.head _) t
   obtain⟨vs,t2,hl,hp,h2⟩:=Ymf (fe:=fe) (ρ:=ρ) enc en2 P l t1 fun b hb=>h b (.tail _ hb)
   refine⟨v::vs,t2,by rw[qs,qs,hl],fun y hy=>?_,fun x=>?_⟩
   ·cases hy with
    | head=>exact hv
    | tail _ hy=>exact hp y hy
   ·obtain⟨ρ1,e1,e2⟩:=h1 x
    rw[qy,Yfo,e1,qd,e2,qd,h2 x]
    rfl
theorem Yng{τ:Type}{f:TeV τ}{gt:D->Ro->Option Ro}{fb:TmV τ}{ρ:Ro}{t t':τ}{m:Nat}(hm:m<=1000)(h:f ρ t=some (.int (m:Int),t')):forE f gt fb ρ t=forW gt fb ((List.range m).map fun i=>D.int (0+(i:Nat))) ρ t':=by
 unfold forE
 rw[h]
 show(rng1 [.int (m:Int)]).bind _=_
 rw[Ykl (by lia) (by lia),Ym4]
 rfl
theorem Yrp{τ:Type}{f:TeV τ}{src:List (Option Nat)}{gt:D->Ro->Option Ro}{fe:TeV τ}{ρ:Ro}{t t':τ}{m:Nat}(hm:m<=1000)(h:f ρ t=some (.int (m:Int),t')):Yl3 f src gt fe ρ t=Yfo gt fe (capR src ρ) ((List.range m).map fun i=>D.int (0+(i:Nat))) t':=by
 unfold Yl3
 rw[h]
 show(rng1 [.int (m:Int)]).bind _=_
 rw[Ykl (by lia) (by lia),Ym4]
 rfl
def OkN(B:Nat)(xs:List Nat):Prop:=xs.length<=200/\∀x∈xs,x < B
def OkR(r:List Say):Prop:=r.length<=200/\∀p∈r,p.1 < 60
theorem Yi5{v:Int}(b:Int)(h:0 < b):∃n:Nat,(n:Int) < b/\v % b=(n:Int):=
 ⟨(v % b).toNat,by have:=Int.emod_nonneg v (show b≠0 by lia);have:=Int.emod_lt_of_pos v h;lia,by have:=Int.emod_nonneg v (show b≠0 by lia);lia⟩
theorem Yu5(t:List Int):∃(r:List Say) (t':List Int),OkR r/\Yay [] t=some (.tup (r.map sayD),t'):=by
 obtain⟨m,t1,hm,h1⟩:=Yrn 200 (.inl rfl) t
 obtain⟨r,t2,⟨hl,hr⟩,h2⟩:=Ykx (gt:=gSet 2) (fb:=Ycc) (fun i:Nat=>D.int (0+(i:Nat))) (fun x (r:List Say) ρ=>∃y z,ρ=[some (.sh (.adr x)),some (.ow (r.map sayD)),y,z])
  (fun pre r=>r.length=pre.length/\∀p∈r,p.1 < 60) (List.range m) [] [] t1 ⟨rfl,fun _ h=>(nomatch h)⟩ (by
   rintro q a rest r t e ⟨hl,hr⟩
   have hlen:q.length < 200:=by
    have:=congrArg List.length e
    simp at this
    lia
   have ha:a < 1000:=by
    have:a∈List.range m:=by
     have e':List.range m=q++a::rest:=e
     rw[e']
     simp
    have:=List.mem_range.mp this
    lia
   obtain⟨v,t2,hv0,hv⟩:=Yro t a ha
   obtain⟨n,hn,en⟩:=Yi5 (v:=v) 60 (by lia)
   refine⟨r++[(n,decide (v / 60 % 2=1))],t2,⟨by simp[hl],fun p hp=>?_⟩,fun x ρ=>?_⟩
   ·rcases qv hp with hp | hp
    ·exact hr p hp
    ·simp at hp
     subst hp
     show n < 60
     lia
   ·rintro⟨y,z,rfl⟩
    refine⟨_,_,rfl,?_,some (.sh (.int (0+(a:Int)))),some (.sh (.int v)),rfl⟩
    unfold Ycc
    rw[Yah (Ycn (hv x 0 _ _ rfl (e_sq ha (by simp[gSet]))))]
    refine Yci ?_
    have hcap:r.length < 1000000:=by lia
    simp[gSet,en,appD,hcap,sayD])
 rw[Qd,List.length_range]at hl
 refine⟨r,t2,⟨by lia,hr⟩,Ydx fun x=>?_⟩
 have hst:Yq 4 [.adr x]=[some (.sh (.adr x)),none,none,none]:=rfl
 rw[hst]
 unfold Yfe
 rw[Yah (Yci (ρ':=[some (.sh (.adr x)),some (.ow []),none,none]) (by simp))]
 unfold Yed
 obtain⟨ρ',e,y,z,rfl⟩:=h2 x [some (.sh (.adr x)),some (.ow []),none,none] ⟨none,none,rfl⟩
 rw[Yah (t':=t2) (ρ':=[some (.sh (.adr x)),some (.ow (r.map sayD)),y,z])]
 ·unfold Yec
  refine Yda ?_
  simp
 ·rw[Yng (m:=m) (t':=t1) (by lia) ((Ybk rfl).trans ((Yb7 (ds:=[.int 200]) rfl).trans h1))]
  exact e
theorem Yer(B:Nat)(h0:0 < B)(t:List Int):∃(xs:List Nat) (t':List Int),OkN B xs/\Yaf [.int (B:Int)] t=some (.tup (xs.map nD),t'):=by
 obtain⟨m,t1,hm,e1⟩:=Yrn 200 (.inl rfl) t
 obtain⟨xs,t2,hl,hx,h2⟩:=Ymf (gt:=gSet 0) (fe:=Ycp) (ρ:=fun x=>[none,some (.sh (.adr x)),some (.sh (.int (B:Int)))]) (fun i:Nat=>D.int (0+(i:Nat))) nD (fun n=>n < B) (List.range m) t1 (by
  intro a ha t
  have ha:=List.mem_range.mp ha
  obtain⟨v,t2,hv0,hv⟩:=Yro t a (by lia)
  obtain⟨n,hn,en⟩:=Yi5 (v:=v) (B:Int) (by lia)
  refine⟨n,t2,by lia,fun x=>⟨_,rfl,?_⟩⟩
  have hmod:modI (.int v) (.int (B:Int))=some (.int (v % (B:Int))):=Ylu (by lia)
  rw[en]at hmod
  exact Yrl (hv x 1 _ _ rfl (e_sq (k:=a) (by lia) (by simp[gSet]))) (Yar rfl) hmod)
 rw[List.length_range]at hl
 refine⟨xs,t2,⟨by lia,hx⟩,Ydx fun x=>?_⟩
 have hst:Yq 2 [.adr x,.int (B:Int)]=[some (.sh (.adr x)),some (.sh (.int (B:Int)))]:=rfl
 rw[hst]
 unfold Ydq
 refine Ydi (Ydj ?_ (by rw[qf];lia))
 rw[Yrp (m:=m) (t':=t1) (by lia) ((Ybk rfl).trans ((Yb7 (ds:=[.int 200]) rfl).trans e1))]
 exact h2 x
theorem Yhu(neg:Bool)(a b:Str):eqM neg (.str a) (.str b)=some (if neg then !decide (a=b)else decide (a=b)):=by
 rw[Yoa (by simp) (by simp),Ywu]
 by_cases h:a=b<;>cases neg<;>simp[h]
def nm:Fin 9->Str
 | 0=>Str.ofString "broken" | 1=>Str.ofString "clash" | 2=>Str.ofString "cross" | 3=>Str.ofString "late" | 4=>Str.ofString "odd" | 5=>Str.ofString "lone" | 6=>Str.ofString "plan" | 7=>Str.ofString "sums" | 8=>Str.ofString "rows"
@[simp] theorem nm0:Str.ofString "broken"=nm 0:=nrT rfl
@[simp] theorem nm1:Str.ofString "clash"=nm 1:=nrT rfl
@[simp] theorem nm2:Str.ofString "cross"=nm 2:=nrT rfl
@[simp] theorem nm3:Str.ofString "late"=nm 3:=nrT rfl
@[simp] theorem nm4:Str.ofString "odd"=nm 4:=nrT rfl
@[simp] theorem nm5:Str.ofString "lone"=nm 5:=nrT rfl
@[simp] theorem nm6:Str.ofString "plan"=nm 6:=nrT rfl
@[simp] theorem nm7:Str.ofString "sums"=nm 7:=nrT rfl
@[simp] theorem nm8:Str.ofString "rows"=nm 8:=nrT rfl
theorem y0e:∀i j,nm i=nm j->i=j:=by decide +kernel
@[simp] theorem eqM_nm(neg:Bool)(i j:Fin 9):eqM neg (.str (nm i)) (.str (nm j))=some (if neg then !decide (i=j)else decide (i=j)):=by
 rw[Yhu]
 by_cases h:i=j
 ·simp[h]
 ·have:¬nm i=nm j:=fun e=>h (y0e i j e)
  simp[h,this]
inductive K3 | pl | su | ro
abbrev Rw:=Nat × Option Nat × List Nat × Bool
def kW:K3->Str
 | .pl=>nm 6 | .su=>nm 7 | .ro=>nm 8
def rwD:K3->Rw->D
 | .pl,(a,s,_,b)=>.tup [nD a,optD s,.bl b]
 | .su,(a,_,xs,b)=>.tup [nD a,.tup (xs.map nD),.bl b]
 | .ro,(a,_,xs,_)=>.tup [nD a,.tup (xs.map nD)]
def OkRw(r:Rw):Prop:=r.1 < 60/\(∀x,r.2.1=some x->x < 60)/\OkN 60 r.2.2.1
def OkRs(rs:List Rw):Prop:=rs.length<=200/\∀r∈rs,OkRw r
theorem Yu6(v w:Int):∃s:Option Nat,(∀x,s=some x->x < 60)/\atI [.non,.int (v % 60)] (w % 2)=some (optD s):=by
 have h2:w % 2=0\/w % 2=1:=by lia
 rcases h2 with h | h
 ·exact⟨none,fun x hx=>(nomatch hx),by rw[h];rfl⟩
 ·obtain⟨n,hn,en⟩:=Yi5 (v:=v) 60 (by lia)
  refine⟨some n,fun x hx=>?_,by rw[h,en];rfl⟩
  cases hx
  lia
theorem Yky{τ:Type}{i:Nat}{f:TeV τ}{ρ:Ro}{t t':τ}{d:D}{xs:List D}(h1:getO i ρ=some xs)(hl:xs.length < 1000000)(h2:f ρ t=some (d,t')):appE i f ρ t=some (.nx (ρ.set i (some (.ow (xs++[d])))) t'):=by
 unfold appE
 rw[h1,qd,if_pos hl,h2]
 rfl
theorem y1y(k:K3)(t:List Int)(a:Nat)(ha:a < 1000):∃(r:Rw) (t':List Int),OkRw r/\∀x (l:List D) z,l.length < 1000000->∃z',Yao x [some (.sh (.adr x)),some (.sh (.str (kW k))),some (.ow l),some (.sh (.int (0+(a:Nat)))),z] t=some (.nx [some (.sh (.adr x)),some (.sh (.str (kW k))),some (.ow (l++[rwD k r])),some (.sh (.int (0+(a:Nat)))),z'] t'):=by
 obtain⟨v,t2,hv0,hv⟩:=Yro t a ha
 obtain⟨n,hn,en⟩:=Yi5 (v:=v) 60 (by lia)
 cases k with
 | pl=>
   obtain⟨s,hs,es⟩:=Yu6 (v / 60) (v / 3600)
   refine⟨(n,s,[],decide (v / 7200 % 2=1)),t2,⟨by show n < 60;lia,hs,Nat.zero_le _,fun _ h=>(nomatch h)⟩,fun x l z hl=>⟨some (.sh (.int v)),?_⟩⟩
   unfold Yao
   rw[Yah (Ycn (hv x 0 _ _ rfl (e_sq ha (by simp))))]
   rw[Yrk (by simp[kW])]
   refine Yci ?_
   simp[en,es,appD,hl,rwD]
 | su=>
   obtain⟨xs,t3,hx,h3⟩:=Yer 60 (by lia) t2
   refine⟨(n,none,xs,decide (v / 7200 % 2=1)),t3,⟨by show n < 60;lia,fun _ h=>(nomatch h),hx⟩,fun x l z hl=>⟨some (.sh (.int v)),?_⟩⟩
   unfold Yao
   rw[Yah (Ycn (hv x 0 _ _ rfl (e_sq ha (by simp))))]
   rw[Ypc (by simp[kW]),Yrk (by simp[kW])]
   exact Yky rfl hl (Ydj (l:=[.int n,.tup (xs.map nD),.bl (decide (v / 7200 % 2=1))]) (y8 (Yar (by simp[en])) (y8 ((Ybk rfl).trans ((Yb7 (ds:=[.int 60]) rfl).trans h3)) (y8 (Yar (by simp)) rfl))) (by simp))
 | ro=>
   obtain⟨xs,t3,hx,h3⟩:=Yer 60 (by lia) t2
   refine⟨(n,none,xs,false),t3,⟨by show n < 60;lia,fun _ h=>(nomatch h),hx⟩,fun x l z hl=>⟨some (.sh (.int v)),?_⟩⟩
   unfold Yao
   rw[Yah (Ycn (hv x 0 _ _ rfl (e_sq ha (by simp))))]
   rw[Ypc (by simp[kW]),Ypc (by simp[kW])]
   exact Yky rfl hl (Ydj (l:=[.int n,.tup (xs.map nD)]) (y8 (Yar (by simp[en])) (y8 ((Ybk rfl).trans ((Yb7 (ds:=[.int 60]) rfl).trans h3)) rfl)) (by simp))
theorem Yrq(k:K3)(t:List Int):∃(rs:List Rw) (t':List Int),OkRs rs/\Ybn [.str (kW k)] t=some (.tup (rs.map (rwD k)),t'):=by
 obtain⟨m,t1,hm,h1⟩:=Yrn 66 (.inr rfl) t
 obtain⟨r,t2,⟨hl,hr⟩,h2⟩:=Ykx (gt:=gSet 3) (fb:=Yao) (fun i:Nat=>D.int (0+(i:Nat))) (fun x (r:List Rw) ρ=>∃y z,ρ=[some (.sh (.adr x)),some (.sh (.str (kW k))),some (.ow (r.map (rwD k))),y,z])
  (fun pre r=>r.length=pre.length/\∀p∈r,OkRw p) (List.range m) [] [] t1 ⟨rfl,fun _ h=>(nomatch h)⟩ (by
   rintro q a rest r t e ⟨hl,hr⟩
   have hlen:q.length < 200:=by
    have:=congrArg List.length e
    simp at this
    lia
   have ha:a < 1000:=by
    have:a∈List.range m:=by
     have e':List.range m=q++a::rest:=e
     rw[e']
     simp
    have:=List.mem_range.mp this
    lia
   obtain⟨w,t2,hw,h⟩:=y1y k t a ha
   refine⟨r++[w],t2,⟨by simp[hl],fun p hp=>?_⟩,fun x ρ=>?_⟩
   ·rcases qv hp with hp | hp
    ·exact hr p hp
    ·simp at hp
     subst hp
     exact hw
   ·rintro⟨y,z,rfl⟩
    obtain⟨z',hz⟩:=h x (r.map (rwD k)) z (by rw[qf];lia)
    refine⟨_,_,rfl,hz,_,z',by rw[List.map_append];rfl⟩)
 rw[Qd,List.length_range]at hl
 refine⟨r,t2,⟨by lia,hr⟩,Ydx fun x=>?_⟩
 have hst:Yq 5 [.adr x,.str (kW k)]=[some (.sh (.adr x)),some (.sh (.str (kW k))),none,none,none]:=rfl
 rw[hst]
 unfold Yff
 rw[Yah (Yci (ρ':=[some (.sh (.adr x)),some (.sh (.str (kW k))),some (.ow []),none,none]) (by simp))]
 unfold Yef
 obtain⟨ρ',e,y,z,rfl⟩:=h2 x [some (.sh (.adr x)),some (.sh (.str (kW k))),some (.ow []),none,none] ⟨none,none,rfl⟩
 rw[Yah (t':=t2) (ρ':=[some (.sh (.adr x)),some (.sh (.str (kW k))),some (.ow (r.map (rwD k))),y,z])]
 ·unfold Yee
  refine Yda ?_
  simp
 ·rw[Yng (m:=m) (t':=t1) (by lia) ((Ybk rfl).trans ((Yb7 (ds:=[.int 66]) rfl).trans h1))]
  exact e
inductive Pa
 | br
 | cl (late:Bool) (a b:List Say)
 | cr (a:List Say)
 | od (a:List Nat)
 | lo (s:Option Nat) (a b:List Nat)
 | pl (k:K3) (h:k≠.ro) (rs:List Rw)
 | ro (a:List Nat) (rs:List Rw)
def paN:Pa->Str
 | .br=>nm 0
 | .cl false _ _=>nm 1
 | .cl true _ _=>nm 3
 | .cr _=>nm 2
 | .od _=>nm 4
 | .lo _ _ _=>nm 5
 | .pl k _ _=>kW k
 | .ro _ _=>nm 8
def numsD(a:List Nat):D:=.tup (a.map nD)
def Ye5(a:List Say):D:=.tup (a.map sayD)
def paL:Pa->List D
 | .br=>[]
 | .cl _ a b=>[Ye5 a,Ye5 b]
 | .cr a=>[Ye5 a]
 | .od a=>[numsD a]
 | .lo s a b=>[optD s,numsD a,numsD b]
 | .pl k _ rs=>[.tup (rs.map (rwD k))]
 | .ro a rs=>[numsD a,.tup (rs.map (rwD .ro))]
def paD(p:Pa):D:=.tup (.str (paN p)::paL p)
def OkPa:Pa->Prop
 | .br=>True
 | .cl _ a b=>OkR a/\OkR b
 | .cr a=>OkR a
 | .od a=>OkN 201 a
 | .lo s a b=>(∀x,s=some x->x < 60)/\OkN 201 a/\OkN 201 b
 | .pl _ _ rs=>OkRs rs
 | .ro a rs=>OkN 60 a/\OkRs rs
theorem Yxl(v:Int):∃i:Fin 9,atI [D.str (nm 0),.str (nm 1),.str (nm 2),.str (nm 3),.str (nm 4),.str (nm 5),.str (nm 6),.str (nm 7),.str (nm 8)] (v % 9)=some (.str (nm i)):=by
 obtain⟨n,hn,en⟩:=Yi5 (v:=v) 9 (by lia)
 rw[en]
 have h9:n < 9:=by lia
 have:∀n:Fin 9,∃i:Fin 9,atI [D.str (nm 0),.str (nm 1),.str (nm 2),.str (nm 3),.str (nm 4),.str (nm 5),.str (nm 6),.str (nm 7),.str (nm 8)] (n.1:Int)=some (.str (nm i)):=by
  intro n
  refine⟨n,?_⟩
  match n with
  | 0=>rfl
  | 1=>rfl
  | 2=>rfl
  | 3=>rfl
  | 4=>rfl
  | 5=>rfl
  | 6=>rfl
  | 7=>rfl
  | 8=>rfl
 exact this ⟨n,h9⟩
section
variable {τ:Type} {f g:Ro->τ->Option (OutW τ)} {c:Ro->τ->Option Bool} {ρ:Ro} {t t':τ} {d:D}
theorem Ynh(h:c ρ t=some false):seqW (ifW c f nilW) g ρ t=g ρ t:=Yah (Ypc h)
theorem Yni(h:c ρ t=some true)(h2:f ρ t=some (.rt d t')):seqW (ifW c f nilW) g ρ t=some (.rt d t'):=Ynf ((Yrk h).trans h2)
end
theorem Yjq{x:Addr}{ρ:Ro}{t t':List Int}{d:D}{ga:Ro->Option (List D)}{ds:List D}{g:List D->List Int->Option (D × List Int)}(h0:ρ[0]?=some (some (.sh (.adr x))))(h1:ga ρ=some ds)(h2:g ds t=some (d,t')):Yac x 0 (Ya0 ga g) ρ t=some (d,t'):=
 (Ybk h0).trans ((Yb7 h1).trans h2)
abbrev aR(x:Addr)(v:Int)(i:Fin 9):Ro:=[some (.sh (.adr x)),some (.sh (.int v)),some (.sh (.str (nm i))),none,none,none]
theorem Yxm{t t1:List Int}{v:Int}{i:Fin 9}(hv:Ya9 [] t=some (.int v,t1))(hi:atI [D.str (nm 0),.str (nm 1),.str (nm 2),.str (nm 3),.str (nm 4),.str (nm 5),.str (nm 6),.str (nm 7),.str (nm 8)] (v % 9)=some (.str (nm i)))(x:Addr) :
 Yi3 x (Yq 6 [.adr x]) t=Yc6 x (aR x v i) t1:=by
 unfold Yi3
 rw[Yah (Ycn (Yjq rfl rfl hv))]
 unfold Yi2
 refine Yah (Yci ?_)
 simp[Yq,hi]
theorem y0f{t t1 t':List Int}{v:Int}{i:Fin 9}{p:Pa}(hv:Ya9 [] t=some (.int v,t1))(hi:atI [D.str (nm 0),.str (nm 1),.str (nm 2),.str (nm 3),.str (nm 4),.str (nm 5),.str (nm 6),.str (nm 7),.str (nm 8)] (v % 9)=some (.str (nm i)))
 (h:∀x,Yc6 x (aR x v i) t1=some (.rt (paD p) t')):Ygq [] t=some (paD p,t'):=Ydx fun x=>(Yxm hv hi x).trans (h x)
theorem Ynj{x:Addr}{v:Int}{i:Fin 9}{t:List Int}(h:i≠1)(h':i≠3):Yc6 x (aR x v i) t=Yfv x (aR x v i) t:=Ynh (by simp[h,h'])
theorem Ypd{x:Addr}{v:Int}{i:Fin 9}{t:List Int}(h:i≠2):Yfv x (aR x v i) t=Yfu x (aR x v i) t:=Ynh (by simp[h])
theorem Yrr{x:Addr}{v:Int}{i:Fin 9}{t:List Int}(h:i≠4):Yfu x (aR x v i) t=Yft x (aR x v i) t:=Ynh (by simp[h])
theorem Yuf{x:Addr}{v:Int}{i:Fin 9}{t:List Int}(h:i≠5):Yft x (aR x v i) t=Yd1 x (aR x v i) t:=Ynh (by simp[h])
theorem y0g{x:Addr}{v:Int}{i:Fin 9}{t:List Int}(h:i≠6)(h':i≠7):Yd1 x (aR x v i) t=Yfs x (aR x v i) t:=Ynh (by simp[h,h'])
theorem y1z{x:Addr}{v:Int}{i:Fin 9}{t:List Int}(h:i≠8):Yfs x (aR x v i) t=Yi1 x (aR x v i) t:=Ynh (by simp[h])
theorem Yu7{x:Addr}{v:Int}{i:Fin 9}{t t2 t3:List Int}{a b:List Say}(h:i=1\/i=3)(h2:Yay [] t=some (Ye5 a,t2))(h3:Yay [] t2=some (Ye5 b,t3)):Yc6 x (aR x v i) t=some (.rt (.tup [.str (nm i),Ye5 a,Ye5 b]) t3):=by
 refine Yni (by rcases h with rfl | rfl<;>simp) ?_
 rw[Yah (Ycn (Yjq rfl rfl h2))]
 exact Ydi (Ydj (y8 (Yar rfl) (y8 (Yar rfl) (y8 (Yjq rfl rfl h3) rfl))) (by simp))
theorem Yu8{x:Addr}{v:Int}{i:Fin 9}{t t2:List Int}{d:D}(h:i=6\/i=7)(h2:Ybn [.str (nm i)] t=some (d,t2)):Yd1 x (aR x v i) t=some (.rt (.tup [.str (nm i),d]) t2):=by
 refine Yni (by rcases h with rfl | rfl<;>simp) ?_
 exact Ydi (Ydj (y8 (Yar rfl) (y8 (Yjq rfl rfl h2) rfl)) (by simp))
theorem y10(t:List Int):∃(p:Pa) (t':List Int),OkPa p/\Ygq [] t=some (paD p,t'):=by
 obtain⟨v,t1,hv0,hv⟩:=Yrm t
 obtain⟨i,hi⟩:=Yxl v
 have go:=fun {p:Pa} {t':List Int}=>y0f (t':=t') (p:=p) hv hi
 obtain⟨ra,ta,oa,ea⟩:=Yu5 t1
 obtain⟨rb,tb,ob,eb⟩:=Yu5 ta
 obtain⟨na,sa,pa,fa⟩:=Yer 201 (by lia) t1
 obtain⟨nb,sb,pb,fb⟩:=Yer 201 (by lia) sa
 obtain⟨s,hs,es⟩:=Yu6 (v / 9) (v / 540)
 match i with
 | 0=>
   refine⟨.br,t1,trivial,go fun x=>?_⟩
   rw[Ynj (by decide) (by decide),Ypd (by decide),Yrr (by decide),Yuf (by decide),y0g (by decide) (by decide),y1z (by decide)]
   refine Yda ?_
   simp[paD,paN,paL]
 | 1=>exact⟨.cl false ra rb,tb,⟨oa,ob⟩,go fun x=>Yu7 (.inl rfl) ea eb⟩
 | 2=>
   refine⟨.cr ra,ta,oa,go fun x=>?_⟩
   rw[Ynj (by decide) (by decide)]
   exact Yni (by simp) (Ydi (Ydj (y8 (Yar rfl) (y8 (Yjq rfl rfl ea) rfl)) (by simp[paL])))
 | 3=>exact⟨.cl true ra rb,tb,⟨oa,ob⟩,go fun x=>Yu7 (.inr rfl) ea eb⟩
 | 4=>
   refine⟨.od na,sa,pa,go fun x=>?_⟩
   rw[Ynj (by decide) (by decide),Ypd (by decide)]
   exact Yni (by simp) (Ydi (Ydj (y8 (Yar rfl) (y8 (Yjq rfl rfl fa) rfl)) (by simp[paL])))
 | 5=>
   refine⟨.lo s na nb,sb,⟨hs,pa,pb⟩,go fun x=>?_⟩
   rw[Ynj (by decide) (by decide),Ypd (by decide),Yrr (by decide)]
   refine Yni (by simp) ?_
   rw[Yah (Ycn (Yjq rfl rfl fa))]
   exact Ydi (Ydj (y8 (Yar rfl) (y8 (Yar (d:=optD s) (by simp[es])) (y8 (Yar rfl) (y8 (Yjq rfl rfl fb) rfl)))) (by simp[paL]))
 | 6=>
   obtain⟨rs,tr,hr,er⟩:=Yrq .pl t1
   refine⟨.pl .pl (by simp) rs,tr,hr,go fun x=>?_⟩
   rw[Ynj (by decide) (by decide),Ypd (by decide),Yrr (by decide),Yuf (by decide)]
   exact Yu8 (.inl rfl) er
 | 7=>
   obtain⟨rs,tr,hr,er⟩:=Yrq .su t1
   refine⟨.pl .su (by simp) rs,tr,hr,go fun x=>?_⟩
   rw[Ynj (by decide) (by decide),Ypd (by decide),Yrr (by decide),Yuf (by decide)]
   exact Yu8 (.inr rfl) er
 | 8=>
   obtain⟨nc,sc,pc,fc⟩:=Yer 60 (by lia) t1
   obtain⟨rs,tr,hr,er⟩:=Yrq .ro sc
   refine⟨.ro nc rs,tr,⟨pc,hr⟩,go fun x=>?_⟩
   rw[Ynj (by decide) (by decide),Ypd (by decide),Yrr (by decide),Yuf (by decide),y0g (by decide) (by decide)]
   refine Yni (by simp) ?_
   rw[Yah (Ycn (Yjq rfl rfl fc))]
   exact Ydi (Ydj (y8 (Yar rfl) (y8 (Yar rfl) (y8 (Yjq rfl rfl er) rfl))) (by simp[paL]))
def num(b:Nat):Str:=Str.ofString (toString (b:Int))
theorem Ykz:∀b,b < 1000->(num b).length<=3:=by decide +kernel
theorem Yjr{b:Nat}(h:b < 1000):strC [.int (b:Int)]=some (.str (num b)):=by
 rw[Ytp,if_pos (by lia)]
 rfl
theorem e_fs{b:Nat}(h:b < 1000){x:Str}(hx:x.length<=10):fsD x (.int (b:Int))=some (.str (x++num b)):=by
 have:=Ykz b h
 have e:Str.ofString (toString (b:Int))=num b:=rfl
 rw[Yw0,e,if_pos ⟨by lia,by rw[Yq1];lia⟩]
theorem Yu9{a b:Str}(ha:a.length<=10)(hb:b.length<=10):addS (.str a) (.str b)=some (.str (a++b)):=by
 rw[Ytq,if_pos (by lia)]
theorem y0h{sep:Str}{l:List D}{xs:List Str}(h:l=xs.map D.str)(hs:(xs.map fun x:Str=>sep.length+x.length).sum<=16000000):Yl0 sep [.lst l]=some (.str (Txt.join sep xs)):=by
 rw[Yq3,h,Yir,qd,if_pos (Yq2 hs)]
abbrev T(s:String):Str:=Str.ofString s
def sayW(s:Say):Str:=(if s.2=true then T "+" else T "-")++num s.1
def Ydk:Option Nat->Str
 | none=>T "none" | some b=>num b
def yesW(b:Bool):Str:=if b=true then T "yes" else T "no"
theorem lenPM:(T "+").length=1/\(T "-").length=1/\(T "none").length=4/\(T "yes").length=3/\(T "no").length=2/\(T " ").length=1:=by decide +kernel
theorem Ycm{a b:List D}(h:a.length+b.length<=1000000):catD (.lst a) (.lst b)=some (a++b):=if_pos h
theorem Yug{s:Say}(h:s.1 < 1000):Ybo [sayD s]=some (.str (sayW s)):=by
 rw[Ybo,Yat (by rfl)]
 have h1:=e_fs h (x:=T "+") (by rw[lenPM.1];decide)
 have h2:=e_fs h (x:=T "-") (by rw[lenPM.2.1];decide)
 obtain⟨b,o⟩:=s
 cases o<;>simp[Yd7,Yq,sayD,h1,h2,sayW]
theorem y11{s:Say}(h:s.1 < 1000):Yy [.str (T "saying"),sayD s]=some (.str (sayW s)):=by
 rw[Yy,Yat (by rfl)]
 simp[Ybf,Yq,Yhu,Yug h]
theorem fne:¬T "truth"=T "saying"/\∀f∈[T "place",T "beacon",T "source"],¬f=T "saying"/\¬f=T "truth":=by decide +kernel
theorem Yxn(b:Bool):Yy [.str (T "truth"),.bl b]=some (.str (yesW b)):=by
 rw[Yy,Yat (by rfl)]
 cases b<;>simp[Ybf,Yq,Yhu,fne.1,yesW]
theorem Yuh{f:Str}(hf:f∈[T "place",T "beacon",T "source"]){b:Nat}(h:b < 1000):Yy [.str f,nD b]=some (.str (num b)):=by
 rw[Yy,Yat (by rfl)]
 obtain⟨h1,h2⟩:=fne.2 f hf
 simp[Ybf,Yq,Yhu,h1,h2,Yjr h]
theorem y0i{f:Str}(hf:f∈[T "place",T "beacon",T "source"]){s:Option Nat}(h:∀x,s=some x->x < 1000):Yy [.str f,optD s]=some (.str (Ydk s)):=by
 cases s with
 | some b=>exact Yuh hf (h b rfl)
 | none=>
   rw[Yy,Yat (by rfl)]
   obtain⟨h1,h2⟩:=fne.2 f hf
   simp[Ybf,Yq,Yhu,h1,h2,optD,Ydk]
def cntW{α:Type}(w:α->Str)(l:List α):List Str:=num l.length::l.map w
theorem Yi6{k:Nat}{form leaf:Str}{α:Type}{enc:α->D}{w:α->Str}{l:List α}(h1:inG false y9 (.str form)=some true)(h2:Ylr gt_SEVERAL (.str form)=some (.str leaf))(hl:l.length<=200)(hw:∀a∈l,Yy [.str leaf,enc a]=some (.str (w a))) :
 Ye (k+1) [.str form,.tup (l.map enc)]=some (.lst ((cntW w l).map D.str)):=by
 rw[Ye,Yat (by rfl)]
 have h:=Yqv (fe:=Yb9 (Yp k)) (r:=[some (.sh (.str form))]) (enc:=enc) (fun a=>D.str (w a)) (l:=l) (fun a ha=>by
  have:=hw a ha
  simp[Yb9,h2,this])
 have hn:=Yjr (b:=l.length) (by lia)
 have hc:=Ycm (a:=[.str (num l.length)]) (b:=l.map fun s=>D.str (w s)) (by simp;lia)
 simp[Ycg,Yq,capR,h1,h,hn,hc,cntW,Function.comp_def]
theorem y0j{k:Nat}{form w:Str}{d:D}(h1:inG false y9 (.str form)=some false)(h2:inG true Ydg (.str form)=some true)(hw:Yy [.str form,d]=some (.str w)) :
 Ye (k+1) [.str form,d]=some (.lst [.str w]):=by
 rw[Ye,Yat (by rfl)]
 simp[Ycg,Yq,h1,h2,hw]
theorem Ygv{α:Type}{w:α->List Str}{B:Nat}:∀{l:List α},(∀a∈l,(w a).length<=B)->(l.flatMap w).length<=l.length * B
 | [],_=>by simp
 | a::l,h=>by
   have h1:=Ygv (l:=l) fun b hb=>h b (.tail _ hb)
   have h2:=h a (.head _)
   rw[List.flatMap_cons,qw,qs,Nat.add_mul,Nat.one_mul]
   lia
theorem Ymg{α:Type}(w:α->List Str)(l:List α)(a:α):(l++[a]).flatMap w=l.flatMap w++w a:=by simp
theorem Yva{a b:List D}(h:a.length+b.length<=1000000):extD a (.lst b)=some (a++b):=if_pos h
theorem Ynk{k:Nat}{form:Str}{p:Addr}{α:Type}{enc:α->D}{w:α->List Str}{l:List α}(h1:inG false y9 (.str form)=some false)(h2:inG true Ydg (.str form)=some false)(h3:Ye7 gt_ROWS (.str form)=some (.adr p))(hl:l.length<=200)
 (hw:∀a∈l,Yp k [.adr p,enc a]=some (.lst ((w a).map D.str))/\(w a).length<=210) :
 Ye (k+1) [.str form,.tup (l.map enc)]=some (.lst ((num l.length::l.flatMap w).map D.str)):=by
 rw[Ye,Yat (by rfl)]
 have hn:=Yjr (b:=l.length) (by lia)
 obtain⟨ρ',e,y,rfl⟩:=Yhy (gt:=gSet 3) (fb:=Yca (Yp k)) enc (fun pre ρ=>∃y,ρ=[some (.sh (.str form)),some (.sh (.tup (l.map enc))),some (.ow ((num l.length::pre.flatMap w).map D.str)),y]) l []
  [some (.sh (.str form)),some (.sh (.tup (l.map enc))),some (.ow [.str (num l.length)]),none] ⟨none,rfl⟩ (by
   rintro q a r ρ e ⟨y,rfl⟩
   have e':l=q++a::r:=e
   have hq:(q.flatMap w).length<=q.length * 210:=Ygv fun b hb=>(hw b (by rw[e'];simp[hb])).2
   obtain⟨h4,h5⟩:=hw a (by rw[e'];simp)
   have hql:q.length<=200:=by
    have:=congrArg List.length e'
    rw[qw,qs]at this
    lia
   refine⟨_,_,rfl,?_,some (.sh (enc a)),rfl⟩
   have hx:=Yva (a:=(num l.length::q.flatMap w).map D.str) (b:=(w a).map D.str) (by rw[qf,qf,qs];lia)
   simp only[qy]at hx
   simp[Yca,h3,h4,hx])
 rw[Qd]at e
 simp[Ycg,Yq,h1,h2,hn,e,frz,frz1]
theorem Yk0{k:Nat}{p:Addr}{ss:List Str}(h:ktab.lookup p=some ss)(ps:List (D × Str × List Str))(hs:ss=ps.map (·.2.1))(hl:ps.length<=3)(hw:∀a∈ps,Ye k [.str a.2.1,a.1]=some (.lst (a.2.2.map D.str))/\a.2.2.length<=50000) :
 Yp (k+1) [.adr p,.tup (ps.map (·.1))]=some (.lst ((ps.flatMap (·.2.2)).map D.str)):=by
 rw[Yp]
 show runB 2 5 (Yc1 (Ye k)) _=_
 rw[Yat (by rfl)]
 have hz:∀ps:List (D × Str × List Str),zipS (ps.map (·.2.1)) (ps.map (·.1))=ps.map fun a=>D.tup [.str a.2.1,a.1]:=by
  intro ps
  induction ps with
  | nil=>rfl
  | cons a l ih=>rw[qy,qy,qy,zipS,ih]
 have hzz:zipF ktab (getV 0) (getV 1) [some (.sh (.adr p)),some (.sh (.tup (ps.map (·.1)))),some (.ow []),none,none]=some (ps.map fun a=>D.tup [.str a.2.1,a.1]):=by
  show zipD ktab (.adr p) (.tup (ps.map (·.1)))=_
  show(ktab.lookup p).map _=_
  rw[h,hs,<-hz ps]
  rfl
 obtain⟨ρ',e,y,z,rfl⟩:=Yhy (gt:=Ys4 3 4) (fb:=Yb0 (Ye k)) (fun a:D × Str × List Str=>D.tup [.str a.2.1,a.1]) (fun pre ρ=>∃y z,ρ=[some (.sh (.adr p)),some (.sh (.tup (ps.map (·.1)))),some (.ow ((pre.flatMap (·.2.2)).map D.str)),y,z]) ps []
  [some (.sh (.adr p)),some (.sh (.tup (ps.map (·.1)))),some (.ow []),none,none] ⟨none,none,rfl⟩ (by
   rintro q a r ρ e ⟨y,z,rfl⟩
   have e':ps=q++a::r:=e
   have hq:(q.flatMap (·.2.2)).length<=q.length * 50000:=Ygv fun b hb=>(hw b (by rw[e'];simp[hb])).2
   obtain⟨h4,h5⟩:=hw a (by rw[e'];simp)
   have hql:q.length<=3:=by
    have:=congrArg List.length e'
    rw[qw,qs]at this
    lia
   refine⟨_,_,rfl,?_,some (.sh (.str a.2.1)),some (.sh a.1),rfl⟩
   have hx:=Yva (a:=(q.flatMap (·.2.2)).map D.str) (b:=a.2.2.map D.str) (by rw[qf,qf];lia)
   simp[Yb0,h4,hx])
 rw[Qd]at e
 have hst:Yq 5 [.adr p,.tup (ps.map (·.1))]=[some (.sh (.adr p)),some (.sh (.tup (ps.map (·.1)))),none,none,none]:=rfl
 rw[hst]
 simp[Yc1,hzz,e,frz,frz1]
def Yaz:K3->Rw->List Str
 | .pl,(a,s,_,b)=>[num a,Ydk s,yesW b]
 | .su,(a,_,xs,b)=>num a::(cntW num xs++[yesW b])
 | .ro,(a,_,xs,_)=>num a::cntW num xs
def Yf5(k:K3)(rs:List Rw):List Str:=num rs.length::rs.flatMap (Yaz k)
def paW:Pa->List Str
 | .br=>[]
 | .cl _ a b=>cntW sayW a++cntW sayW b
 | .cr a=>cntW sayW a
 | .od a=>cntW num a
 | .lo s a b=>Ydk s::(cntW num a++cntW num b)
 | .pl k _ rs=>Yf5 k rs
 | .ro a rs=>cntW num a++Yf5 .ro rs
theorem Yhv{neg:Bool}{ks:List Str}{f:Str}(h:f∈ks):inG neg ks (.str f)=some (!neg):=by
 show some (decide (f∈ks) != neg)=_
 rw[decide_eq_true h]
 cases neg<;>rfl
theorem Yk1{neg:Bool}{ks:List Str}{f:Str}(h:¬f∈ks):inG neg ks (.str f)=some neg:=by
 show some (decide (f∈ks) != neg)=_
 rw[decide_eq_false h]
 cases neg<;>rfl
theorem lkG{kvs:List (Str × Str)}{f v:Str}(h:kvs.lookup f=some v):Ylr kvs (.str f)=some (.str v):=by
 show(kvs.lookup f).map _=_
 rw[h]
 rfl
theorem lkA{kvs:List (Str × Addr)}{f:Str}{v:Addr}(h:kvs.lookup f=some v):Ye7 kvs (.str f)=some (.adr v):=by
 show(kvs.lookup f).map _=_
 rw[h]
 rfl
theorem fm_sev:T "road"∈y9/\T "places"∈y9/\T "beacons"∈y9/\gt_SEVERAL.lookup (T "road")=some (T "saying")/\gt_SEVERAL.lookup (T "places")=some (T "place")/\gt_SEVERAL.lookup (T "beacons")=some (T "beacon"):=by decide +kernel
theorem Yk2:∀f∈[T "truth",T "beacon",T "source"],¬f∈y9/\¬f∈Ydg:=by decide +kernel
theorem Yco:∀f∈[T "plan rows",T "sum rows",T "if rows"],¬f∈y9/\f∈Ydg:=by decide +kernel
theorem fm_look:gt_ROWS.lookup (T "plan rows")=some 86/\gt_ROWS.lookup (T "sum rows")=some 87/\gt_ROWS.lookup (T "if rows")=some 88/\ktab.lookup 86=some [T "beacon",T "source",T "truth"]/\ktab.lookup 87=some [T "beacon",T "beacons",T "truth"]/\ktab.lookup 88=some [T "beacon",T "beacons"]:=by decide +kernel
theorem lt_k{n:Nat}(h:n < 60):n < 1000:=by lia
theorem fr_k{s:Option Nat}(h:∀x,s=some x->x < 60):∀x,s=some x->x < 1000:=fun x hx=>lt_k (h x hx)
theorem Ymh{k:Nat}{a:List Say}(h:OkR a):Ye (k+1) [.str (T "road"),Ye5 a]=some (.lst ((cntW sayW a).map D.str)):=
 Yi6 (Yhv fm_sev.1) (lkG fm_sev.2.2.2.1) h.1 fun p hp=>y11 (lt_k (h.2 p hp))
theorem Yk3{k:Nat}{a:List Nat}(h:OkN 201 a):Ye (k+1) [.str (T "places"),numsD a]=some (.lst ((cntW num a).map D.str)):=
 Yi6 (Yhv fm_sev.2.1) (lkG fm_sev.2.2.2.2.1) h.1 fun p hp=>Yuh (.head _) (by have:=h.2 p hp;lia)
theorem Yi7{k:Nat}{a:List Nat}(h:OkN 60 a):Ye (k+1) [.str (T "beacons"),numsD a]=some (.lst ((cntW num a).map D.str)):=
 Yi6 (Yhv fm_sev.2.2.1) (lkG fm_sev.2.2.2.2.2) h.1 fun p hp=>Yuh (.tail _ (.head _)) (lt_k (h.2 p hp))
theorem Yrs{k:Nat}{f w:Str}{d:D}(hf:f∈[T "truth",T "beacon",T "source"])(hw:Yy [.str f,d]=some (.str w)):Ye (k+1) [.str f,d]=some (.lst ([w].map D.str)):=
 y0j (Yk1 (Yk2 f hf).1) (Yk1 (Yk2 f hf).2) hw
theorem Yk4{k n:Nat}(h:n < 1000):Ye (k+1) [.str (T "beacon"),nD n]=some (.lst ([num n].map D.str)):=Yrs (.tail _ (.head _)) (Yuh (.tail _ (.head _)) h)
theorem Yol{k:Nat}{s:Option Nat}(h:∀x,s=some x->x < 1000):Ye (k+1) [.str (T "source"),optD s]=some (.lst ([Ydk s].map D.str)):=Yrs (.tail _ (.tail _ (.head _))) (y0i (.tail _ (.tail _ (.head _))) h)
theorem Yrt{k:Nat}(b:Bool):Ye (k+1) [.str (T "truth"),.bl b]=some (.lst ([yesW b].map D.str)):=Yrs (.head _) (Yxn b)
theorem Yce{α:Type}{w:α->Str}{l:List α}(h:l.length<=200):(cntW w l).length<=201:=by
 rw[cntW,qs,qf]
 lia
theorem Yru{k:K3}{r:Rw}(h:OkRw r):(Yaz k r).length<=210:=by
 obtain⟨a,s,xs,b⟩:=r
 have:=Yce (w:=num) h.2.2.1
 cases k with
 | pl=>exact(by decide:3<=210)
 | su=>
   rw[Yaz,qs,qw]
   show(cntW num xs).length+1+1<=210
   have h2:(cntW num xs).length<=201:=this
   lia
 | ro=>
   rw[Yaz,qs]
   have h2:(cntW num xs).length<=201:=this
   lia
theorem Ye1{k:K3}{rs:List Rw}(h:OkRs rs):(Yf5 k rs).length<=42001:=by
 have:=Ygv (w:=Yaz k) (B:=210) fun r hr=>Yru (h.2 r hr)
 have:=h.1
 rw[Yf5,qs]
 lia
theorem Yrv{k:Nat}{p:Addr}{s1 s2 s3:Str}{d1 d2 d3:D}{w1 w2 w3:List Str}(h:ktab.lookup p=some [s1,s2,s3])(h1:Ye k [.str s1,d1]=some (.lst (w1.map D.str)))(h2:Ye k [.str s2,d2]=some (.lst (w2.map D.str)))(h3:Ye k [.str s3,d3]=some (.lst (w3.map D.str)))(l1:w1.length<=50000)(l2:w2.length<=50000)(l3:w3.length<=50000) :
 Yp (k+1) [.adr p,.tup [d1,d2,d3]]=some (.lst ((w1++(w2++w3)).map D.str)):=by
 have:=Yk0 h [(d1,s1,w1),(d2,s2,w2),(d3,s3,w3)] rfl (by simp) (by
  intro a ha
  simp at ha
  rcases ha with rfl | rfl | rfl
  ·exact⟨h1,l1⟩
  ·exact⟨h2,l2⟩
  ·exact⟨h3,l3⟩)
 simpa using this
theorem Yom{k:Nat}{p:Addr}{s1 s2:Str}{d1 d2:D}{w1 w2:List Str}(h:ktab.lookup p=some [s1,s2])(h1:Ye k [.str s1,d1]=some (.lst (w1.map D.str)))(h2:Ye k [.str s2,d2]=some (.lst (w2.map D.str)))(l1:w1.length<=50000)(l2:w2.length<=50000) :
 Yp (k+1) [.adr p,.tup [d1,d2]]=some (.lst ((w1++w2).map D.str)):=by
 have:=Yk0 h [(d1,s1,w1),(d2,s2,w2)] rfl (by simp) (by
  intro a ha
  simp at ha
  rcases ha with rfl | rfl
  ·exact⟨h1,l1⟩
  ·exact⟨h2,l2⟩)
 simpa using this
theorem Yon{k:Nat}{p:Addr}{s1:Str}{d1:D}{w1:List Str}(h:ktab.lookup p=some [s1])(h1:Ye k [.str s1,d1]=some (.lst (w1.map D.str)))(l1:w1.length<=50000) :
 Yp (k+1) [.adr p,.tup [d1]]=some (.lst (w1.map D.str)):=by
 have:=Yk0 h [(d1,s1,w1)] rfl (by simp) (by
  intro a ha
  simp at ha
  subst ha
  exact⟨h1,l1⟩)
 simpa using this
theorem Yrw{k:Nat}{q:K3}{r:Rw}(h:OkRw r):Yp (k+2) [.adr (match q with | .pl=>86 | .su=>87 | .ro=>88),rwD q r]=some (.lst ((Yaz q r).map D.str)):=by
 obtain⟨a,s,xs,b⟩:=r
 obtain⟨ha,hs,hx⟩:=h
 have hc:(cntW num xs).length<=50000:=qx (Yce hx.1) (by lia)
 cases q with
 | pl=>exact Yrv fm_look.2.2.2.1 (Yk4 (lt_k ha)) (Yol (fr_k hs)) (Yrt b) (by simp) (by simp) (by simp)
 | su=>exact Yrv fm_look.2.2.2.2.1 (Yk4 (lt_k ha)) (Yi7 hx) (Yrt b) (by simp) hc (by simp)
 | ro=>exact Yom fm_look.2.2.2.2.2 (Yk4 (lt_k ha)) (Yi7 hx) (by simp) hc
theorem Yrx{k:Nat}{q:K3}{rs:List Rw}(h:OkRs rs):Ye (k+3) [.str (match q with | .pl=>T "plan rows" | .su=>T "sum rows" | .ro=>T "if rows"),.tup (rs.map (rwD q))]=some (.lst ((Yf5 q rs).map D.str)):=by
 have hr:∀r∈rs,Yp (k+2) [.adr (match q with | .pl=>86 | .su=>87 | .ro=>88),rwD q r]=some (.lst ((Yaz q r).map D.str))/\(Yaz q r).length<=210:=fun r hr=>⟨Yrw (h.2 r hr),Yru (h.2 r hr)⟩
 cases q with
 | pl=>exact Ynk (Yk1 (Yco _ (.head _)).1) (Yhv (Yco _ (.head _)).2) (lkA fm_look.1) h.1 hr
 | su=>exact Ynk (Yk1 (Yco _ (.tail _ (.head _))).1) (Yhv (Yco _ (.tail _ (.head _))).2) (lkA fm_look.2.1) h.1 hr
 | ro=>exact Ynk (Yk1 (Yco _ (.tail _ (.tail _ (.head _)))).1) (Yhv (Yco _ (.tail _ (.tail _ (.head _)))).2) (lkA fm_look.2.2.1) h.1 hr
def paA:Pa->Addr
 | .br=>76
 | .cl false _ _=>77
 | .cl true _ _=>79
 | .cr _=>78
 | .od _=>80
 | .lo _ _ _=>81
 | .pl .pl _ _=>82
 | .pl _ _ _=>83
 | .ro _ _=>84
theorem Yd3:∀i:Fin 9,gt_PAPERS.lookup (nm i)=some (76+i.1):=by decide +kernel
theorem Yvb:ktab.lookup 76=some []/\ktab.lookup 77=some [T "road",T "road"]/\ktab.lookup 78=some [T "road"]/\ktab.lookup 79=some [T "road",T "road"]/\ktab.lookup 80=some [T "places"]/\ktab.lookup 81=some [T "source",T "places",T "places"]/\ktab.lookup 82=some [T "plan rows"]/\ktab.lookup 83=some [T "sum rows"]/\ktab.lookup 84=some [T "beacons",T "if rows"]:=by decide +kernel
theorem y0k(p:Pa):Ye7 gt_PAPERS (.str (paN p))=some (.adr (paA p)):=by
 match p with
 | .br=>exact lkA (Yd3 0)
 | .cl false _ _=>exact lkA (Yd3 1)
 | .cl true _ _=>exact lkA (Yd3 3)
 | .cr _=>exact lkA (Yd3 2)
 | .od _=>exact lkA (Yd3 4)
 | .lo _ _ _=>exact lkA (Yd3 5)
 | .pl .pl _ _=>exact lkA (Yd3 6)
 | .pl .su _ _=>exact lkA (Yd3 7)
 | .pl .ro h _=>exact absurd rfl h
 | .ro _ _=>exact lkA (Yd3 8)
theorem Yui{p:Pa}(h:OkPa p):Yb1 [.adr (paA p),.tup (paL p)]=some (.lst ((paW p).map D.str)):=by
 have cR:∀{a:List Say},OkR a->(cntW sayW a).length<=50000:=fun h=>qx (Yce h.1) (by lia)
 have cN:∀{B:Nat} {a:List Nat},OkN B a->(cntW num a).length<=50000:=fun h=>qx (Yce h.1) (by lia)
 have cW:∀{k:K3} {a:List Rw},OkRs a->(Yf5 k a).length<=50000:=fun h=>qx (Ye1 h) (by lia)
 obtain⟨t0,t1,t2,t3,t4,t5,t6,t7,t8⟩:=Yvb
 unfold Yb1
 match p with
 | .br=>exact Yk0 t0 [] rfl (by simp) fun _ h=>(nomatch h)
 | .cl false a b=>exact Yom t1 (Ymh h.1) (Ymh h.2) (cR h.1) (cR h.2)
 | .cl true a b=>exact Yom t3 (Ymh h.1) (Ymh h.2) (cR h.1) (cR h.2)
 | .cr a=>exact Yon t2 (Ymh h) (cR h)
 | .od a=>exact Yon t4 (Yk3 h) (cN h)
 | .lo s a b=>exact Yrv t5 (Yol (fr_k h.1)) (Yk3 h.2.1) (Yk3 h.2.2) (by simp) (cN h.2.1) (cN h.2.2)
 | .pl .pl _ rs=>exact Yon t6 (Yrx (q:=.pl) h) (cW h)
 | .pl .su _ rs=>exact Yon t7 (Yrx (q:=.su) h) (cW h)
 | .pl .ro h _=>exact absurd rfl h
 | .ro a rs=>exact Yom t8 (Yi7 h.1) (Yrx (q:=.ro) h.2) (cN h.1) (cW h.2)
theorem Ynl{p:Pa}(h:OkPa p):(paW p).length<=50000:=by
 match p with
 | .br=>exact Nat.zero_le _
 | .cl _ a b=>
   have h1:=Yce (w:=sayW) h.1.1
   have h2:=Yce (w:=sayW) h.2.1
   rw[paW,qw]
   lia
 | .cr a=>exact qx (Yce h.1) (by lia)
 | .od a=>exact qx (Yce h.1) (by lia)
 | .lo s a b=>
   have h1:=Yce (w:=num) h.2.1.1
   have h2:=Yce (w:=num) h.2.2.1
   rw[paW,qs,qw]
   lia
 | .pl k _ rs=>exact qx (Ye1 (k:=k) h) (by lia)
 | .ro a rs=>
   have h1:=Yce (w:=num) h.1.1
   have h2:=Ye1 (k:=.ro) h.2
   rw[paW,qw]
   lia
def Sh(l:List Str):Prop:=∀x∈l,x.length<=10
theorem Sh.app{a b:List Str}(h:Sh a)(h':Sh b):Sh (a++b):=fun x hx=>(qv hx).elim (h x) (h' x)
theorem Sh.cons{x:Str}{b:List Str}(h:x.length<=10)(h':Sh b):Sh (x::b):=fun y hy=>by
 cases hy with
 | head=>exact h
 | tail _ hy=>exact h' y hy
theorem Yi8{n:Nat}(h:n < 1000):(num n).length<=10:=qx (Ykz n h) (by decide)
theorem Yvc(b:Bool):(yesW b).length<=10:=by
 cases b
 ·exact qx (Nat.le_of_eq lenPM.2.2.2.2.1) (by decide)
 ·exact qx (Nat.le_of_eq lenPM.2.2.2.1) (by decide)
theorem Yry{s:Option Nat}(h:∀x,s=some x->x < 1000):(Ydk s).length<=10:=by
 cases s with
 | none=>exact qx (Nat.le_of_eq lenPM.2.2.1) (by decide)
 | some b=>exact Yi8 (h b rfl)
theorem y0l{s:Say}(h:s.1 < 1000):(sayW s).length<=10:=by
 have:=Ykz s.1 h
 have h1:=lenPM.1
 have h2:=lenPM.2.1
 rw[sayW,Yq1]
 split<;>lia
theorem Yvd{α:Type}{w:α->Str}{l:List α}(hl:l.length<=200)(h:∀a∈l,(w a).length<=10):Sh (cntW w l):=
 .cons (Yi8 (by lia)) fun x hx=>by
  obtain⟨a,ha,rfl⟩:=List.mem_map.mp hx
  exact h a ha
theorem Yrz:Sh []:=fun _ h=>(nomatch h)
theorem Ynm{a:List Say}(h:OkR a):Sh (cntW sayW a):=Yvd h.1 fun p hp=>y0l (lt_k (h.2 p hp))
theorem Yhb{B:Nat}{a:List Nat}(h:OkN B a)(hB:B<=1000:=by decide):Sh (cntW num a):=Yvd h.1 fun p hp=>Yi8 (by have:=h.2 p hp;lia)
theorem y12{k:K3}{r:Rw}(h:OkRw r):Sh (Yaz k r):=by
 obtain⟨a,s,xs,b⟩:=r
 cases k with
 | pl=>exact .cons (Yi8 (lt_k h.1)) (.cons (Yry (fr_k h.2.1)) (.cons (Yvc b) Yrz))
 | su=>exact .cons (Yi8 (lt_k h.1)) ((Yhb h.2.2).app (.cons (Yvc b) Yrz))
 | ro=>exact .cons (Yi8 (lt_k h.1)) (Yhb h.2.2)
theorem Yr0{k:K3}{rs:List Rw}(h:OkRs rs):Sh (Yf5 k rs):=.cons (Yi8 (by have:=h.1;lia)) fun x hx=>by
 obtain⟨r,hr,hx⟩:=List.mem_flatMap.mp hx
 exact y12 (h.2 r hr) x hx
theorem y0m{p:Pa}(h:OkPa p):Sh (paW p):=by
 match p with
 | .br=>exact Yrz
 | .cl _ a b=>exact(Ynm h.1).app (Ynm h.2)
 | .cr a=>exact Ynm h
 | .od a=>exact Yhb h
 | .lo s a b=>exact .cons (Yry (fr_k h.1)) ((Yhb h.2.1).app (Yhb h.2.2))
 | .pl k _ rs=>exact Yr0 h
 | .ro a rs=>exact(Yhb h.1).app (Yr0 h.2)
theorem Ygw:∀i,(nm i).length<=10:=by decide +kernel
theorem Yve(p:Pa):(paN p).length<=10:=by
 match p with
 | .br=>exact Ygw 0
 | .cl false _ _=>exact Ygw 1
 | .cl true _ _=>exact Ygw 3
 | .cr _=>exact Ygw 2
 | .od _=>exact Ygw 4
 | .lo _ _ _=>exact Ygw 5
 | .pl .pl _ _=>exact Ygw 6
 | .pl .su _ _=>exact Ygw 7
 | .pl .ro h _=>exact absurd rfl h
 | .ro _ _=>exact Ygw 8
theorem Yr1{s B:Nat}:∀{l:List Str},(∀x∈l,x.length<=B)->(l.map fun x:Str=>s+x.length).sum<=l.length * (s+B)
 | [],_=>by simp
 | x::l,h=>by
   have h1:=Yr1 (s:=s) (l:=l) fun y hy=>h y (.tail _ hy)
   have h2:=h x (.head _)
   rw[qy,List.sum_cons,qs,Nat.add_mul,Nat.one_mul]
   lia
def paS(p:Pa):Str:=Txt.join (T " ") (paN p::paW p)
theorem Yr2{p:Pa}(h:OkPa p){l:List D}(hl:l=(paN p::paW p).map D.str):Yl0 (T " ") [.lst l]=some (.str (paS p)):=by
 refine y0h hl ?_
 have h1:=Yr1 (s:=(T " ").length) (B:=10) ((y0m h).cons (Yve p))
 have h2:=Ynl h
 have h3:=lenPM.2.2.2.2.2
 rw[qs,h3]at h1
 rw[h3]
 lia
theorem Yuj(d:D)(l:List D):cutC (some 1) none (.tup (d::l))=some (.tup l):=by
 show some (D.tup (cutD (d::l) (some ((1:Nat):Int)) none))=_
 unfold cutD
 rw[HT.sIx_nat,HT.sIx_none,Nat.min_eq_left (by simp),List.take_of_length_le (by simp)]
 rfl
theorem Yi9{p:Pa}(h:OkPa p):Yb2 [paD p]=some (.str (paS p)):=by
 rw[Yb2,Yat (by rfl)]
 have hc:=Ycm (a:=[.str (paN p)]) (b:=(paW p).map D.str) (by have:=Ynl h;simp;lia)
 have hj:=Yr2 h (l:=[.str (paN p)]++(paW p).map D.str) rfl
 simp only[Qf,Qd]at hc hj
 have hs:cutC (some 1) none (paD p)=some (.tup (paL p)):=Yuj _ _
 have hi:ixD (paD p) (.int 0)=some (.str (paN p)):=by simp[paD]
 have hp:=Yui h
 generalize paD p=pd at hs hi
 simp[Yen,Yq,hs,y0k,hp,hc,hj,hi,-Yws]
theorem Yba{B:Nat}{a:List Nat}(h:OkN B a)(hB:B<=1000:=by decide):Yaa [numsD a]=some (.lst ((cntW num a).map D.str)):=by
 rw[Yaa,Yat (by rfl)]
 have hc:=Yqv (fe:=Ybh) (r:=[]) (enc:=nD) (fun x=>D.str (num x)) (l:=a) (fun x hx=>by
  have:=Yjr (b:=x) (by have:=h.2 x hx;lia)
  simp[Ybh,this])
 have hl:=h.1
 have hn:=Yjr (b:=a.length) (by lia)
 have hk:=Ycm (a:=[.str (num a.length)]) (b:=a.map fun s=>D.str (num s)) (by simp;lia)
 simp[Yc9,Yq,numsD,capR,hc,hn,hk,cntW,Function.comp_def]
theorem Yes{a:List Say}(h:OkR a):Yau [Ye5 a]=some (.lst ((cntW sayW a).map D.str)):=by
 rw[Yau,Yat (by rfl)]
 have hc:=Yqv (fe:=Ybu) (r:=[]) (enc:=sayD) (fun x=>D.str (sayW x)) (l:=a) (fun s hs=>by
  have h0:=Yjr (lt_k (h.2 s hs))
  have hn:=Ykz s.1 (lt_k (h.2 s hs))
  have h1:=Yu9 (a:=T "+") (b:=num s.1) (by rw[lenPM.1];decide) (by lia)
  have h2:=Yu9 (a:=T "-") (b:=num s.1) (by rw[lenPM.2.1];decide) (by lia)
  obtain⟨b,o⟩:=s
  cases o<;>simp[Ybu,sayD,h0,h1,h2,sayW])
 have hl:=h.1
 have hn:=Yjr (b:=a.length) (by lia)
 have hk:=Ycm (a:=[.str (num a.length)]) (b:=a.map fun s=>D.str (sayW s)) (by simp;lia)
 simp[Yeg,Yq,Ye5,capR,hc,hn,hk,cntW,Function.comp_def]
theorem Yja{s:Option Nat}(h:∀x,s=some x->x < 1000):Ybi [optD s]=some (.str (Ydk s)):=by
 rw[Ybi,Yat (by rfl)]
 cases s with
 | none=>simp[Yc7,Yq,optD,Ydk]
 | some b=>
   have:=Yjr (h b rfl)
   simp[Yc7,Yq,optD,Ydk,this]
@[simp] theorem at2(a b c:D):atI [a,b,c] 2=some c:=nrT rfl
@[simp] theorem at2'(a b c d:D):atI [a,b,c,d] 2=some c:=nrT rfl
@[simp] theorem at3(a b c d:D):atI [a,b,c,d] 3=some d:=nrT rfl
theorem Yet{k:K3}{rs:List Rw}(h:OkRs rs):Ya7 [.str (kW k),.tup (rs.map (rwD k))]=some (.lst ((Yf5 k rs).map D.str)):=by
 rw[Ya7,Yat (by rfl)]
 have hl:=h.1
 have hn:=Yjr (b:=rs.length) (by lia)
 obtain⟨ρ',e,y,rfl⟩:=Yhy (gt:=gSet 3) (fb:=Yaq) (rwD k) (fun pre ρ=>∃y,ρ=[some (.sh (.str (kW k))),some (.sh (.tup (rs.map (rwD k)))),some (.ow ((num rs.length::pre.flatMap (Yaz k)).map D.str)),y]) rs []
  [some (.sh (.str (kW k))),some (.sh (.tup (rs.map (rwD k)))),some (.ow [.str (num rs.length)]),none] ⟨none,rfl⟩ (by
   rintro q a r ρ e ⟨y,rfl⟩
   have e':rs=q++a::r:=e
   have hq:(q.flatMap (Yaz k)).length<=q.length * 210:=Ygv fun b hb=>Yru (h.2 b (by rw[e'];simp[hb]))
   have ha:=h.2 a (by rw[e'];simp)
   have hql:q.length<=200:=by
    have:=congrArg List.length e'
    rw[qw,qs]at this
    lia
   refine⟨_,_,rfl,?_,some (.sh (rwD k a)),rfl⟩
   rw[Ymg,<-Qf]
   generalize hL:num rs.length::q.flatMap (Yaz k)=L
   have hLl:L.length<=50000:=by rw[<-hL,qs];lia
   have hL1:L.length < 1000000:=by lia
   obtain⟨b,s,xs,o⟩:=a
   obtain⟨h1,h2,h3⟩:=ha
   have hb:=Yjr (lt_k h1)
   have hx:=Yce (w:=num) h3.1
   have hz:(cntW num xs).length<=201:=hx
   cases k with
   | pl=>
     have hf:=Yja (fr_k h2)
     have hc:∀w,catD (.lst (L.map D.str++[D.str (num b)])) (.lst [.str (Ydk s),.str w])=some (L.map D.str++[D.str (num b)]++[.str (Ydk s),.str w]):=fun w=>Ycm (by simp;lia)
     simp only[Qc,Qf,Qd]at hc
     cases o<;>simp[Yaq,kW,rwD,Yaz,hb,appD,hL1,hf,hc,yesW]
   | su=>
     have hf:=Yba h3
     unfold numsD at hf
     have hc:=Ycm (a:=L.map D.str++[D.str (num b)]) (b:=(cntW num xs).map D.str) (by simp;lia)
     have hL2:L.length+1+(cntW num xs).length < 1000000:=by lia
     have hL3:L.length+((cntW num xs).length+1) < 1000000:=by lia
     simp only[Qc,Qf,Qd]at hc
     cases o<;>simp[Yaq,kW,rwD,Yaz,hb,appD,hL1,hL2,hL3,hf,hc,yesW]
   | ro=>
     have hf:=Yba h3
     unfold numsD at hf
     have hc:=Ycm (a:=L.map D.str++[D.str (num b)]) (b:=(cntW num xs).map D.str) (by simp;lia)
     simp only[Qc,Qf,Qd]at hc
     simp[Yaq,kW,rwD,Yaz,hb,appD,hL1,hf,hc])
 rw[Qd]at e
 simp[Yei,Yq,hn,e,frz,frz1,Yf5]
theorem Yk5{p:Pa}(h:OkPa p):Ybm [paD p]=some (.lst ((paN p::paW p).map D.str)):=by
 have hcap:∀{α:Type} {w:α->Str} {l:List α},l.length<=200->(cntW w l).length<=201:=Yce
 rw[Ybm,Yat (by rfl)]
 have hcl:∀{i:Fin 9} {a b:List Say},i=1\/i=3->OkR a->OkR b->(y6 (Yq 3 [.tup [.str (nm i),Ye5 a,Ye5 b]])).bind endB=some (.lst ((nm i::(cntW sayW a++cntW sayW b)).map D.str)):=by
  intro i a b hi ha hb
  have h1:=Yes ha
  have h2:=Yes hb
  have l1:=hcap (w:=sayW) ha.1
  have l2:=hcap (w:=sayW) hb.1
  have c1:=Ycm (a:=[.str (nm i)]) (b:=(cntW sayW a).map D.str) (by simp;lia)
  have c2:=Ycm (a:=[.str (nm i)]++(cntW sayW a).map D.str) (b:=(cntW sayW b).map D.str) (by simp;lia)
  simp only[Qc,Qf,Qd]at c1 c2
  rcases hi with rfl | rfl<;>simp[y6,Yq,h1,h2,c1,c2,frz,frz1]
 match p with
 | .br=>simp[y6,Yq,paD,paN,paL,paW,frz,frz1]
 | .cl false a b=>exact hcl (.inl rfl) h.1 h.2
 | .cl true a b=>exact hcl (.inr rfl) h.1 h.2
 | .cr a=>
   have h1:=Yes h
   have l1:=hcap (w:=sayW) h.1
   have c1:=Ycm (a:=[.str (nm 2)]) (b:=(cntW sayW a).map D.str) (by simp;lia)
   simp only[Qc,Qf,Qd]at c1
   simp[y6,Yq,paD,paN,paL,paW,h1,c1,frz,frz1]
 | .od a=>
   have h1:=Yba h
   have l1:=hcap (w:=num) h.1
   have c1:=Ycm (a:=[.str (nm 4)]) (b:=(cntW num a).map D.str) (by simp;lia)
   simp only[Qc,Qf,Qd]at c1
   simp[y6,Yq,paD,paN,paL,paW,h1,c1,frz,frz1]
 | .lo s a b=>
   have h0:=Yja (fr_k h.1)
   have h1:=Yba h.2.1
   have h2:=Yba h.2.2
   have l1:=hcap (w:=num) h.2.1.1
   have l2:=hcap (w:=num) h.2.2.1
   have c1:=Ycm (a:=[.str (nm 5),.str (Ydk s)]) (b:=(cntW num a).map D.str) (by simp;lia)
   have c2:=Ycm (a:=[.str (nm 5),.str (Ydk s)]++(cntW num a).map D.str) (b:=(cntW num b).map D.str) (by simp;lia)
   simp only[Qc,Qf,Qd]at c1 c2
   simp[y6,Yq,paD,paN,paL,paW,h0,h1,h2,c1,c2,frz,frz1,appD]
 | .pl .pl _ rs=>
   have h1:=Yet (k:=.pl) h
   have l1:=Ye1 (k:=.pl) h
   have c1:=Ycm (a:=[.str (nm 6)]) (b:=(Yf5 .pl rs).map D.str) (by simp;lia)
   simp only[Qc,Qf,Qd]at c1
   simp only[kW]at h1
   simp[y6,Yq,paD,paN,paL,paW,h1,c1,frz,frz1,kW]
 | .pl .su _ rs=>
   have h1:=Yet (k:=.su) h
   have l1:=Ye1 (k:=.su) h
   have c1:=Ycm (a:=[.str (nm 7)]) (b:=(Yf5 .su rs).map D.str) (by simp;lia)
   simp only[Qc,Qf,Qd]at c1
   simp only[kW]at h1
   simp[y6,Yq,paD,paN,paL,paW,h1,c1,frz,frz1,kW]
 | .pl .ro h _=>exact absurd rfl h
 | .ro a rs=>
   have h0:=Yba h.1
   have h1:=Yet (k:=.ro) h.2
   have l0:=hcap (w:=num) h.1.1
   have l1:=Ye1 (k:=.ro) h.2
   have c1:=Ycm (a:=[.str (nm 8)]) (b:=(cntW num a).map D.str) (by simp;lia)
   have c2:=Ycm (a:=[.str (nm 8)]++(cntW num a).map D.str) (b:=(Yf5 .ro rs).map D.str) (by simp;lia)
   simp only[Qc,Qf,Qd]at c1 c2
   simp only[kW]at h1
   simp[y6,Yq,paD,paN,paL,paW,h0,h1,c1,c2,frz,frz1]
end Lw
namespace Lw
open PySem L2 M Bk Builtin Builtin.Str
abbrev FIG:Str:=Str.ofString "0123456789"
def y0n(n:Nat):Bool:=(num n).cps.all (· < 128)&&decide (1<=(num n).length)&&decide ((num n).length<=3)&&(num n).cps.toList.all (fun c=>!(occurrences FIG ⟨#[c]⟩ 0 FIG.length 1).isEmpty)&&(decide ((num n).length<=1)||!((num n).cps.toList.head?==some 48))
theorem y0o:∀n,n < 201->y0n n=true:=by decide +kernel
theorem Yuk{c:Nat}(h:¬c=48):¬(⟨#[c]⟩:Str)=Str.ofString "0":=fun e=>h (by
 have e2:Str.ofString "0"=⟨#[48]⟩:=by decide +kernel
 rw[e2]at e
 injection e with e
 injection e with e
 injection e with e)
theorem Ygx{n:Nat}(h:n < 201):Yby [.str (num n)]=some (.int n):=by
 rw[Yby,Yat (by rfl)]
 have hok:=y0o n h
 unfold y0n at hok
 simp only[Qg,Bool.or_eq_true,decide_eq_true_eq,List.all_eq_true]at hok
 obtain⟨⟨⟨⟨h1,h2⟩,h3⟩,h4⟩,h5⟩:=hok
 have hl:lenS [.str (num n)]=some (.int ((num n).length:Int)):=if_pos (by lia)
 have hc:Yrd (.str (num n))=some ((num n).cps.toList.map fun c=>D.str ⟨#[c]⟩):=if_pos ⟨h1,by lia⟩
 have hi:intS [.str (num n)]=some (.int (n:Int)):=by
  show(if (num n).length<=640 then (intText? (num n)).map D.int else none)=_
  rw[if_pos (by lia),show num n=Str.ofString (toString (n:Int)) from rfl,W.KIN.num_reads (by lia) (by lia)]
  rfl
 have hm:=Yqv (fe:=Yd8) (r:=[]) (enc:=fun c:Nat=>D.str ⟨#[c]⟩) (fun _=>.bl true) (l:=(num n).cps.toList) (fun c hc=>by
  have:=h4 c hc
  show(inS (.str ⟨#[c]⟩) (.str FIG)).map D.bl=_
  show some (D.bl (!(occurrences FIG ⟨#[c]⟩ 0 FIG.length 1).isEmpty))=_
  rw[this])
 have h2':(1:Int)<=((num n).length:Int):=by lia
 have h3':((num n).length:Int)<=3:=by lia
 by_cases h6:(num n).length<=1
 ·have h6':¬(1:Int) < ((num n).length:Int):=by lia
  simp[Ydz,Yq,capR,hl,hc,hm,hi,h2',h3',h6',ch3]
 ·have h6':(1:Int) < ((num n).length:Int):=by lia
  obtain⟨c,hc0⟩:∃c,(num n).cps.toList.head?=some c:=by
   cases e:(num n).cps.toList with
   | nil=>
     have:(num n).cps.toList.length=0:=by rw[e];rfl
     rw[qj]at this
     exact absurd this (by have h:(num n).cps.size=(num n).length:=rfl;lia)
   | cons c l=>exact⟨c,rfl⟩
  have hne:¬c=48:=fun z=>by
   rcases h5 with h5 | h5
   ·exact h6 h5
   ·rw[hc0,z]at h5
    exact absurd h5 (by decide)
  have hx:ixS (.str (num n)) (.int 0)=some (.str ⟨#[c]⟩):=by
   show(if (num n).length<=1000000 then (atI (num n).cps.toList 0).map (fun c=>D.str ⟨#[c]⟩)else none)=_
   rw[if_pos (by lia)]
   cases e:(num n).cps.toList with
   | nil=>rw[e]at hc0;cases hc0
   | cons d l=>
     rw[e]at hc0
     cases hc0
     rw[Yti]
     rfl
  have hz:=Yuk hne
  simp[Ydz,Yq,capR,hl,hc,hm,hi,h2',h3',h6',ch3,hx,Yhu,hz]
theorem Ynn{n:Nat}(h:n < 60):Ydy [.int n]=some (.bl true):=by
 rw[Ydy,Yat (by rfl)]
 have h1:((n:Nat):Int) < 60:=by lia
 have h0:(0:Int)<=((n:Nat):Int):=by lia
 simp[Yiu,Yq,isiD,Yc8,Yke,ch3,h0,h1]
theorem Yd4{n:Nat}(h:n < 60):Ybz [.str (num n)]=some (.int n):=by
 rw[Ybz,Yat (by rfl)]
 have h1:=Ygx (n:=n) (by lia)
 have h2:=Ynn h
 simp[Ygj,Yq,h1,h2]
theorem Yhj{n:Nat}(h:n < 201):Ybv [.str (num n)]=some (.int n):=by
 rw[Ybv,Yat (by rfl)]
 have h1:=Ygx h
 have h2:¬(200:Int) < (n:Int):=by lia
 simp[Yhg,Yq,h1,h2,isN,Yif]
theorem Yds{d:D}(h:d≠.non):Yb3 [d]=some d:=by
 rw[Yb3,Yat (by rfl)]
 cases d<;>first | exact absurd rfl h | simp[Yl9,Yq,isN,Yif]
theorem Yr3:∀n,n < 60->∀b:Bool,(sayW (n,b)).length<=10/\Txt.slice (sayW (n,b)) (some 1) none=num n/\atI (sayW (n,b)).cps.toList 0=some (if b=true then 43 else 45):=by decide +kernel
theorem Ype:(⟨#[43]⟩:Str)∈Yan/\(⟨#[45]⟩:Str)∈Yan/\gt_TRUTHS_BY_MARK.lookup ⟨#[43]⟩=some true/\gt_TRUTHS_BY_MARK.lookup ⟨#[45]⟩=some false:=by decide +kernel
theorem Yk6{s:Say}(h:s.1 < 60):Yct [.str (sayW s)]=some (sayD s):=by
 rw[Yct,Yat (by rfl)]
 obtain⟨n,b⟩:=s
 obtain⟨f1,f2,f3⟩:=Yr3 n h b
 have hc:cutS 1 (.str (sayW (n,b)))=some (.str (num n)):=by
  show(if _ then some (D.str (Txt.slice (sayW (n,b)) (some 1) none))else none)=_
  rw[if_pos (by lia),f2]
 have hb:=Yd4 (n:=n) h
 obtain⟨m1,m2,m3,m4⟩:=Ype
 have hx:ixS (.str (sayW (n,b))) (.int 0)=some (.str ⟨#[if b=true then 43 else 45]⟩):=by
  show(if _ then (atI (sayW (n,b)).cps.toList 0).map (fun c=>D.str ⟨#[c]⟩)else none)=_
  rw[if_pos (by lia),f3]
  rfl
 cases b with
 | true=>
   have i1:inG true Yan (.str ⟨#[43]⟩)=some false:=Yhv m1
   have l1:Yl6 gt_TRUTHS_BY_MARK (.str ⟨#[43]⟩)=some (.bl true):=by
    show(gt_TRUTHS_BY_MARK.lookup ⟨#[43]⟩).map _=_
    rw[m3]
    rfl
   simp at hx
   simp[Yd0,Yq,hc,hb,hx,i1,l1,isN,Yif,sayD]
 | false=>
   have i1:inG true Yan (.str ⟨#[45]⟩)=some false:=Yhv m2
   have l1:Yl6 gt_TRUTHS_BY_MARK (.str ⟨#[45]⟩)=some (.bl false):=by
    show(gt_TRUTHS_BY_MARK.lookup ⟨#[45]⟩).map _=_
    rw[m4]
    rfl
   simp at hx
   simp[Yd0,Yq,hc,hb,hx,i1,l1,isN,Yif,sayD]
end Lw
namespace Lw
open PySem L2 M Bk
theorem rne:¬T "saying"=T "source"/\¬T "truth"=T "source"/\¬T "truth"=T "saying"/\¬T "place"=T "source"/\¬T "place"=T "saying"/\¬T "place"=T "truth"/\¬T "beacon"=T "source"/\¬T "beacon"=T "saying"/\¬T "beacon"=T "truth"/\¬T "beacon"=T "place"/\¬T "source"=T "saying"/\¬T "source"=T "truth"/\¬T "source"=T "place":=by decide +kernel
theorem word_facts:gt_TRUTHS_BY_WORD.lookup (T "yes")=some true/\gt_TRUTHS_BY_WORD.lookup (T "no")=some false/\∀n,n < 60->¬num n=T "none":=by decide +kernel
theorem y13{s:Say}(h:s.1 < 60):y7 [.str (T "saying"),.str (sayW s)]=some (sayD s):=by
 rw[y7,Yat (by rfl)]
 have h1:=Yk6 h
 have h2:=Yds (d:=sayD s) (by unfold sayD;simp)
 simp[Ybg,Yq,Yhu,rne.1,h1,h2]
theorem Yxo(b:Bool):y7 [.str (T "truth"),.str (yesW b)]=some (.bl b):=by
 rw[y7,Yat (by rfl)]
 obtain⟨_,r2,r3,_⟩:=rne
 have h1:Yua gt_TRUTHS_BY_WORD (.str (yesW b))=some (.bl b):=by
  show some (match gt_TRUTHS_BY_WORD.lookup (yesW b)with | some b=>D.bl b | none=>.non)=_
  cases b
  ·rw[show yesW false=T "no" from rfl,word_facts.2.1]
  ·rw[show yesW true=T "yes" from rfl,word_facts.1]
 have h2:=Yds (d:=.bl b) (by simp)
 simp[Ybg,Yq,Yhu,r2,r3,h1,h2]
theorem Yxp{n:Nat}(h:n < 201):y7 [.str (T "place"),.str (num n)]=some (nD n):=by
 rw[y7,Yat (by rfl)]
 obtain⟨_,_,_,r1,r2,r3,_⟩:=rne
 have h1:=Yhj h
 have h2:=Yds (d:=.int n) (by simp)
 simp[Ybg,Yq,Yhu,r1,r2,r3,h1,h2]
theorem Yoo{n:Nat}(h:n < 60):y7 [.str (T "beacon"),.str (num n)]=some (nD n):=by
 rw[y7,Yat (by rfl)]
 obtain⟨_,_,_,_,_,_,r1,r2,r3,r4,_⟩:=rne
 have h1:=Yd4 h
 have h2:=Yds (d:=.int n) (by simp)
 simp[Ybg,Yq,Yhu,r1,r2,r3,r4,h1,h2]
theorem Yul{s:Option Nat}(h:∀x,s=some x->x < 60):y7 [.str (T "source"),.str (Ydk s)]=some (optD s):=by
 rw[y7,Yat (by rfl)]
 obtain⟨_,_,_,_,_,_,_,_,_,_,r1,r2,r3⟩:=rne
 cases s with
 | none=>simp[Ybg,Yq,Yhu,Ydk,optD]
 | some n=>
   have h1:=Yd4 (h n rfl)
   have h2:=Yds (d:=.int n) (by simp)
   have h3:=word_facts.2.2 n (h n rfl)
   simp[Ybg,Yq,Yhu,Ydk,optD,r1,r2,r3,h1,h2,h3]
theorem y0p{τ:Type}{dz:τ->D}{l i:Nat}{ρ:Ro}{t:τ}(h:ρ[i]?=some (some (.sh (.adr l)))):thZ dz l i ρ t=some (ρ.set i (some (.sh (dz t)))):=by
 unfold thZ
 rw[h]
 exact if_pos rfl
theorem Yr4{τ:Type}{dz:τ->D}{l i:Nat}{f:Ro->Option D}{ρ:Ro}{t:τ}{d:D}(h:ρ[i]?=some (some (.sh (.adr l))))(h2:f (ρ.set i (some (.sh (dz t))))=some d)(hs:Ytd d=true):retZ dz l i f ρ t=some (.rt d t):=by
 unfold retZ
 rw[y0p h,qd,h2,qd]
 exact if_pos hs
theorem y0q(ws:List Str)(n:Int):fldD "Reader" "place" (rdD ws n)=some (.int n):=by
 show(if ("Reader":Str)="Reader" then (rks.zip [D.lst (ws.map D.str),.int n]).lookup ("place":Str)else none)=_
 rw[if_pos rfl]
 have h:(("place":Str)=="words")=false:=by decide +kernel
 have h2:(("place":Str)=="place")=true:=by decide +kernel
 simp[List.lookup,h,h2]
theorem y0r(ws:List Str)(n:Int):fldD "Reader" "words" (rdD ws n)=some (.lst (ws.map D.str)):=by
 show(if ("Reader":Str)="Reader" then (rks.zip [D.lst (ws.map D.str),.int n]).lookup ("words":Str)else none)=_
 rw[if_pos rfl]
 have h2:(("words":Str)=="words")=true:=by decide +kernel
 simp[List.lookup,h2]
theorem Yop(ws:List Str)(n:Nat):Ybc ws [] (n:Int)=some (.bl (decide (n=ws.length)),(n:Int)):=by
 refine Ydx fun l=>?_
 have hst:Yq 1 [.adr l]=[some (.sh (.adr l))]:=rfl
 rw[hst]
 unfold Yb4
 refine Yr4 rfl ?_ rfl
 have h1:=y0q ws n
 have h2:=y0r ws n
 generalize rdD ws n=d at *
 simp[h1,h2]
theorem Yvf{τ:Type}{f:Ro->τ->Option (Bool × τ)}{fs gs:TmV τ}{ρ:Ro}{t t':τ}{b:Bool}(h:f ρ t=some (b,t')):ifE f fs gs ρ t=if b=true then fs ρ t' else gs ρ t':=by
 unfold ifE
 rw[h]
 rfl
theorem Yvg{τ:Type}{f:TeV τ}{ρ:Ro}{t t':τ}{b:Bool}(h:f ρ t=some (.bl b,t')):blE f ρ t=some (b,t'):=by
 unfold blE
 rw[h]
 rfl
theorem Yxq{τ:Type}{f:Ro->τ->Option (Bool × τ)}{ρ:Ro}{t t':τ}{b:Bool}(h:f ρ t=some (b,t')):notE f ρ t=some (!b,t'):=by
 unfold notE
 rw[h]
 rfl
theorem Yk7{ws:List Str}{n:Nat}{w:Str}(h:ws[n]?=some w):Yax ws [] (n:Int)=some (.str w,((n+1:Nat):Int)):=by
 have hlt:n < ws.length:=by
  rcases Nat.lt_or_ge n ws.length with z | z
  ·exact z
  ·rw[List.getElem?_eq_none z]at h
   cases h
 refine Ydx fun l=>?_
 have hst:Yq 1 [.adr l]=[some (.sh (.adr l))]:=rfl
 rw[hst]
 unfold Ydh
 rw[Yah (ρ':=[some (.sh (.adr l))]) (t':=(n:Int))]
 ·unfold Yeb
  rw[Yah (ρ':=[some (.sh (.adr l))]) (t':=((n+1:Nat):Int))]
  ·unfold Yea
   refine Yr4 rfl ?_ rfl
   have h1:=y0q ws ((n+1:Nat):Int)
   have h2:=y0r ws ((n+1:Nat):Int)
   have h3:atI (ws.map D.str) (((n+1:Nat):Int) - 1)=some (.str w):=Yzz (j:=n) (by lia) (by rw[qz,h];rfl)
   generalize ((n+1:Nat):Int)=m at *
   generalize rdD ws m=d at *
   simp[h1,h2,h3]
  ·unfold incR
   show(if l=l then some (OutW.nx _ ((n:Int)+1))else none)=_
   rw[if_pos rfl]
   rfl
 ·rw[Yvf (Yvg ((Ybk rfl).trans ((Yb7 (ds:=[]) rfl).trans (Yop ws n))))]
  have:decide (n=ws.length)=false:=decide_eq_false (by lia)
  rw[this]
  rfl
def At(ws:List Str)(n:Nat)(l:List Str):Prop:=∃r,ws.drop n=l++r
theorem At.head{ws:List Str}{n:Nat}{w:Str}{l:List Str}(h:At ws n (w::l)):ws[n]?=some w:=by
 obtain⟨r,h⟩:=h
 have e:(ws.drop n)[0]?=some w:=by rw[h];rfl
 rw[List.getElem?_drop]at e
 exact e
theorem At.app{ws:List Str}{n:Nat}{a b:List Str}(h:At ws n (a++b)):At ws n a/\At ws (n+a.length) b:=by
 obtain⟨r,h⟩:=h
 refine⟨⟨b++r,by rw[h,Qc]⟩,r,?_⟩
 rw[<-List.drop_drop,h,Qc,List.drop_left]
theorem At.tail{ws:List Str}{n:Nat}{w:Str}{l:List Str}(h:At ws n (w::l)):At ws (n+1) l:=(At.app (a:=[w]) h).2
theorem Yhk{τ:Type}{x:Addr}{ρ:Ro}{t t':τ}{d:D}{ga:Ro->Option (List D)}{ds:List D}{g:List D->τ->Option (D × τ)}(h0:ρ[1]?=some (some (.sh (.adr x))))(h1:ga ρ=some ds)(h2:g ds t=some (d,t')):Yac x 1 (Ya0 ga g) ρ t=some (d,t'):=
 (Ybk h0).trans ((Yb7 h1).trans h2)
theorem Yhz{τ:Type}{ga:TaV τ}{m:List D->Option D}{ρ:Ro}{t t':τ}{ds:List D}{d:D}(h1:ga ρ t=some (ds,t'))(h2:m ds=some d):Yis ga m ρ t=some (d,t'):=by
 unfold Yis
 rw[h1,qd,h2]
 rfl
theorem Yno{k:Nat}{ws:List Str}{ds:List D}{n n':Int}{d:D}(h:∀l,Ycb ws (Yo k ws) l (Yq 4 (ds++[.adr l])) n=some (.rt d n')):Yl (k+1) ws ds n=some (d,n'):=by
 rw[Yl]
 exact Yq5 h
theorem y0s{k:Nat}{ws:List Str}{n:Nat}{form w:Str}{d:D}(h1:inG true y9 (.str form)=some true)(h2:inG true Ydg (.str form)=some true)(ha:At ws n [w])(hw:y7 [.str form,.str w]=some d):Yl (k+1) ws [.str form] (n:Int)=some (d,((n+1:Nat):Int)):=by
 refine Yno fun l=>?_
 have hst:Yq 4 ([.str form]++[.adr l])=[some (.sh (.str form)),some (.sh (.adr l)),none,none]:=rfl
 rw[hst]
 unfold Ycb
 refine Yni (by simp[h1,h2]) ?_
 exact Ydi (Yhz (y8 (Yar rfl) (y8 (Yhk rfl rfl (Yk7 ha.head)) rfl)) hw)
theorem Yr5{k:Nat}{ws:List Str}{n m:Nat}{form:Str}{l:Addr}{r:Option (OutW Int)}(h12:inG true y9 (.str form)=some false\/(inG true y9 (.str form)=some true/\inG true Ydg (.str form)=some false))(ha:ws[n]?=some (num m))(hm:m<=200)
 (h:seqW (fun ρ t=>forW (gSet 3) (Ya8 ws (Yo k ws) l) ((List.range m).map fun i=>D.int (0+(i:Nat))) ρ t) (Ycu ws (Yo k ws) l) [some (.sh (.str form)),some (.sh (.adr l)),some (.ow []),none] ((n+1:Nat):Int)=r) :
 Ycb ws (Yo k ws) l [some (.sh (.str form)),some (.sh (.adr l)),none,none] (n:Int)=r:=by
 unfold Ycb
 rw[Ynh (by
  rcases h12 with h1 | ⟨h1,h2⟩
  ·simp[h1]
  ·simp[h1,h2])]
 unfold Ygn
 rw[Yah (Yci (ρ':=[some (.sh (.str form)),some (.sh (.adr l)),some (.ow []),none]) (by simp))]
 unfold Ygm
 have hc:Yis (Ya6 (Yis (Ya6 (Yac l 1 (Ya0 aNil (Yax ws))) nilE) Ybv) nilE) Yb3 [some (.sh (.str form)),some (.sh (.adr l)),some (.ow []),none] (n:Int)=some (.int (m:Int),((n+1:Nat):Int)):=
  Yhz (y8 (Yhz (y8 (Yhk rfl rfl (Yk7 ha)) rfl) (Yhj (n:=m) (by lia))) rfl) (Yds (by simp))
 rw[<-h]
 unfold seqW
 rw[Yng (m:=m) (by lia) hc]
theorem Yjb{k:Nat}{ws:List Str}{n:Nat}{form leaf:Str}{α:Type}{enc:α->D}{w:α->Str}{l:List α}(h1:form∈y9)(h2:Ylr gt_SEVERAL (.str form)=some (.str leaf))(hl:l.length<=200)(ha:At ws n (cntW w l))(hw:∀a∈l,y7 [.str leaf,.str (w a)]=some (enc a)) :
 Yl (k+1) ws [.str form] (n:Int)=some (.tup (l.map enc),((n+(cntW w l).length:Nat):Int)):=by
 refine Yno fun x=>?_
 have hst:Yq 4 ([.str form]++[.adr x])=[some (.sh (.str form)),some (.sh (.adr x)),none,none]:=rfl
 rw[hst]
 refine Yr5 (.inl (Yhv h1)) ha.head hl ?_
 have i1:inG false y9 (.str form)=some true:=Yhv h1
 obtain⟨ρ',t',e,y,rfl,rfl⟩:=Ykw (gt:=gSet 3) (fb:=Ya8 ws (Yo k ws) x) (fun i:Nat=>D.int (0+(i:Nat))) (fun pre ρ t=>∃y,ρ=[some (.sh (.str form)),some (.sh (.adr x)),some (.ow ((l.take pre.length).map enc)),y]/\t=((n+1+pre.length:Nat):Int)) (List.range l.length) []
  [some (.sh (.str form)),some (.sh (.adr x)),some (.ow []),none] ((n+1:Nat):Int) ⟨none,rfl,rfl⟩ (by
   rintro q i r ρ t e ⟨y,rfl,rfl⟩
   have hq:q.length < l.length:=by
    have:=congrArg List.length e
    simp at this
    lia
   have hget:ws[n+1+q.length]?=some (w l[q.length]):=by
    have hs:cntW w l=(num l.length::(l.take q.length).map w)++((l.drop q.length).map w):=by
     unfold cntW
     rw[Qf,<-List.map_append,List.take_append_drop]
    rw[hs]at ha
    have h9:=ha.app.2
    rw[qs,qf,List.length_take,Nat.min_eq_left (by lia),List.drop_eq_getElem_cons hq,qy]at h9
    have:=h9.head
    rw[show n+(q.length+1)=n+1+q.length by lia]at this
    exact this
   have hti:=Yk7 hget
   have hwi:=hw l[q.length] (List.getElem_mem hq)
   have hs:l.take (q++[i]).length=l.take q.length++[l[q.length]]:=by
    rw[qw,List.length_singleton,List.take_succ_eq_append_getElem hq]
   refine⟨_,[some (.sh (.str form)),some (.sh (.adr x)),some (.ow ((l.take q.length).map enc++[enc l[q.length]])),some (.sh (.int (0+(i:Nat))))],((n+1+q.length+1:Nat):Int),rfl,?_,some (.sh (.int (0+(i:Nat)))),by rw[hs,List.map_append];rfl,by simp;lia⟩
   unfold Ya8
   rw[Yrk (by simp[gSet,i1])]
   exact Yky rfl (by rw[qf,List.length_take];lia) (Yhz (y8 (Yar (d:=.str leaf) (by simp[gSet,h2])) (y8 (Yhk rfl rfl hti) rfl)) hwi))
 rw[Qd,List.length_range,List.take_length]at e
 rw[Yah e]
 unfold Ycu
 rw[Yda (d:=.tup (l.map enc)) (by simp)]
 congr 3
 unfold cntW
 simp
 lia
theorem Yr6{k:Nat}{ws:List Str}{n:Nat}{form:Str}{p:Addr}{α:Type}{enc:α->D}{w:α->List Str}{l:List α}(h1:¬form∈y9)(h2:form∈Ydg)(h3:Ye7 gt_ROWS (.str form)=some (.adr p))(hl:l.length<=200)(ha:At ws n (num l.length::l.flatMap w))
 (hw:∀a∈l,∀n,At ws n (w a)->Yo k ws [.adr p] (n:Int)=some (enc a,((n+(w a).length:Nat):Int))) :
 Yl (k+1) ws [.str form] (n:Int)=some (.tup (l.map enc),((n+(num l.length::l.flatMap w).length:Nat):Int)):=by
 refine Yno fun x=>?_
 have hst:Yq 4 ([.str form]++[.adr x])=[some (.sh (.str form)),some (.sh (.adr x)),none,none]:=rfl
 rw[hst]
 refine Yr5 (.inr ⟨Yk1 h1,Yhv h2⟩) ha.head hl ?_
 have i1:inG false y9 (.str form)=some false:=Yk1 h1
 obtain⟨ρ',t',e,y,rfl,rfl⟩:=Ykw (gt:=gSet 3) (fb:=Ya8 ws (Yo k ws) x) (fun i:Nat=>D.int (0+(i:Nat))) (fun pre ρ t=>∃y,ρ=[some (.sh (.str form)),some (.sh (.adr x)),some (.ow ((l.take pre.length).map enc)),y]/\t=((n+1+((l.take pre.length).flatMap w).length:Nat):Int)) (List.range l.length) []
  [some (.sh (.str form)),some (.sh (.adr x)),some (.ow []),none] ((n+1:Nat):Int) ⟨none,rfl,rfl⟩ (by
   rintro q i r ρ t e ⟨y,rfl,rfl⟩
   have hq:q.length < l.length:=by
    have:=congrArg List.length e
    simp at this
    lia
   have hat:At ws (n+1+((l.take q.length).flatMap w).length) (w l[q.length]):=by
    have hs:l.flatMap w=(l.take q.length).flatMap w++(w l[q.length]++(l.drop (q.length+1)).flatMap w):=by
     rw[<-List.flatMap_cons,<-List.drop_eq_getElem_cons hq,<-List.flatMap_append,List.take_append_drop]
    rw[hs]at ha
    exact ha.tail.app.2.app.1
   have hwi:=hw l[q.length] (List.getElem_mem hq) _ hat
   have hs:l.take (q++[i]).length=l.take q.length++[l[q.length]]:=by
    rw[qw,List.length_singleton,List.take_succ_eq_append_getElem hq]
   refine⟨_,[some (.sh (.str form)),some (.sh (.adr x)),some (.ow ((l.take q.length).map enc++[enc l[q.length]])),some (.sh (.int (0+(i:Nat))))],((n+1+((l.take q.length).flatMap w).length+(w l[q.length]).length:Nat):Int),rfl,?_,some (.sh (.int (0+(i:Nat)))),by rw[hs,List.map_append];rfl,by rw[hs,Ymg,qw,Nat.add_assoc]⟩
   unfold Ya8
   rw[Ypc (by simp[gSet,i1])]
   exact Yky rfl (by rw[qf,List.length_take];lia) (Yhk rfl (ds:=[.adr p]) (by simp[gSet,h3]) hwi))
 rw[Qd,List.length_range,List.take_length]at e
 rw[Yah e]
 unfold Ycu
 rw[Yda (d:=.tup (l.map enc)) (by simp)]
 congr 3
 rw[qs]
 lia
theorem Yvh{k:Nat}{ws:List Str}{l:Addr}:∀(ps:List (D × Str × List Str)) (n:Nat),At ws n (ps.flatMap (·.2.2))->(∀a∈ps,∀n,At ws n a.2.2->Yl k ws [.str a.2.1] (n:Int)=some (a.1,((n+a.2.2.length:Nat):Int)))->
 Yfo (gSet 0) (Yb6 ws (Yl k ws) l) [none,some (.sh (.adr l))] (ps.map fun a=>D.str a.2.1) (n:Int)=some (ps.map (·.1),((n+(ps.flatMap (·.2.2)).length:Nat):Int))
 | [],n,_,_=>rfl
 | a::ps,n,ha,h=>by
   have ha':At ws n (a.2.2++ps.flatMap (·.2.2)):=ha
   have h1:=h a (.head _) n ha'.app.1
   have h2:=Yvh (l:=l) ps (n+a.2.2.length) ha'.app.2 fun b hb=>h b (.tail _ hb)
   rw[qy,Yfo]
   show(Yb6 ws (Yl k ws) l [some (.sh (.str a.2.1)),some (.sh (.adr l))] (n:Int)).bind _=_
   have h3:Yb6 ws (Yl k ws) l [some (.sh (.str a.2.1)),some (.sh (.adr l))] (n:Int)=some (a.1,((n+a.2.2.length:Nat):Int)):=Yhk rfl rfl h1
   rw[h3,qd]
   show(Yfo _ _ _ _ ((n+a.2.2.length:Nat):Int)).map _=_
   rw[h2]
   show some (a.1::ps.map (·.1),_)=_
   rw[List.flatMap_cons,qw,Nat.add_assoc]
   rfl
theorem Yk8{k:Nat}{ws:List Str}{n:Nat}{p:Addr}{ss:List Str}(h:ktab.lookup p=some ss)(ps:List (D × Str × List Str))(hs:ss=ps.map (·.2.1))(hl:ps.length<=3)(ha:At ws n (ps.flatMap (·.2.2)))(hw:∀a∈ps,∀n,At ws n a.2.2->Yl k ws [.str a.2.1] (n:Int)=some (a.1,((n+a.2.2.length:Nat):Int))) :
 Yo (k+1) ws [.adr p] (n:Int)=some (.tup (ps.map (·.1)),((n+(ps.flatMap (·.2.2)).length:Nat):Int)):=by
 rw[Yo]
 refine Yq5 fun l=>?_
 have hst:Yq 2 ([.adr p]++[.adr l])=[some (.sh (.adr p)),some (.sh (.adr l))]:=rfl
 rw[hst]
 unfold Yeo
 refine Ydi (Ydj ?_ (by rw[qf];lia))
 unfold Yok
 have ht:b1 (getV 0) (tabD ktab) [some (.sh (.adr p)),some (.sh (.adr l))]=some (ps.map fun a=>D.str a.2.1):=by
  show(ktab.lookup p).map (fun ss=>ss.map D.str)=_
  rw[h,hs,Option.map_some,List.map_map]
  rfl
 rw[ht,qd]
 exact Yvh ps n ha hw
theorem q3{k:Nat}{ws:List Str}{n:Nat}{p:Addr}{s1 s2 s3:Str}{d1 d2 d3:D}{w1 w2 w3:List Str}(h:ktab.lookup p=some [s1,s2,s3])(ha:At ws n (w1++(w2++w3)))(h1:∀n,At ws n w1->Yl k ws [.str s1] (n:Int)=some (d1,((n+w1.length:Nat):Int)))(h2:∀n,At ws n w2->Yl k ws [.str s2] (n:Int)=some (d2,((n+w2.length:Nat):Int)))(h3:∀n,At ws n w3->Yl k ws [.str s3] (n:Int)=some (d3,((n+w3.length:Nat):Int))) :
 Yo (k+1) ws [.adr p] (n:Int)=some (.tup [d1,d2,d3],((n+(w1++(w2++w3)).length:Nat):Int)):=by
 have:=Yk8 (n:=n) h [(d1,s1,w1),(d2,s2,w2),(d3,s3,w3)] rfl (by simp) (by simpa using ha) (by
  intro a ha
  simp at ha
  rcases ha with rfl | rfl | rfl
  ·exact h1
  ·exact h2
  ·exact h3)
 simpa using this
theorem q2{k:Nat}{ws:List Str}{n:Nat}{p:Addr}{s1 s2:Str}{d1 d2:D}{w1 w2:List Str}(h:ktab.lookup p=some [s1,s2])(ha:At ws n (w1++w2))(h1:∀n,At ws n w1->Yl k ws [.str s1] (n:Int)=some (d1,((n+w1.length:Nat):Int)))(h2:∀n,At ws n w2->Yl k ws [.str s2] (n:Int)=some (d2,((n+w2.length:Nat):Int))) :
 Yo (k+1) ws [.adr p] (n:Int)=some (.tup [d1,d2],((n+(w1++w2).length:Nat):Int)):=by
 have:=Yk8 (n:=n) h [(d1,s1,w1),(d2,s2,w2)] rfl (by simp) (by simpa using ha) (by
  intro a ha
  simp at ha
  rcases ha with rfl | rfl
  ·exact h1
  ·exact h2)
 simpa using this
theorem q1{k:Nat}{ws:List Str}{n:Nat}{p:Addr}{s1:Str}{d1:D}{w1:List Str}(h:ktab.lookup p=some [s1])(ha:At ws n w1)(h1:∀n,At ws n w1->Yl k ws [.str s1] (n:Int)=some (d1,((n+w1.length:Nat):Int))) :
 Yo (k+1) ws [.adr p] (n:Int)=some (.tup [d1],((n+w1.length:Nat):Int)):=by
 have:=Yk8 (n:=n) h [(d1,s1,w1)] rfl (by simp) (by simpa using ha) (by
  intro a ha
  simp at ha
  subst ha
  exact h1)
 simpa using this
section
variable {k n:Nat} {ws:List Str}
theorem Ymi{a:List Say}(h:OkR a):∀n,At ws n (cntW sayW a)->Yl (k+1) ws [.str (T "road")] (n:Int)=some (Ye5 a,((n+(cntW sayW a).length:Nat):Int)):=fun n ha=>
 Yjb fm_sev.1 (lkG fm_sev.2.2.2.1) h.1 ha fun p hp=>y13 (h.2 p hp)
theorem Yk9{a:List Nat}(h:OkN 201 a):∀n,At ws n (cntW num a)->Yl (k+1) ws [.str (T "places")] (n:Int)=some (numsD a,((n+(cntW num a).length:Nat):Int)):=fun n ha=>
 Yjb fm_sev.2.1 (lkG fm_sev.2.2.2.2.1) h.1 ha fun p hp=>Yxp (h.2 p hp)
theorem Yjc{a:List Nat}(h:OkN 60 a):∀n,At ws n (cntW num a)->Yl (k+1) ws [.str (T "beacons")] (n:Int)=some (numsD a,((n+(cntW num a).length:Nat):Int)):=fun n ha=>
 Yjb fm_sev.2.2.1 (lkG fm_sev.2.2.2.2.2) h.1 ha fun p hp=>Yoo (h.2 p hp)
theorem Yr7{f w:Str}{d:D}(hf:f∈[T "truth",T "beacon",T "source"])(hw:y7 [.str f,.str w]=some d):∀n,At ws n [w]->Yl (k+1) ws [.str f] (n:Int)=some (d,((n+[w].length:Nat):Int)):=fun n ha=>
 y0s (Yk1 (Yk2 f hf).1) (Yk1 (Yk2 f hf).2) ha hw
theorem Yla{m:Nat}(h:m < 60):∀n,At ws n [num m]->Yl (k+1) ws [.str (T "beacon")] (n:Int)=some (nD m,((n+[num m].length:Nat):Int)):=Yr7 (.tail _ (.head _)) (Yoo h)
theorem Yoq{s:Option Nat}(h:∀x,s=some x->x < 60):∀n,At ws n [Ydk s]->Yl (k+1) ws [.str (T "source")] (n:Int)=some (optD s,((n+[Ydk s].length:Nat):Int)):=Yr7 (.tail _ (.tail _ (.head _))) (Yul h)
theorem Yr8(b:Bool):∀n,At ws n [yesW b]->Yl (k+1) ws [.str (T "truth")] (n:Int)=some (.bl b,((n+[yesW b].length:Nat):Int)):=Yr7 (.head _) (Yxo b)
theorem y14{q:K3}{r:Rw}(h:OkRw r):∀n,At ws n (Yaz q r)->Yo (k+2) ws [.adr (match q with | .pl=>86 | .su=>87 | .ro=>88)] (n:Int)=some (rwD q r,((n+(Yaz q r).length:Nat):Int)):=by
 obtain⟨a,s,xs,b⟩:=r
 obtain⟨ha,hs,hx⟩:=h
 intro n hat
 cases q with
 | pl=>exact q3 fm_look.2.2.2.1 (w1:=[num a]) (w2:=[Ydk s]) (w3:=[yesW b]) hat (Yla ha) (Yoq hs) (Yr8 b)
 | su=>exact q3 fm_look.2.2.2.2.1 (w1:=[num a]) (w2:=cntW num xs) (w3:=[yesW b]) hat (Yla ha) (Yjc hx) (Yr8 b)
 | ro=>exact q2 fm_look.2.2.2.2.2 (w1:=[num a]) (w2:=cntW num xs) hat (Yla ha) (Yjc hx)
theorem Yr9{q:K3}{rs:List Rw}(h:OkRs rs):∀n,At ws n (Yf5 q rs)->Yl (k+3) ws [.str (match q with | .pl=>T "plan rows" | .su=>T "sum rows" | .ro=>T "if rows")] (n:Int)=some (.tup (rs.map (rwD q)),((n+(Yf5 q rs).length:Nat):Int)):=by
 have hr:∀r∈rs,∀n,At ws n (Yaz q r)->Yo (k+2) ws [.adr (match q with | .pl=>86 | .su=>87 | .ro=>88)] (n:Int)=some (rwD q r,((n+(Yaz q r).length:Nat):Int)):=fun r hr=>y14 (h.2 r hr)
 intro n hat
 cases q with
 | pl=>exact Yr6 (Yco _ (.head _)).1 (Yco _ (.head _)).2 (lkA fm_look.1) h.1 hat hr
 | su=>exact Yr6 (Yco _ (.tail _ (.head _))).1 (Yco _ (.tail _ (.head _))).2 (lkA fm_look.2.1) h.1 hat hr
 | ro=>exact Yr6 (Yco _ (.tail _ (.tail _ (.head _)))).1 (Yco _ (.tail _ (.tail _ (.head _)))).2 (lkA fm_look.2.2.1) h.1 hat hr
theorem Yxr{p:Pa}(h:OkPa p)(hat:At ws n (paW p)):Yck ws [.adr (paA p)] (n:Int)=some (.tup (paL p),((n+(paW p).length:Nat):Int)):=by
 obtain⟨t0,t1,t2,t3,t4,t5,t6,t7,t8⟩:=Yvb
 unfold Yck
 match p with
 | .br=>exact Yk8 t0 [] rfl (by simp) hat fun _ h=>(nomatch h)
 | .cl false a b=>exact q2 t1 hat (Ymi h.1) (Ymi h.2)
 | .cl true a b=>exact q2 t3 hat (Ymi h.1) (Ymi h.2)
 | .cr a=>exact q1 t2 hat (Ymi h)
 | .od a=>exact q1 t4 hat (Yk9 h)
 | .lo s a b=>exact q3 t5 (w1:=[Ydk s]) (w2:=cntW num a) (w3:=cntW num b) hat (Yoq h.1) (Yk9 h.2.1) (Yk9 h.2.2)
 | .pl .pl _ rs=>exact q1 t6 hat (Yr9 (q:=.pl) h)
 | .pl .su _ rs=>exact q1 t7 hat (Yr9 (q:=.su) h)
 | .pl .ro h _=>exact absurd rfl h
 | .ro a rs=>exact q2 t8 hat (Yjc h.1) (Yr9 (q:=.ro) h.2)
end
def Ns(l:List Str):Prop:=∀x∈l,32∉x.cps.toList
def sp:Str:=⟨#[32]⟩
theorem y15:Str.ofString " "=sp:=by decide +kernel
theorem Yjd:∀(l:List Str) (acc:Array Nat),(l.foldl (fun acc p=>acc++sp.cps++p.cps) acc).toList=acc.toList++l.flatMap fun p=>32::p.cps.toList
 | [],acc=>by simp
 | x::l,acc=>by
   rw[List.foldl_cons,Yjd l,List.flatMap_cons]
   simp[sp]
theorem Yum{a r:List Nat}(h:32∉a)(hr:r=[]\/∃r',r=32::r'):(a++r).takeWhile (· != 32)=a:=by
 induction a with
 | nil=>
   rcases hr with rfl | ⟨r',rfl⟩
   ·rfl
   ·rfl
 | cons x a ih=>
   have hx:x≠32:=fun z=>h (by rw[z];exact .head _)
   rw[Qf,List.takeWhile_cons]
   have:(x != 32)=true:=by simpa using hx
   rw[if_pos this,ih fun z=>h (.tail _ z)]
theorem Ye2(l:List Str):(l.flatMap fun p=>32::p.cps.toList)=[]\/∃r',(l.flatMap fun p=>32::p.cps.toList)=32::r':=by
 cases l with
 | nil=>exact .inl rfl
 | cons x l=>exact .inr ⟨_,by rw[List.flatMap_cons,Qf]⟩
theorem Ysa{x y:Str}(h:x.cps.toList=y.cps.toList):x=y:=by
 obtain⟨⟨a⟩⟩:=x
 obtain⟨⟨b⟩⟩:=y
 have:a=b:=h
 rw[this]
theorem Yor:∀(l l':List Str),Ns l->Ns l'->(l.flatMap fun p=>32::p.cps.toList)=(l'.flatMap fun p=>32::p.cps.toList)->l=l'
 | [],[],_,_,_=>rfl
 | [],y::l',_,_,e=>by simp at e
 | x::l,[],_,_,e=>by simp at e
 | x::l,y::l',h,h',e=>by
   rw[List.flatMap_cons,List.flatMap_cons,Qf,Qf]at e
   injection e with _ e
   have e1:=congrArg (List.takeWhile (· != 32)) e
   rw[Yum (h x (.head _)) (Ye2 l),Yum (h' y (.head _)) (Ye2 l')]at e1
   have e2:=Ysa e1
   subst e2
   rw[Yor l l' (fun z hz=>h z (.tail _ hz)) (fun z hz=>h' z (.tail _ hz)) (List.append_cancel_left e)]
theorem Ylb{x:Str}{l:List Str}(h:Ns (x::l)):Txt.split (Txt.join sp (x::l)) sp=x::l:=by
 have hf:Ns (Txt.split (Txt.join sp (x::l)) sp):=StrLaws.split_free (Txt.join sp (x::l)) 32
 have hj:=Ygg (Txt.join sp (x::l)) sp
 have hp:=PyProof.Rows.split_pos (Txt.join sp (x::l)) sp
 generalize hs:Txt.split (Txt.join sp (x::l)) sp=ys at *
 cases ys with
 | nil=>exact absurd hp (by decide)
 | cons y m=>
   have e:(m.foldl (fun acc p=>acc++sp.cps++p.cps) y.cps)=(l.foldl (fun acc p=>acc++sp.cps++p.cps) x.cps):=by
    have:(⟨m.foldl (fun acc p=>acc++sp.cps++p.cps) y.cps⟩:Str)=⟨l.foldl (fun acc p=>acc++sp.cps++p.cps) x.cps⟩:=hj
    injection this
   have e:=congrArg Array.toList e
   rw[Yjd,Yjd]at e
   have e1:=congrArg (List.takeWhile (· != 32)) e
   rw[Yum (hf y (.head _)) (Ye2 m),Yum (h x (.head _)) (Ye2 l)]at e1
   have e2:=Ysa e1
   subst e2
   rw[Yor m l (fun z hz=>hf z (.tail _ hz)) (fun z hz=>h z (.tail _ hz)) (List.append_cancel_left e)]
theorem Ns.app{a b:List Str}(h:Ns a)(h':Ns b):Ns (a++b):=fun x hx=>(qv hx).elim (h x) (h' x)
theorem Ns.cons{x:Str}{b:List Str}(h:32∉x.cps.toList)(h':Ns b):Ns (x::b):=fun y hy=>by
 cases hy with
 | head=>exact h
 | tail _ hy=>exact h' y hy
theorem Ysb:Ns []:=fun _ h=>(nomatch h)
theorem Ymj:∀n,n < 201->32∉(num n).cps.toList:=by decide +kernel
theorem y0t:∀n,n < 60->∀b,32∉(sayW (n,b)).cps.toList:=by decide +kernel
theorem Yvi:∀b,32∉(yesW b).cps.toList:=by decide +kernel
theorem Yxs:32∉(T "none").cps.toList:=by decide +kernel
theorem Ylc:∀i,32∉(nm i).cps.toList:=by decide +kernel
theorem Ysc{s:Option Nat}(h:∀x,s=some x->x < 60):32∉(Ydk s).cps.toList:=by
 cases s with
 | none=>exact Yxs
 | some b=>exact Ymj b (by have:=h b rfl;lia)
theorem Yvj{α:Type}{w:α->Str}{l:List α}(hl:l.length<=200)(h:∀a∈l,32∉(w a).cps.toList):Ns (cntW w l):=
 .cons (Ymj _ (by lia)) fun x hx=>by
  obtain⟨a,ha,rfl⟩:=List.mem_map.mp hx
  exact h a ha
theorem Ynp{a:List Say}(h:OkR a):Ns (cntW sayW a):=Yvj h.1 fun p hp=>y0t p.1 (h.2 p hp) p.2
theorem Yhc{B:Nat}{a:List Nat}(h:OkN B a)(hB:B<=201:=by decide):Ns (cntW num a):=Yvj h.1 fun p hp=>Ymj p (by have:=h.2 p hp;lia)
theorem y16{k:K3}{r:Rw}(h:OkRw r):Ns (Yaz k r):=by
 obtain⟨a,s,xs,b⟩:=r
 obtain⟨h1,h2,h3⟩:=h
 have ha:32∉(num a).cps.toList:=Ymj a (by have:a < 60:=h1;lia)
 cases k with
 | pl=>exact .cons ha (.cons (Ysc h2) (.cons (Yvi b) Ysb))
 | su=>exact .cons ha ((Yhc h3).app (.cons (Yvi b) Ysb))
 | ro=>exact .cons ha (Yhc h3)
theorem Ysd{k:K3}{rs:List Rw}(h:OkRs rs):Ns (Yf5 k rs):=.cons (Ymj _ (by have:=h.1;lia)) fun x hx=>by
 obtain⟨r,hr,hx⟩:=List.mem_flatMap.mp hx
 exact y16 (h.2 r hr) x hx
theorem y17{p:Pa}(h:OkPa p):Ns (paW p):=by
 match p with
 | .br=>exact Ysb
 | .cl _ a b=>exact(Ynp h.1).app (Ynp h.2)
 | .cr a=>exact Ynp h
 | .od a=>exact Yhc h
 | .lo s a b=>exact .cons (Ysc h.1) ((Yhc h.2.1).app (Yhc h.2.2))
 | .pl k _ rs=>exact Ysd h
 | .ro a rs=>exact(Yhc h.1).app (Ysd h.2)
theorem y0u(p:Pa):32∉(paN p).cps.toList:=by
 match p with
 | .br=>exact Ylc 0
 | .cl false _ _=>exact Ylc 1
 | .cl true _ _=>exact Ylc 3
 | .cr _=>exact Ylc 2
 | .od _=>exact Ylc 4
 | .lo _ _ _=>exact Ylc 5
 | .pl .pl _ _=>exact Ylc 6
 | .pl .su _ _=>exact Ylc 7
 | .pl .ro h _=>exact absurd rfl h
 | .ro _ _=>exact Ylc 8
theorem Yxt{p:Pa}(h:OkPa p):(paS p).length<=1000000:=by
 have h0:=Ytm (T " ") (paN p::paW p)
 have h1:=Yr1 (s:=(T " ").length) (B:=10) ((y0m h).cons (Yve p))
 have h2:=Ynl h
 have h3:=lenPM.2.2.2.2.2
 rw[qs,h3]at h1
 rw[h3]at h0
 unfold paS
 lia
theorem Yse{p:Pa}(h:OkPa p):Txt.split (paS p) (T " ")=paN p::paW p:=by
 unfold paS T
 rw[y15]
 exact Ylb (.cons (y0u p) (y17 h))
theorem Ymk{p:Pa}(h:OkPa p):Ycl [.str (paS p)]=some (paD p):=by
 rw[Ycl,Yat (by rfl)]
 have hst:Yq 4 [D.str (paS p)]=[some (.sh (.str (paS p))),none,none,none]:=rfl
 rw[hst]
 have hb:Yep [some (.sh (.str (paS p))),none,none,none]=some (.rt (paD p)):=by
  unfold Yep Yuc
  show(Ybp [none,some (.sh (.str (paS p)))]).bind _=_
  have h2:Ybp [none,some (.sh (.str (paS p)))]=some (.lst ((paN p::paW p).map D.str)):=by
   show Yra (T " ") (.str (paS p))=_
   show(if (paS p).length<=1000000 then some (D.lst ((Txt.split (paS p) (T " ")).map D.str))else none)=_
   rw[if_pos (Yxt h),Yse h]
  rw[h2,qd]
  show(Ylz ((paN p::paW p).map D.str)).bind _=_
  rw[Yir,qd]
  generalize hws:paN p::paW p=ws
  have hat:At ws 0 (paN p::paW p):=⟨[],by rw[List.append_nil,hws];rfl⟩
  have htk:=Yk7 hat.head
  have hpt:=Yxr h hat.tail
  have hlen:ws.length=0+1+(paW p).length:=by rw[<-hws,qs];lia
  have hae:=Yop ws (0+1+(paW p).length)
  have hin:inG true Ygi (.str (paN p))=some false:=Yhv (by
   have h1:∀i,nm i∈Ygi:=by decide +kernel
   match p with
   | .br=>exact h1 0
   | .cl false _ _=>exact h1 1
   | .cl true _ _=>exact h1 3
   | .cr _=>exact h1 2
   | .od _=>exact h1 4
   | .lo _ _ _=>exact h1 5
   | .pl .pl _ _=>exact h1 6
   | .pl .su _ _=>exact h1 7
   | .pl .ro h _=>exact absurd rfl h
   | .ro _ _=>exact h1 8)
  have hlk:=y0k p
  have hL:(paL p).length<=3:=by
   match p with
   | .br=>decide
   | .cl _ _ _=>exact(by decide:2<=3)
   | .cr _=>exact(by decide:1<=3)
   | .od _=>exact(by decide:1<=3)
   | .lo _ _ _=>exact(by decide:3<=3)
   | .pl _ _ _=>exact(by decide:1<=3)
   | .ro _ _=>exact(by decide:2<=3)
  have hg:runG (fun l=>Ych ws l ([some (.sh (.str (paS p))),none,none,none].set 1 (some (.sh (.adr l))))) ((0:Nat):Int)=some (paD p,((0+1+(paW p).length:Nat):Int)):=by
   refine Ym9 fun l=>?_
   show Ych ws l [some (.sh (.str (paS p))),some (.sh (.adr l)),none,none] ((0:Nat):Int)=_
   unfold Ych
   rw[Yah (Ycn (Yhk rfl rfl htk))]
   unfold Yfd
   rw[Yah (Yci (ρ':=[some (.sh (.str (paS p))),some (.sh (.adr l)),some (.sh (.str (paN p))),none]) (by simp[hin]))]
   unfold Yfc
   rw[Yah (Ycn (Yhk rfl (ds:=[.adr (paA p)]) (by simp[hlk]) hpt))]
   unfold Yfb
   rw[Yah (ρ':=[some (.sh (.str (paS p))),some (.sh (.adr l)),some (.sh (.str (paN p))),some (.sh (.tup (paL p)))]) (t':=((0+1+(paW p).length:Nat):Int))]
   ·unfold Yfa
    refine Yda ?_
    have hc:Yqp (.tup [.str (paN p)]) (.tup (paL p))=some (paD p):=by
     show(if [D.str (paN p)].length+(paL p).length<=cap6 then some (D.tup ([.str (paN p)]++paL p))else none)=_
     rw[if_pos (by unfold cap6;simp;lia)]
     rfl
    simp[hc]
   ·rw[Yvf (Yxq (Yvg (Yhk rfl rfl hae)))]
    rw[decide_eq_true hlen.symm]
    rfl
  show(runG _ ((0:Nat):Int)).map _=_
  rw[hg]
  rfl
 rw[hb]
 rfl
theorem Ysf{α:Type}{enc:α->D}{l:List α}(hl:l.length<=1000)(h:∀a∈l,Pl (enc a)):Pl (.tup (l.map enc)):=by
 rw[Pl]
 refine⟨by rw[qf];lia,PlL_iff.mpr fun d hd=>?_⟩
 obtain⟨a,ha,rfl⟩:=List.mem_map.mp hd
 exact h a ha
theorem pl_n(n:Nat):Pl (nD n):=by rw[Pl]<;>simp
theorem Yje{B:Nat}{a:List Nat}(h:OkN B a):Pl (numsD a):=Ysf (by have:=h.1;lia) fun x _=>pl_n x
theorem y0v(s:Say):Pl (sayD s):=by simp[sayD,Pl,PlL]
theorem Ynq{a:List Say}(h:OkR a):Pl (Ye5 a):=Ysf (by have:=h.1;lia) fun x _=>y0v x
theorem Yvk(s:Option Nat):Pl (optD s):=by cases s<;>simp[optD,Pl]
theorem y18{k:K3}{r:Rw}(h:OkRw r):Pl (rwD k r):=by
 obtain⟨a,s,xs,b⟩:=r
 have hx:Pl (.tup (xs.map nD)):=Yje h.2.2
 have ho:=Yvk s
 cases k<;>simp[rwD,Pl,PlL,ho]<;>(rw[Pl]at hx;simpa using hx)
theorem Ysg{k:K3}{rs:List Rw}(h:OkRs rs):Pl (.tup (rs.map (rwD k))):=Ysf (by have:=h.1;lia) fun r hr=>y18 (h.2 r hr)
theorem y19{p:Pa}(h:OkPa p):Pl (paD p):=by
 unfold paD
 rw[Pl]
 match p with
 | .br=>simp[paL,PlL,Pl]
 | .cl _ a b=>exact⟨by simp[paL],by simp[PlL,Pl],Ynq h.1,Ynq h.2,trivial⟩
 | .cr a=>exact⟨by simp[paL],by simp[Pl],Ynq h,trivial⟩
 | .od a=>exact⟨by simp[paL],by simp[Pl],Yje h,trivial⟩
 | .lo s a b=>exact⟨by simp[paL],by simp[Pl],Yvk s,Yje h.2.1,Yje h.2.2,trivial⟩
 | .pl k _ rs=>exact⟨by simp[paL],by simp[Pl],Ysg h,trivial⟩
 | .ro a rs=>exact⟨by simp[paL],by simp[Pl],Yje h.1,Ysg h.2,trivial⟩
theorem Yjf(a:List Nat):dep (numsD a)<=1:=by
 unfold numsD
 rw[Yfn]
 have:=Ym5 (enc:=nD) (n:=0) (fun a=>by simp) a
 lia
theorem Ynr(a:List Say):dep (Ye5 a)<=2:=by
 unfold Ye5
 rw[Yfn]
 have:=Ym5 (enc:=sayD) (n:=1) (fun a=>by simp) a
 lia
theorem y2a(k:K3)(r:Rw):dep (rwD k r)<=2:=by
 obtain⟨a,s,xs,b⟩:=r
 have h:=Yjf xs
 unfold numsD at h
 cases k with
 | pl=>simp[rwD]
 | su=>
   show dep (.tup [nD a,.tup (xs.map nD),.bl b])<=2
   rw[Yfn]
   have:=Yip (n:=1) (l:=[nD a,.tup (xs.map nD),.bl b]) (by
    intro d hd
    simp at hd
    rcases hd with rfl | rfl | rfl
    ·simp
    ·exact h
    ·simp)
   lia
 | ro=>
   show dep (.tup [nD a,.tup (xs.map nD)])<=2
   rw[Yfn]
   have:=Yip (n:=1) (l:=[nD a,.tup (xs.map nD)]) (by
    intro d hd
    simp at hd
    rcases hd with rfl | rfl
    ·simp
    ·exact h)
   lia
theorem Ysh(k:K3)(rs:List Rw):dep (.tup (rs.map (rwD k)))<=3:=by
 rw[Yfn]
 have:=Ym5 (enc:=rwD k) (n:=2) (y2a k) rs
 lia
theorem y2b(p:Pa):dep (paD p) < 12:=by
 unfold paD
 rw[Yfn]
 have hp:∀d∈paL p,dep d<=3:=by
  match p with
  | .br=>exact fun d hd=>(nomatch hd)
  | .cl _ a b=>
    intro d hd
    simp[paL]at hd
    rcases hd with rfl | rfl
    ·exact qx (Ynr a) (by decide)
    ·exact qx (Ynr b) (by decide)
  | .cr a=>
    intro d hd
    simp[paL]at hd
    subst hd
    exact qx (Ynr a) (by decide)
  | .od a=>
    intro d hd
    simp[paL]at hd
    subst hd
    exact qx (Yjf a) (by decide)
  | .lo s a b=>
    intro d hd
    simp[paL]at hd
    rcases hd with rfl | rfl | rfl
    ·simp
    ·exact qx (Yjf a) (by decide)
    ·exact qx (Yjf b) (by decide)
  | .pl k _ rs=>
    intro d hd
    simp[paL]at hd
    subst hd
    exact Ysh k rs
  | .ro a rs=>
    intro d hd
    simp[paL]at hd
    rcases hd with rfl | rfl
    ·exact qx (Yjf a) (by decide)
    ·exact Ysh .ro rs
 have:=Yip (n:=3) (l:=.str (paN p)::paL p) (by
  intro d hd
  cases hd with
  | head=>simp
  | tail _ hd=>exact hp d hd)
 lia
theorem y0w(t:List Int):∃(p:Pa) (t':List Int),∀(x:Addr) (a k c:Option B),Ygu x [a,some (.sh (.adr x)),k,c] t=some (.nx [a,some (.sh (.adr x)),k,some (.sh (paD p))] t'):=by
 obtain⟨p,t',hp,h⟩:=y10 t
 refine⟨p,t',fun x a k c=>?_⟩
 have h1:=Yi9 hp
 have h2:=Yk5 hp
 have h3:=Yr2 hp rfl
 have h4:=Ymk hp
 have h5:=y0c (y19 hp) (y2b p)
 simp only[qy]at h2 h3
 unfold Ygu
 rw[Yah (Ycn ((Ybk rfl).trans ((Yb7 (ds:=[]) rfl).trans h)))]
 generalize paD p=pd at *
 generalize paS p=ps at *
 rw[Yah (Yci (ρ':=[a,some (.sh (.adr x)),k,some (.sh pd)]) (by simp[h2,h3,h4,h5]))]
 exact Yci (by simp[h1,h4,h5])
theorem Ysi:∀(n:Nat) (t:List Int),∃t',∀(x:Addr) (a k c:Option B) (ds:List D),ds.length=n->∃k' c',forW (gSet 2) (Ygu x) ds [a,some (.sh (.adr x)),k,c] t=some (.nx [a,some (.sh (.adr x)),k',c'] t')
 | 0,t=>⟨t,fun x a k c ds h=>by
   rw[List.length_eq_zero_iff.mp h]
   exact⟨k,c,rfl⟩⟩
 | n+1,t=>by
   obtain⟨p,t1,h1⟩:=y0w t
   obtain⟨t2,h2⟩:=Ysi n t1
   refine⟨t2,fun x a k c ds h=>?_⟩
   cases ds with
   | nil=>cases h
   | cons y ds=>
     obtain⟨k',c',h3⟩:=h2 x a (some (.sh y)) (some (.sh (paD p))) ds (by simpa using h)
     refine⟨k',c',?_⟩
     rw[forW]
     show(Ygu x [a,some (.sh (.adr x)),some (.sh y),c] t).bind _=_
     rw[h1,qd]
     exact h3
theorem law_true(ns:List Int)(hns:ns.length<=63):Yne [.scr ns]=some (.bl true):=by
 rw[Yne,Yat (by rfl)]
 have hst:Yq 4 [D.scr ns]=[some (.sh (.scr ns)),none,none,none]:=rfl
 have hb:Yxj [some (.sh (.scr ns)),none,none,none]=some (.rt (.bl true)):=by
  unfold Yxj Ytz
  have hr:revF (getC 0) [some (.sh (.scr ns)),none,none,none]=some (ns.reverse.map D.int):=by
   show some (ns.map D.int).reverse=_
   rw[List.map_reverse]
  rw[hr,qd,Ylx,qd,show List.map (fun a:Int=>a) ns.reverse=ns.reverse from List.map_id' _]
  obtain⟨t',ht⟩:=Ysi 4 ns.reverse
  refine Yqz fun l=>⟨t',?_⟩
  obtain⟨k,c,h⟩:=ht l (some (.sh (.scr ns))) none none (rngD 0 4) rfl
  show Ynd l [some (.sh (.scr ns)),some (.sh (.adr l)),none,none] ns.reverse=_
  unfold Ynd
  rw[Yah (ρ':=[some (.sh (.scr ns)),some (.sh (.adr l)),k,c]) (t':=t')]
  ·rfl
  ·unfold Yqy
   show(rng1 [.int 4]).bind _=_
   rw[Ykl (by lia) (by lia),qd]
   exact h
 rw[hst,hb]
 rfl
end Lw
end
namespace Op
open PySem PySem.W PyProof.Rows PySem.Calls
set_option maxRecDepth 100000
noncomputable abbrev pg:Program:=PySem.Challenge.pw_duskbook_k59_papers_read
noncomputable def topm(i j:Nat):Stmt:=L2.inClass (Lw.top i) j
noncomputable abbrev en(P:Params)(x:Str)(t:Nat)(v:Value):DictEntry:=⟨PyData.keyHash P x,.str x t,v⟩
noncomputable abbrev fn(name qual:Str)(s:Stmt)(dV kV doc pm:Value)(an:Option Addr)(cdv ct:Value)(g b:Nat):Data:=.func ⟨name,qual,L2.defArgs s,.stmts (L2.defBody s),L2.defScope s,g,[],dV,kV,doc,pm,an,cdv,ct,b⟩
noncomputable abbrev tu(l:List Value):Obj:=⟨.type "tuple",none,.seq ⟨l⟩ 0,#[]⟩
noncomputable abbrev fl:Obj:=⟨.none,none,.fields #[],#[]⟩
noncomputable abbrev oZ(x:Str)(i:Nat):Obj:=⟨.none,none,fn x x (Lw.top i) .none .none .none .none none .none .none 0 0,#[]⟩
noncomputable abbrev oF(x:Str)(i:Nat)(pm:Value)(c:Nat):Obj:=⟨.type "function",none,.func (fnOf x x (L2.defArgs (Lw.top i)) (L2.defBody (Lw.top i)) (L2.defScope (Lw.top i)) .none .none .none pm none (.ref c) .none),#[]⟩
noncomputable abbrev oM(x q:Str)(i j:Nat)(pm:Value)(c:Nat):Obj:=⟨.type "function",none,.func (fnOf x q (L2.defArgs (L2.inClass (Lw.top i) j)) (L2.defBody (L2.inClass (Lw.top i) j)) (L2.defScope (L2.inClass (Lw.top i) j)) .none .none .none pm none (.ref c) .none),#[]⟩
noncomputable abbrev oC(x:Str)(t l n b:Nat)(u v:Value)(c k e:Nat):Obj:=⟨.type "code",none,.fields #[.str x t,.str x (t+1),.str "/claim/cut.py" (t+2),.int (.ofNat l) 0,.int (.ofNat n) 0,.int 0 0,.int 0 0,.int 3 0,.ref b,.bool true,.int (.ofNat k) 0,.ref (b+1),.none,u,v,.ref c,.int (.ofNat e) 0,.int (.ofNat l) 0,.str "/claim/cut.py" (e+1)],#[]⟩
noncomputable abbrev p0:Value:=(.str "duskbook.books" 223)
noncomputable abbrev p1:Value:=(.str "duskbook.pages" 234)
noncomputable abbrev p2:Value:=(.str "duskbook.papertexts" 275)
noncomputable abbrev p3:Value:=(.str "law_duskbook_k59_papers_read" 466)
noncomputable def et0(P:Params):List DictEntry:=[en P "__doc__" 166 .none,en P "__package__" 167 .none,en P "__loader__" 168 (.builtin "__main__.__loader__#opaque"),en P "__spec__" 169 .none,en P "__annotations__" 170 (.ref 6),en P "__builtins__" 171 (.ref 4),en P "__file__" 173 (.str "/claim/cut.py" 172),en P "__cached__" 174 .none,en P "DuskError" 206 (.ref 24),en P "NoPaper" 222 (.ref 37),en P "BEACON_COUNT" 226 (.int (60) 225),en P "is_beacon" 233 (.ref 46),en P "FIGURES" 237 (.str "0123456789" 236),en P "MOST_FIGURES" 239 (.int (3) 238),en P "TRUTHS_BY_MARK" 244 (.ref 47),en P "saying_written" 252 (.ref 54),en P "number_read" 258 (.ref 59),en P "beacon_read" 266 (.ref 66),en P "saying_read" 274 (.ref 73),en P "MOST_NUMBER" 278 (.int (200) 277),en P "TRUTHS_BY_WORD" 283 (.ref 74),en P "PAPERS" 315 (.ref 75),en P "ROWS" 330 (.ref 85),en P "SEVERAL" 340 (.ref 89),en P "thing_written" 348 (.ref 96),en P "part_written" 354 (.ref 101),en P "parts_written" 365 (.ref 108),en P "paper_written" 372 (.ref 115),en P "Reader" 416 (.ref 146),en P "place_read" 424 (.ref 157),en P "checked" 431 (.ref 164),en P "thing_read" 439 (.ref 171),en P "part_read" 449 (.ref 178),en P "parts_read" 455 (.ref 183),en P "paper_read" 465 (.ref 190),en P "_law_mixed" 475 (.ref 197),en P "_law_next" 482 (.ref 204),en P "_law_many" 491 (.ref 211),en P "_law_any_road" 501 (.ref 218),en P "_law_any_numbers" 507 (.ref 223)]
noncomputable def et1(P:Params):List DictEntry:=[en P "_law_any_rows" 518 (.ref 230),en P "_law_any" 530 (.ref 237),en P "_law_number_words" 536 (.ref 242),en P "_law_road_words" 542 (.ref 247),en P "_law_free_word" 549 (.ref 254),en P "_law_rows_words" 559 (.ref 261),en P "_law_paper_words" 568 (.ref 268),en P "_law_same" 574 (.ref 273),en P "law" 584 (.ref 280)]
noncomputable def et(P:Params):List DictEntry:=et0 P++et1 P
noncomputable abbrev ns(P:Params)(x:DictEntry)(n k:Nat):Obj:=⟨.type "dict",none,.dict ⟨x::(et P).take n⟩ k,#[]⟩
noncomputable def ff0:List Value:=[(.int (2) 0),(.int (0) 0),(.ref 20),(.int (4) 0),(.int (0) 0),(.ref 33),(.int (8) 0),(.int (0) 0),(.ref 45),(.int (14) 0),(.int (0) 0),(.ref 53),(.int (17) 0),(.int (0) 0),(.ref 58),(.int (23) 0),(.int (0) 0),(.ref 65),(.int (26) 0),(.int (0) 0),(.ref 72),(.int (37) 0),(.int (0) 0),(.ref 95),(.int (43) 0),(.int (0) 0),(.ref 100),(.int (52) 0),(.int (0) 0),(.ref 107),(.int (57) 0),(.int (0) 0),(.ref 114),(.int (59) 0),(.int (0) 0),(.ref 121),(.int (73) 0),(.int (0) 0),(.ref 156),(.int (76) 0)]
noncomputable def ff1:List Value:=[(.int (0) 0),(.ref 163),(.int (80) 0),(.int (0) 0),(.ref 170),(.int (90) 0),(.int (0) 0),(.ref 177),(.int (100) 0),(.int (0) 0),(.ref 182),(.int (102) 0),(.int (0) 0),(.ref 189),(.int (112) 0),(.int (0) 0),(.ref 196),(.int (114) 0),(.int (0) 0),(.ref 203),(.int (118) 0),(.int (0) 0),(.ref 210),(.int (123) 0),(.int (0) 0),(.ref 217),(.int (129) 0),(.int (0) 0),(.ref 222),(.int (131) 0),(.int (0) 0),(.ref 229),(.int (142) 0),(.int (0) 0),(.ref 236),(.int (161) 0),(.int (0) 0),(.ref 241),(.int (163) 0),(.int (0) 0)]
noncomputable def ff2:List Value:=[(.ref 246),(.int (165) 0),(.int (0) 0),(.ref 253),(.int (169) 0),(.int (0) 0),(.ref 260),(.int (180) 0),(.int (0) 0),(.ref 267),(.int (197) 0),(.int (0) 0),(.ref 272),(.int (209) 0),(.int (0) 0),(.ref 279)]
noncomputable def ff:List Value:=ff0++ff1++ff2
noncomputable abbrev ft(n:Nat):Obj:=⟨.none,none,.fields ⟨ff.take n⟩,#[]⟩
noncomputable abbrev dF(x:Str)(i l n t b:Nat)(pm:Value)(k:Nat):List Obj:=[tu [],fl,oZ x i,oC x t l n b .none .none (b+2) k (t+3),oF x i pm (b+3)]
noncomputable abbrev dG(x:Str)(i l n t b:Nat)(pm:Value)(k:Nat)(u:List Value):List Obj:=[tu [],fl,tu u,tu [],oZ x i,oC x t l n b (.ref (b+2)) (.ref (b+3)) (b+4) k (t+3+u.length),oF x i pm (b+5)]
noncomputable def al0(P:Params):List Obj:=[boot_o_0 P,boot_o_1 P,boot_o_2 P,ns P (en P "__name__" 165 (.str "law_duskbook_k59_papers_read" 466)) 49 50,boot_o_4 P,boot_o_5 P,boot_o_6 P,boot_o_7 P,boot_o_8 P,boot_o_9 P,boot_o_10 P,tu [],ft 96,⟨(.type "code"),none,(.fields #[(.str "<module>" 182),(.str "<module>" 183),(.str "/claim/cut.py" 184),(.int (1) 0),(.int (0) 0),(.int (0) 0),(.int (0) 0),(.int (0) 0),(.ref 11),(.bool false),(.int (181) 0),(.ref 12),.none,.none,.none,.none,(.int (185) 0),(.int (1) 0),(.str "/claim/cut.py" 186)]),#[]⟩,⟨(.type "frame"),none,.plain,#[(some (.ref 13)),(some (.ref 3)),(some (.ref 3)),none,(some (.str "__main__" 164)),none,(some (.ref 0))]⟩,tu [(.type "ValueError")],⟨(.type "builtin_function_or_method"),none,(.fields #[(.builtin "type.__prepare__"),(.type "type")]),#[]⟩,⟨(.type "dict"),none,(.dict #[en P "__module__" 196 (.str "duskbook.errors" 187),en P "__qualname__" 198 (.str "DuskError" 197),en P "__firstlineno__" 200 (.int (2) 199),en P "__static_attributes__" 201 (.ref 22)] 4),#[]⟩,tu [],fl,⟨(.type "code"),none,(.fields #[(.str "DuskError" 191),(.str "DuskError" 192),(.str "/claim/cut.py" 193),(.int (2) 0),(.int (0) 0),(.int (0) 0),(.int (0) 0),(.int (0) 0),(.ref 18),(.bool false),(.int (181) 0),(.ref 19),.none,.none,.none,.none,(.int (194) 0),(.int (2) 0),(.str "/claim/cut.py" 195)]),#[]⟩,⟨(.type "frame"),none,.plain,#[(some (.ref 20)),(some (.ref 3)),(some (.ref 17)),none,(some (.str "duskbook.errors" 187)),none,(some (.ref 0))]⟩,tu [],⟨(.type "dict"),none,(.dict #[en P "__module__" 196 (.str "duskbook.errors" 187),en P "__firstlineno__" 200 (.int (2) 199),en P "__static_attributes__" 201 (.ref 22),en P "__weakref__" 203 (.ref 25),en P "__doc__" 204 .none] 3),#[]⟩,⟨(.type "type"),none,(.cls ⟨"DuskError",[(.type "ValueError")],[(.ref 24),(.type "ValueError"),(.type "Exception"),(.type "BaseException"),(.type "object")],23,"DuskError",true,[],[(.ref 37)],false,none,false⟩),#[(some (.ref 15)),none,(some (.str "DuskError" 189)),(some (.str "DuskError" 197)),(some (.builtin "ValueError.__new__")),(some (.bool true))]⟩,⟨(.type "getset_descriptor"),none,(.fields #[(.str "__weakref__" 202),(.ref 24),(.builtin "ExceptionGroup.__weakref__"),.none]),#[]⟩,⟨(.type "super"),none,(.fields #[(.ref 24),(.ref 24),(.ref 24)]),#[]⟩,⟨(.type "builtin_function_or_method"),none,(.fields #[(.builtin "object.__init_subclass__"),(.ref 24)]),#[]⟩,tu [(.ref 24)],⟨(.type "builtin_function_or_method"),none,(.fields #[(.builtin "type.__prepare__"),(.type "type")]),#[]⟩,⟨(.type "dict"),none,(.dict #[en P "__module__" 214 (.str "duskbook.errors" 187),en P "__qualname__" 216 (.str "NoPaper" 215),en P "__firstlineno__" 218 (.int (4) 217),en P "__static_attributes__" 219 (.ref 35)] 4),#[]⟩,tu [],fl,⟨(.type "code"),none,(.fields #[(.str "NoPaper" 209),(.str "NoPaper" 210),(.str "/claim/cut.py" 211),(.int (4) 0),(.int (0) 0),(.int (0) 0),(.int (0) 0),(.int (0) 0),(.ref 31),(.bool false),(.int (181) 0),(.ref 32),.none,.none,.none,.none,(.int (212) 0),(.int (4) 0),(.str "/claim/cut.py" 213)]),#[]⟩,⟨(.type "frame"),none,.plain,#[(some (.ref 33)),(some (.ref 3)),(some (.ref 30)),none,(some (.str "duskbook.errors" 187)),none,(some (.ref 0))]⟩,tu [],⟨(.type "dict"),none,(.dict #[en P "__module__" 214 (.str "duskbook.errors" 187),en P "__firstlineno__" 218 (.int (4) 217),en P "__static_attributes__" 219 (.ref 35),en P "__doc__" 220 .none] 2),#[]⟩,⟨(.type "type"),none,(.cls ⟨"NoPaper",[(.ref 24)],[(.ref 37),(.ref 24),(.type "ValueError"),(.type "Exception"),(.type "BaseException"),(.type "object")],36,"NoPaper",true,[],[],false,none,false⟩),#[(some (.ref 28)),none,(some (.str "NoPaper" 207)),(some (.str "NoPaper" 215)),(some (.builtin "ValueError.__new__")),(some (.bool true))]⟩,⟨(.type "super"),none,(.fields #[(.ref 37),(.ref 37),(.ref 37)]),#[]⟩,⟨(.type "builtin_function_or_method"),none,(.fields #[(.builtin "object.__init_subclass__"),(.ref 37)]),#[]⟩]++(dG "is_beacon" 5 8 1 227 40 p0 181 [(.str "thing" 230)]++([⟨(.type "dict"),none,(.dict #[en P "+" 240 (.bool true),en P "-" 241 (.bool false)] 2),#[]⟩]++(dG "saying_written" 10 14 1 245 48 p1 181 [(.str "saying" 248),(.str "beacon" 249)]++(dF "number_read" 11 17 1 253 55 p1 181++(dG "beacon_read" 12 23 1 259 60 p1 181 [(.str "word" 262),(.str "number" 263)]++(dG "saying_read" 13 26 1 267 67 p1 181 [(.str "word" 270),(.str "beacon" 271)]++([⟨(.type "dict"),none,(.dict #[en P "yes" 279 (.bool true),en P "no" 280 (.bool false)] 2),#[]⟩,⟨(.type "dict"),none,(.dict #[en P "broken" 284 (.ref 76),en P "clash" 285 (.ref 77),en P "cross" 288 (.ref 78),en P "late" 290 (.ref 79),en P "odd" 293 (.ref 80),en P "lone" 295 (.ref 81),en P "plan" 299 (.ref 82),en P "sums" 301 (.ref 83),en P "rows" 303 (.ref 84)] 9),#[]⟩,tu [],tu [(.str "road" 286),(.str "road" 287)],tu [(.str "road" 289)],tu [(.str "road" 291),(.str "road" 292)],tu [(.str "places" 294)],tu [(.str "source" 296),(.str "places" 297),(.str "places" 298)],tu [(.str "plan rows" 300)],tu [(.str "sum rows" 302)],tu [(.str "beacons" 304),(.str "if rows" 305)],⟨(.type "dict"),none,(.dict #[en P "plan rows" 316 (.ref 86),en P "sum rows" 320 (.ref 87),en P "if rows" 324 (.ref 88)] 3),#[]⟩,tu [(.str "beacon" 317),(.str "source" 318),(.str "truth" 319)],tu [(.str "beacon" 321),(.str "beacons" 322),(.str "truth" 323)],tu [(.str "beacon" 325),(.str "beacons" 326)],⟨(.type "dict"),none,(.dict #[en P "road" 331 (.str "saying" 332),en P "places" 333 (.str "place" 334),en P "beacons" 335 (.str "beacon" 336)] 3),#[]⟩]++(dG "thing_written" 20 37 2 341 90 p2 181 [(.str "form" 344),(.str "thing" 345)]++(dF "part_written" 21 43 2 349 97 p2 181++(dG "parts_written" 22 52 2 355 102 p2 181 [(.str "forms" 358),(.str "parts" 359),(.str "words" 360),(.str "form" 361),(.str "part" 362)]++(dG "paper_written" 23 57 1 366 109 p2 181 [(.str "paper" 369)]++([tu [],⟨(.type "builtin_function_or_method"),none,(.fields #[(.builtin "type.__prepare__"),(.type "type")]),#[]⟩,⟨(.type "dict"),none,(.dict #[en P "__module__" 380 (.str "duskbook.papertexts" 275),en P "__qualname__" 382 (.str "Reader" 381),en P "__firstlineno__" 384 (.int (59) 383),en P "__init__" 392 (.ref 129),en P "is_at_end" 399 (.ref 136),en P "taken" 406 (.ref 143),en P "__static_attributes__" 409 (.ref 144)] 7),#[]⟩,tu [],⟨.none,none,(.fields #[(.int (61) 0),(.int (4) 0),(.ref 128),(.int (65) 0),(.int (4) 0),(.ref 135),(.int (68) 0),(.int (4) 0),(.ref 142)]),#[]⟩,⟨(.type "code"),none,(.fields #[(.str "Reader" 375),(.str "Reader" 376),(.str "/claim/cut.py" 377),(.int (59) 0),(.int (0) 0),(.int (0) 0),(.int (0) 0),(.int (0) 0),(.ref 119),(.bool false),(.int (181) 0),(.ref 120),.none,.none,.none,.none,(.int (378) 0),(.int (59) 0),(.str "/claim/cut.py" 379)]),#[]⟩,⟨(.type "frame"),none,.plain,#[(some (.ref 121)),(some (.ref 3)),(some (.ref 118)),none,(some (.str "duskbook.papertexts" 275)),none,(some (.ref 0))]⟩,tu [],fl,tu [(.str "self" 388),(.str "text" 389)],tu [],⟨.none,none,(fn "__init__" "Reader.__init__" (topm 24 0) .none .none .none .none none .none .none 0 0),#[]⟩,⟨(.type "code"),none,(.fields #[(.str "__init__" 385),(.str "Reader.__init__" 386),(.str "/claim/cut.py" 387),(.int (61) 0),(.int (2) 0),(.int (0) 0),(.int (0) 0),(.int (3) 0),(.ref 123),(.bool true),(.int (181) 0),(.ref 124),.none,(.ref 125),(.ref 126),(.ref 127),(.int (390) 0),(.int (61) 0),(.str "/claim/cut.py" 391)]),#[]⟩,oM "__init__" "Reader.__init__" 24 0 p2 128,tu [],fl,tu [(.str "self" 396)],tu [],⟨.none,none,(fn "is_at_end" "Reader.is_at_end" (topm 24 1) .none .none .none .none none .none .none 0 0),#[]⟩,⟨(.type "code"),none,(.fields #[(.str "is_at_end" 393),(.str "Reader.is_at_end" 394),(.str "/claim/cut.py" 395),(.int (65) 0),(.int (1) 0),(.int (0) 0),(.int (0) 0),(.int (3) 0),(.ref 130),(.bool true),(.int (181) 0),(.ref 131),.none,(.ref 132),(.ref 133),(.ref 134),(.int (397) 0),(.int (65) 0),(.str "/claim/cut.py" 398)]),#[]⟩,oM "is_at_end" "Reader.is_at_end" 24 1 p2 135,tu [],fl,tu [(.str "self" 403)],tu [],⟨.none,none,(fn "taken" "Reader.taken" (topm 24 2) .none .none .none .none none .none .none 0 0),#[]⟩,⟨(.type "code"),none,(.fields #[(.str "taken" 400),(.str "Reader.taken" 401),(.str "/claim/cut.py" 402),(.int (68) 0),(.int (1) 0),(.int (0) 0),(.int (0) 0),(.int (3) 0),(.ref 137),(.bool true),(.int (181) 0),(.ref 138),.none,(.ref 139),(.ref 140),(.ref 141),(.int (404) 0),(.int (68) 0),(.str "/claim/cut.py" 405)]),#[]⟩,oM "taken" "Reader.taken" 24 2 p2 142,tu [(.str "place" 407),(.str "words" 408)],⟨(.type "dict"),none,(.dict #[en P "__module__" 380 (.str "duskbook.papertexts" 275),en P "__firstlineno__" 384 (.int (59) 383),en P "__init__" 392 (.ref 129),en P "is_at_end" 399 (.ref 136),en P "taken" 406 (.ref 143),en P "__static_attributes__" 409 (.ref 144),en P "__dict__" 411 (.ref 147),en P "__weakref__" 413 (.ref 148),en P "__doc__" 414 .none] 4),#[]⟩,⟨(.type "type"),none,(.cls ⟨"Reader",[(.type "object")],[(.ref 146),(.type "object")],145,"Reader",true,[],[],false,none,false⟩),#[none,none,(some (.str "Reader" 373)),(some (.str "Reader" 381)),(some (.builtin "object.__new__")),(some (.bool true))]⟩,⟨(.type "getset_descriptor"),none,(.fields #[(.str "__dict__" 410),(.ref 146),(.builtin "function.__dict__"),(.builtin "function.__dict__#set")]),#[]⟩,⟨(.type "getset_descriptor"),none,(.fields #[(.str "__weakref__" 412),(.ref 146),(.builtin "ExceptionGroup.__weakref__"),.none]),#[]⟩,⟨(.type "super"),none,(.fields #[(.ref 146),(.ref 146),(.ref 146)]),#[]⟩,⟨(.type "builtin_function_or_method"),none,(.fields #[(.builtin "object.__init_subclass__"),(.ref 146)]),#[]⟩]++(dG "place_read" 25 73 1 417 151 p2 181 [(.str "word" 420),(.str "number" 421)]++(dG "checked" 26 76 1 425 158 p2 181 [(.str "thing" 428)]++(dG "thing_read" 27 80 2 432 165 p2 181 [(.str "form" 435),(.str "word" 436)]++(dG "part_read" 28 90 2 440 172 p2 181 [(.str "form" 443),(.str "reader" 444),(.str "parts" 445),(.str "count" 446)]++(dF "parts_read" 29 100 2 450 179 p2 181++(dG "paper_read" 30 102 1 456 184 p2 181 [(.str "text" 459),(.str "reader" 460),(.str "word" 461),(.str "parts" 462)]++(dG "_law_mixed" 32 112 2 468 191 p3 181 [(.str "cell" 471),(.str "by" 472)]++(dG "_law_next" 33 114 1 476 198 p3 181 [(.str "tape" 479)]++(dG "_law_many" 34 118 2 483 205 p3 181 [(.str "tape" 486),(.str "most" 487),(.str "left" 488)]++(dG "_law_any_road" 35 123 1 492 212 p3 181 [(.str "tape" 495),(.str "road" 496),(.str "k" 497),(.str "left" 498)]++(dF "_law_any_numbers" 36 129 2 502 219 p3 181++(dG "_law_any_rows" 37 131 2 508 224 p3 181 [(.str "tape" 511),(.str "word" 512),(.str "rows" 513),(.str "k" 514),(.str "left" 515)]))))))))))))))))))))))))
noncomputable def al1(P:Params):List Obj:=dG "_law_any" 38 142 1 519 231 p3 181 [(.str "tape" 522),(.str "left" 523),(.str "word" 524),(.str "road" 525),(.str "places" 526),(.str "numbers" 527)]++(dF "_law_number_words" 39 161 1 531 238 p3 181++(dF "_law_road_words" 40 163 1 537 243 p3 181++(dG "_law_free_word" 41 165 1 543 248 p3 181 [(.str "beacon" 546)]++(dG "_law_rows_words" 42 169 2 550 255 p3 181 [(.str "word" 553),(.str "rows" 554),(.str "words" 555),(.str "row" 556)]++(dG "_law_paper_words" 43 180 1 560 262 p3 181 [(.str "paper" 563),(.str "word" 564),(.str "words" 565)]++(dF "_law_same" 44 197 2 569 269 p3 181++(dG "law" 45 209 1 575 274 p3 181 [(.str "script" 578),(.str "tape" 579),(.str "k" 580),(.str "paper" 581)])))))))
noncomputable def al(P:Params):List Obj:=al0 P++al1 P
noncomputable def upd(l:List (Nat × Obj))(xs:List Obj):List Obj:=l.foldl (fun xs p=>xs.set p.1 p.2) xs
noncomputable def ev:List Obj->List Obj
 | []=>[]
 | [x]=>[x]
 | x::_::r=>x::ev r
noncomputable def bt:Nat->List Obj->BT
 | 0,_=>.nil
 | _+1,[]=>.nil
 | n+1,x::xs=>.node x (bt n (ev xs)) (bt n (ev xs.tail))
noncomputable abbrev bd:List Stmt:=behindTheImports pg
noncomputable abbrev sl(i n:Nat):List Stmt:=(bd.drop i).take n
noncomputable abbrev env:Env:={ scope:=pg.main.scope,locals:=mainNs,globals:=mainNs,cells:=[],code:=(.ref 13),frame:=some 14 }
noncomputable abbrev cE:Code:=.body bd env
noncomputable abbrev B:List Frame:=[topFrame ⟨0,0,0,0⟩]
noncomputable abbrev ss(n:Nat)(l:Params->List (Nat × Obj))(t:Nat)(w:World)(os:OsState):SharedT:=⟨bt 12 (upd (l w.params) ((al w.params).take n)),n,{},.mk [],boot_drawn,t,os⟩
noncomputable def h0(P:Params):Heap:=⟨⟨upd [(3,boot_o_3 P),(12,fl)] ((al P).take 15)⟩,{}⟩
noncomputable abbrev s0(w:World)(os:OsState):Shared:=⟨h0 w.params,.mk [],boot_drawn,187,os⟩
noncomputable abbrev s1:World->OsState->SharedT:=ss 15 (fun P=>[(3,boot_o_3 P),(12,fl)]) 187
noncomputable abbrev s2:World->OsState->SharedT:=ss 28 (fun P=>[(3,ns P (en P "__name__" 165 (.str "duskbook.errors" 187)) 9 10),(12,ft 3),(24,⟨(.type "type"),none,(.cls ⟨"DuskError",[(.type "ValueError")],[(.ref 24),(.type "ValueError"),(.type "Exception"),(.type "BaseException"),(.type "object")],23,"DuskError",true,[],[],false,none,false⟩),#[(some (.ref 15)),none,(some (.str "DuskError" 189)),(some (.str "DuskError" 197)),(some (.builtin "ValueError.__new__")),(some (.bool true))]⟩)]) 207
noncomputable abbrev s3:World->OsState->SharedT:=ss 60 (fun P=>[(3,ns P (en P "__name__" 165 (.str "duskbook.pages" 234)) 17 18),(12,ft 15)]) 259
noncomputable abbrev s4:World->OsState->SharedT:=ss 89 (fun P=>[(3,ns P (en P "__name__" 165 (.str "duskbook.papertexts" 275)) 23 24),(12,ft 21)]) 331
noncomputable abbrev s5:World->OsState->SharedT:=ss 116 (fun P=>[(3,ns P (en P "__name__" 165 (.str "duskbook.papertexts" 275)) 28 29),(12,ft 33)]) 373
noncomputable abbrev s6:World->OsState->SharedT:=ss 172 (fun P=>[(3,ns P (en P "__name__" 165 (.str "duskbook.papertexts" 275)) 32 33),(12,ft 45)]) 440
noncomputable abbrev s7:World->OsState->SharedT:=ss 255 (fun P=>[(3,ns P (en P "__name__" 165 (.str "law_duskbook_k59_papers_read" 466)) 45 46),(12,ft 84)]) 550
noncomputable abbrev s8:World->OsState->SharedT:=ss 281 (fun P=>[]) 585
noncomputable def h9(P:Params):Heap:=⟨⟨upd [] ((al P).take 281)⟩,{}⟩
noncomputable abbrev s9(w:World)(os:OsState):Shared:=⟨h9 w.params,.mk [],boot_drawn,585,os⟩
noncomputable abbrev sz(w:World)(os:OsState):Shared:=⟨boot_heap w.params,.mk [],boot_drawn,boot_toks,os⟩
theorem e0:∀w:World,(fun os=>topGo treeTable pg w 11 (some (.ref 6)) 12 (sz w os) (topStub pg))=fun os=>some (s0 w os,⟨denote treeTable cE,cE,⟨0,0,0,0⟩,B⟩):=by
 rw[W.Fast.te15667345088766844465,W.Fast.te14364793385576792824,W.Fast.te11892475500146522536];intro w;kernel_rfl
theorem e1:∀w:World,(fun os=>segRun treeTable pg w 11 (some (.ref 6)) 1 1 (s0 w os) (blockOf bd env cE ⟨0,0,0,0⟩ B))=fun os=>some (.next,(s1 w os).abs,cE,⟨0,0,0,0⟩):=by
 rw[W.Fast.te14374325043358763698,W.Fast.te14364793385576792824];intro w;kernel_rfl
theorem e2:∀w:World,(fun os=>segRunT treeTable pg w 11 (some (.ref 6)) 1 196 (s1 w os) (piecesOf (sl 0 2) env cE ⟨0,0,0,0⟩ B))=fun os=>some (.next,s2 w os,cE,⟨2,0,3,8⟩):=by
 rw[W.Fast.te10110043849684766642,W.Fast.te14364793385576792824];intro w;kernel_rfl
theorem e3:∀w:World,(fun os=>segRunT treeTable pg w 11 (some (.ref 6)) 1 382 (s2 w os) (piecesOf (sl 2 10) env cE ⟨2,0,3,8⟩ B))=fun os=>some (.next,s3 w os,cE,⟨17,0,22,20⟩):=by
 rw[W.Fast.te10110043849684766642,W.Fast.te14364793385576792824];refine byRow2 "special-get-raises" ?_ ?_<;>(intro w;kernel_rfl)
theorem e4:∀w:World,(fun os=>segRunT treeTable pg w 11 (some (.ref 6)) 1 350 (s3 w os) (piecesOf (sl 12 7) env cE ⟨17,0,22,20⟩ B))=fun os=>some (.next,s4 w os,cE,⟨35,0,35,4⟩):=by
 rw[W.Fast.te10110043849684766642,W.Fast.te14364793385576792824];refine byRow2 "special-get-raises" ?_ ?_<;>(intro w;kernel_rfl)
theorem e5:∀w:World,(fun os=>segRunT treeTable pg w 11 (some (.ref 6)) 1 174 (s4 w os) (piecesOf (sl 19 5) env cE ⟨35,0,35,4⟩ B))=fun os=>some (.next,s5 w os,cE,⟨57,0,58,76⟩):=by
 rw[W.Fast.te10110043849684766642,W.Fast.te14364793385576792824];refine byRow2 "special-get-raises" ?_ ?_<;>(intro w;kernel_rfl)
theorem e6:∀w:World,(fun os=>segRunT treeTable pg w 11 (some (.ref 6)) 1 375 (s5 w os) (piecesOf (sl 24 4) env cE ⟨57,0,58,76⟩ B))=fun os=>some (.next,s6 w os,cE,⟨80,0,89,37⟩):=by
 rw[W.Fast.te10110043849684766642,W.Fast.te14364793385576792824];intro w;kernel_rfl
theorem e7:∀w:World,(fun os=>segRunT treeTable pg w 11 (some (.ref 6)) 1 396 (s6 w os) (piecesOf (sl 28 14) env cE ⟨80,0,89,37⟩ B))=fun os=>some (.next,s7 w os,cE,⟨165,0,168,22⟩):=by
 rw[W.Fast.te10110043849684766642,W.Fast.te14364793385576792824];intro w;kernel_rfl
theorem e8:∀w:World,(fun os=>segRunT treeTable pg w 11 (some (.ref 6)) 1 122 (s7 w os) (piecesOf (sl 42 4) env cE ⟨165,0,168,22⟩ B))=fun os=>some (.next,s8 w os,cE,⟨209,0,217,15⟩):=by
 rw[W.Fast.te10110043849684766642,W.Fast.te14364793385576792824];intro w;kernel_rfl
theorem e9:∀w:World,(fun os=>topRun treeTable pg w 11 (some (.ref 6)) 2 (s8 w os).abs ⟨doneF .next,cE,⟨209,0,217,15⟩,B⟩)=fun os=>some (s9 w os):=by
 rw[W.Fast.te14082659384304107361,W.Fast.te14364793385576792824];intro w;kernel_rfl
noncomputable abbrev m9:Nat:=2
noncomputable abbrev t9:List Stmt:=[]
noncomputable abbrev R(w:World)(os:OsState)(m:Nat)(s:Shared)(t:List Stmt)(p:Pos):Prop:=topRun treeTable pg w 11 (some (.ref 6)) m s (restOf t env cE p B)=some (s9 w os)
theorem r9(w:World)(os:OsState):R w os m9 (s8 w os).abs t9 ⟨209,0,217,15⟩:=congrFun (e9 w) os
noncomputable abbrev m8:Nat:=122+m9
noncomputable abbrev t8:List Stmt:=sl 42 4++t9
theorem r8(w:World)(os:OsState):R w os m8 (s7 w os).abs t8 ⟨165,0,168,22⟩:=piece_app (segRun_of (congrFun (e8 w) os)) (r9 w os)
noncomputable abbrev m7:Nat:=396+m8
noncomputable abbrev t7:List Stmt:=sl 28 14++t8
theorem r7(w:World)(os:OsState):R w os m7 (s6 w os).abs t7 ⟨80,0,89,37⟩:=piece_app (segRun_of (congrFun (e7 w) os)) (r8 w os)
noncomputable abbrev m6:Nat:=375+m7
noncomputable abbrev t6:List Stmt:=sl 24 4++t7
theorem r6(w:World)(os:OsState):R w os m6 (s5 w os).abs t6 ⟨57,0,58,76⟩:=piece_app (segRun_of (congrFun (e6 w) os)) (r7 w os)
noncomputable abbrev m5:Nat:=174+m6
noncomputable abbrev t5:List Stmt:=sl 19 5++t6
theorem r5(w:World)(os:OsState):R w os m5 (s4 w os).abs t5 ⟨35,0,35,4⟩:=piece_app (segRun_of (congrFun (e5 w) os)) (r6 w os)
noncomputable abbrev m4:Nat:=350+m5
noncomputable abbrev t4:List Stmt:=sl 12 7++t5
theorem r4(w:World)(os:OsState):R w os m4 (s3 w os).abs t4 ⟨17,0,22,20⟩:=piece_app (segRun_of (congrFun (e4 w) os)) (r5 w os)
noncomputable abbrev m3:Nat:=382+m4
noncomputable abbrev t3:List Stmt:=sl 2 10++t4
theorem r3(w:World)(os:OsState):R w os m3 (s2 w os).abs t3 ⟨2,0,3,8⟩:=piece_app (segRun_of (congrFun (e3 w) os)) (r4 w os)
noncomputable abbrev m2:Nat:=196+m3
noncomputable abbrev t2:List Stmt:=sl 0 2++t3
theorem r2(w:World)(os:OsState):R w os m2 (s1 w os).abs t2 ⟨0,0,0,0⟩:=piece_app (segRun_of (congrFun (e2 w) os)) (r3 w os)
theorem tb:bd=t2:=by kernel_rfl
theorem run(w:World)(os:OsState):topRun treeTable pg w 11 (some (.ref 6)) (12+(1+m2)) (sz w os) (topStub pg)=some (s9 w os):=by
 have r:=r2 w os
 unfold R at r
 rw[<-congrArg (fun x=>restOf x env cE ⟨0,0,0,0⟩ B) tb]at r
 exact go_top (congrFun (e0 w) os) (piece_block (congrFun (e1 w) os) r)
theorem op:∀w:World,(fencedOpening treeTable pg w 4102).map (fun s=>(s.heap,s.gens,s.drawn,s.toks))=some (boot_heap w.params,Array.mk [],boot_drawn,boot_toks):=
 boot_open (by kernel_rfl) (by decide) (fun s=>by kernel_rfl)
theorem size:∀w:World,((boot_heap w.params).isNs mainGlobals&&(Array.mk []:Array GenState).size==0,(boot_heap w.params).objs.size,(boot_heap w.params).nsMap mainGlobals "__annotations__")=(true,11,(some (.ref 6))):=by
 rw[W.Fast.te8920871248978507458];intro w;kernel_rfl
noncomputable def K(P:Params):Frag:=(nat_lit 3,ns P (en P "__name__" 165 (.str "law_duskbook_k59_papers_read" 466)) 49 50)::(nat_lit 45,oC "is_beacon" 227 8 1 40 (.ref 42) (.ref 43) 44 181 231)::(nat_lit 46,oF "is_beacon" 5 p0 45)::(nat_lit 47,⟨(.type "dict"),none,(.dict #[en P "+" 240 (.bool true),en P "-" 241 (.bool false)] 2),#[]⟩)::(nat_lit 53,oC "saying_written" 245 14 1 48 (.ref 50) (.ref 51) 52 181 250)::(nat_lit 54,oF "saying_written" 10 p1 53)::(nat_lit 58,oC "number_read" 253 17 1 55 .none .none 57 181 256)::(nat_lit 59,oF "number_read" 11 p1 58)::(nat_lit 65,oC "beacon_read" 259 23 1 60 (.ref 62) (.ref 63) 64 181 264)::(nat_lit 66,oF "beacon_read" 12 p1 65)::(nat_lit 72,oC "saying_read" 267 26 1 67 (.ref 69) (.ref 70) 71 181 272)::(nat_lit 73,oF "saying_read" 13 p1 72)::(nat_lit 74,⟨(.type "dict"),none,(.dict #[en P "yes" 279 (.bool true),en P "no" 280 (.bool false)] 2),#[]⟩)::(nat_lit 75,⟨(.type "dict"),none,(.dict #[en P "broken" 284 (.ref 76),en P "clash" 285 (.ref 77),en P "cross" 288 (.ref 78),en P "late" 290 (.ref 79),en P "odd" 293 (.ref 80),en P "lone" 295 (.ref 81),en P "plan" 299 (.ref 82),en P "sums" 301 (.ref 83),en P "rows" 303 (.ref 84)] 9),#[]⟩)::(nat_lit 76,tu [])::(nat_lit 77,tu [(.str "road" 286),(.str "road" 287)])::(nat_lit 78,tu [(.str "road" 289)])::(nat_lit 79,tu [(.str "road" 291),(.str "road" 292)])::(nat_lit 80,tu [(.str "places" 294)])::(nat_lit 81,tu [(.str "source" 296),(.str "places" 297),(.str "places" 298)])::(nat_lit 82,tu [(.str "plan rows" 300)])::(nat_lit 83,tu [(.str "sum rows" 302)])::(nat_lit 84,tu [(.str "beacons" 304),(.str "if rows" 305)])::(nat_lit 85,⟨(.type "dict"),none,(.dict #[en P "plan rows" 316 (.ref 86),en P "sum rows" 320 (.ref 87),en P "if rows" 324 (.ref 88)] 3),#[]⟩)::(nat_lit 86,tu [(.str "beacon" 317),(.str "source" 318),(.str "truth" 319)])::(nat_lit 87,tu [(.str "beacon" 321),(.str "beacons" 322),(.str "truth" 323)])::(nat_lit 88,tu [(.str "beacon" 325),(.str "beacons" 326)])::(nat_lit 89,⟨(.type "dict"),none,(.dict #[en P "road" 331 (.str "saying" 332),en P "places" 333 (.str "place" 334),en P "beacons" 335 (.str "beacon" 336)] 3),#[]⟩)::(nat_lit 95,oC "thing_written" 341 37 2 90 (.ref 92) (.ref 93) 94 181 346)::(nat_lit 96,oF "thing_written" 20 p2 95)::(nat_lit 100,oC "part_written" 349 43 2 97 .none .none 99 181 352)::(nat_lit 101,oF "part_written" 21 p2 100)::(nat_lit 107,oC "parts_written" 355 52 2 102 (.ref 104) (.ref 105) 106 181 363)::(nat_lit 108,oF "parts_written" 22 p2 107)::(nat_lit 114,oC "paper_written" 366 57 1 109 (.ref 111) (.ref 112) 113 181 370)::(nat_lit 115,oF "paper_written" 23 p2 114)::(nat_lit 128,⟨(.type "code"),none,(.fields #[(.str "__init__" 385),(.str "Reader.__init__" 386),(.str "/claim/cut.py" 387),(.int (61) 0),(.int (2) 0),(.int (0) 0),(.int (0) 0),(.int (3) 0),(.ref 123),(.bool true),(.int (181) 0),(.ref 124),.none,(.ref 125),(.ref 126),(.ref 127),(.int (390) 0),(.int (61) 0),(.str "/claim/cut.py" 391)]),#[]⟩)::(nat_lit 129,oM "__init__" "Reader.__init__" 24 0 p2 128)::(nat_lit 135,⟨(.type "code"),none,(.fields #[(.str "is_at_end" 393),(.str "Reader.is_at_end" 394),(.str "/claim/cut.py" 395),(.int (65) 0),(.int (1) 0),(.int (0) 0),(.int (0) 0),(.int (3) 0),(.ref 130),(.bool true),(.int (181) 0),(.ref 131),.none,(.ref 132),(.ref 133),(.ref 134),(.int (397) 0),(.int (65) 0),(.str "/claim/cut.py" 398)]),#[]⟩)::(nat_lit 136,oM "is_at_end" "Reader.is_at_end" 24 1 p2 135)::(nat_lit 142,⟨(.type "code"),none,(.fields #[(.str "taken" 400),(.str "Reader.taken" 401),(.str "/claim/cut.py" 402),(.int (68) 0),(.int (1) 0),(.int (0) 0),(.int (0) 0),(.int (3) 0),(.ref 137),(.bool true),(.int (181) 0),(.ref 138),.none,(.ref 139),(.ref 140),(.ref 141),(.int (404) 0),(.int (68) 0),(.str "/claim/cut.py" 405)]),#[]⟩)::(nat_lit 143,oM "taken" "Reader.taken" 24 2 p2 142)::(nat_lit 145,⟨(.type "dict"),none,(.dict #[en P "__module__" 380 (.str "duskbook.papertexts" 275),en P "__firstlineno__" 384 (.int (59) 383),en P "__init__" 392 (.ref 129),en P "is_at_end" 399 (.ref 136),en P "taken" 406 (.ref 143),en P "__static_attributes__" 409 (.ref 144),en P "__dict__" 411 (.ref 147),en P "__weakref__" 413 (.ref 148),en P "__doc__" 414 .none] 4),#[]⟩)::(nat_lit 146,⟨(.type "type"),none,(.cls ⟨"Reader",[(.type "object")],[(.ref 146),(.type "object")],145,"Reader",true,[],[],false,none,false⟩),#[none,none,(some (.str "Reader" 373)),(some (.str "Reader" 381)),(some (.builtin "object.__new__")),(some (.bool true))]⟩)::(nat_lit 156,oC "place_read" 417 73 1 151 (.ref 153) (.ref 154) 155 181 422)::(nat_lit 157,oF "place_read" 25 p2 156)::(nat_lit 163,oC "checked" 425 76 1 158 (.ref 160) (.ref 161) 162 181 429)::(nat_lit 164,oF "checked" 26 p2 163)::(nat_lit 170,oC "thing_read" 432 80 2 165 (.ref 167) (.ref 168) 169 181 437)::(nat_lit 171,oF "thing_read" 27 p2 170)::(nat_lit 177,oC "part_read" 440 90 2 172 (.ref 174) (.ref 175) 176 181 447)::(nat_lit 178,oF "part_read" 28 p2 177)::(nat_lit 182,oC "parts_read" 450 100 2 179 .none .none 181 181 453)::(nat_lit 183,oF "parts_read" 29 p2 182)::(nat_lit 189,oC "paper_read" 456 102 1 184 (.ref 186) (.ref 187) 188 181 463)::(nat_lit 190,oF "paper_read" 30 p2 189)::(nat_lit 196,oC "_law_mixed" 468 112 2 191 (.ref 193) (.ref 194) 195 181 473)::(nat_lit 197,oF "_law_mixed" 32 p3 196)::(nat_lit 203,oC "_law_next" 476 114 1 198 (.ref 200) (.ref 201) 202 181 480)::(nat_lit 204,oF "_law_next" 33 p3 203)::(nat_lit 210,oC "_law_many" 483 118 2 205 (.ref 207) (.ref 208) 209 181 489)::(nat_lit 211,oF "_law_many" 34 p3 210)::(nat_lit 217,oC "_law_any_road" 492 123 1 212 (.ref 214) (.ref 215) 216 181 499)::(nat_lit 218,oF "_law_any_road" 35 p3 217)::(nat_lit 222,oC "_law_any_numbers" 502 129 2 219 .none .none 221 181 505)::(nat_lit 223,oF "_law_any_numbers" 36 p3 222)::(nat_lit 229,oC "_law_any_rows" 508 131 2 224 (.ref 226) (.ref 227) 228 181 516)::(nat_lit 230,oF "_law_any_rows" 37 p3 229)::(nat_lit 236,oC "_law_any" 519 142 1 231 (.ref 233) (.ref 234) 235 181 528)::(nat_lit 237,oF "_law_any" 38 p3 236)::(nat_lit 241,oC "_law_number_words" 531 161 1 238 .none .none 240 181 534)::(nat_lit 242,oF "_law_number_words" 39 p3 241)::(nat_lit 246,oC "_law_road_words" 537 163 1 243 .none .none 245 181 540)::(nat_lit 247,oF "_law_road_words" 40 p3 246)::(nat_lit 253,oC "_law_free_word" 543 165 1 248 (.ref 250) (.ref 251) 252 181 547)::(nat_lit 254,oF "_law_free_word" 41 p3 253)::(nat_lit 260,oC "_law_rows_words" 550 169 2 255 (.ref 257) (.ref 258) 259 181 557)::(nat_lit 261,oF "_law_rows_words" 42 p3 260)::(nat_lit 267,oC "_law_paper_words" 560 180 1 262 (.ref 264) (.ref 265) 266 181 566)::(nat_lit 268,oF "_law_paper_words" 43 p3 267)::(nat_lit 272,oC "_law_same" 569 197 2 269 .none .none 271 181 572)::(nat_lit 273,oF "_law_same" 44 p3 272)::(nat_lit 279,oC "law" 575 209 1 274 (.ref 276) (.ref 277) 278 181 582)::(nat_lit 280,oF "law" 45 p3 279)::[]
noncomputable def hk:Hook:=kHook K (3::45::46::47::53::54::58::59::65::66::72::73::74::75::76::77::78::79::80::81::82::83::84::85::86::87::88::89::95::96::100::101::107::108::114::115::128::129::135::136::142::143::145::146::156::157::163::164::170::171::177::178::182::183::189::190::196::197::203::204::210::211::217::218::222::223::229::230::236::237::241::242::246::247::253::254::260::261::267::268::272::273::279::280::[]) (fun _=>by kernel_rfl)
noncomputable def Q:Program:={ pg with main:={ pg.main with body:=[Lw.top 45] } }
noncomputable def ls:List Str:=(["DuskError","NoPaper","BEACON_COUNT","is_beacon","FIGURES","MOST_FIGURES","TRUTHS_BY_MARK","saying_written","number_read","beacon_read","saying_read","MOST_NUMBER","TRUTHS_BY_WORD","PAPERS","ROWS","SEVERAL","thing_written","part_written","parts_written","paper_written","Reader","place_read","checked","thing_read","part_read","parts_read","paper_read","_law_mixed","_law_next","_law_many","_law_any_road","_law_any_numbers","_law_any_rows","_law_any","_law_number_words","_law_road_words","_law_free_word","_law_rows_words","_law_paper_words","_law_same"]).map Str.ofString
noncomputable abbrev Xt(s:Shared):Bool:=xlAt Q [] s&&recOk (RowW.records (OpenRow.toRowW PySem.Challenge.rw_duskbook_k59_papers_read.row)) s
theorem y2c:∀w:World,(fun os=>((staticsOk (importedModules pg.main.body) (boot_heap w.params) (h9 w.params)&&namesBound pg (h9 w.params)&&gensDone (s9 w os)&&laidKept (boot_heap w.params) (h9 w.params)),openSeen Q ls (importedModules pg.main.body) Xt true (s9 w os),Hook.obs hk (s9 w os)))=fun _=>(true,openGood Q ls,Hook.val hk w):=by
 rw[W.Fast.te5923862056798008813,W.Fast.te4187177175401517315];intro w;kernel_rfl
theorem left:LeftO pg Q ls Xt (Hook.obs hk) (Hook.val hk) 4102:=LeftO.of_pieces (H₁:=h9) (M:=12+(1+m2)) op size run (by decide) y2c
end Op
open PySem PySem.W PyProof.Rows
set_option maxRecDepth 100000 in
theorem PySem.Challenge.cw_duskbook_k59_papers_read_holds : PySem.Challenge.rw_duskbook_k59_papers_read.Holds := by
 w_on;o_law
 refine holds_open (q:=Op.Q) (loose:=Op.ls) (Xt:=Op.Xt) (XP:=XL Op.Q []) (Yf:=Hook.obs Op.hk) (Ya:=Hook.val Op.hk) (YP:=InK Op.K) (N:=4102) Op.left (Hook.of Op.hk) (Hook.keeps Op.hk) (fun s e=>xl_of s (Bool.and_eq_true_iff.mp e).1) XL.keeps (by rfl) (by rfl) (by rfl) (fun s e=>recFacts_of (Bool.and_eq_true_iff.mp e).2) (by rfl) (by assumption) (by decide +kernel) ⟨rfl,rfl,rfl,rfl,rfl,by decide +kernel⟩ ?hw ?hc
 (case hw=>w_witness2)
 k_fill
 refine Lw.walk Lw.law_true (l:=PySem.Challenge.rw_duskbook_k59_papers_read) rfl rfl (K:=Op.K) (fun w h Y=>Y) ?F
 case F=>
  intro w mg fa h KX G hmg
  refine' Lw.all_mk KX G hmg ?_ ?_ ?_ ?_ ?_ ?_ ?_ ?_ ?_ ?_ ?_ ?_ ?_ ?_ ?_ ?_ ?_ ?_ ?_ ?_ ?_ ?_ ?_ ?_ ?_ ?_ ?_ ?_ ?_ ?_ ?_ ?_ ?_ ?_ ?_ ?_ ?_ ?_ ?_ ?_ ?_ ?_ ?_ ?_ ?_ ?_ ?_ ?_ ?_ ?_ ?_ ?_ ?_ ?_ ?_ ?_ ?_ ?_ ?_ ?_ ?_ ?_ ?_ ?_ ?_ ?_ ?_ ?_ ?_ ?_ ?_ ?_ ?_ ?_
  all_goals (try (first | (refine' M.mq_mk ?a ?pg ?hd ?po ?sa ?i ?n ?l ?cd ?k;(case a=>k_is);(case pg=>k_is);(case hd=>k_is);(case po=>k_is);(case sa=>k_is);(case i=>k_is);(case n=>k_is);(case l=>k_is);(case cd=>k_is);(case k=>k_is)) | (refine' M.nq_mk ?a ?pg ?hd ?po ?sa ?n;(case a=>k_is);(case pg=>k_is);(case hd=>k_is);(case po=>k_is);(case sa=>k_is);(case n=>k_is)) | (refine' M.iqr_mk ?a ?mk ?kc ?i ?n ?l ?cd ?k;(case a=>k_is);(case mk=>k_is);(case kc=>k_is);(case i=>k_is);(case n=>k_is);(case l=>k_is);(case cd=>k_is);(case k=>k_is)) | k_is | (refine' Lw.fk_mk ?a ?l ?c ?k;(case a=>k_is);(case l=>k_is);(case c=>k_is);(case k=>k_is))))
