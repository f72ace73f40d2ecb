import PyProof.Rows.All
import Wide.All
import OpenK.AllK
import Wide.FinOn
import Lean
import PyProof.EqAt
import PyProof.EqKinds
import PyProof.TupleCall
import PySem.Challenge.RW_duskbook_k39_watches_refused
set_option Elab.async false
set_option linter.all false
set_option maxRecDepth 100000
abbrev fsc(l:List (PySem.Str × PySem.NameKind)):PySem.Scope:={ kind:=.function,names:=l,isGenerator:=false,isCoroutine:=false,more:=[] }
theorem qa{α β:Type _}{o:Option α}{f:α->Option β}{b:β}(h:o.bind f=some b):∃a,o=some a/\f a=some b:=Option.bind_eq_some_iff.mp h
theorem qb{α β:Type _}{o:Option α}{f:α->β}{b:β}(h:o.map f=some b):∃a,o=some a/\f a=b:=Option.map_eq_some_iff.mp h
def qc:=@Option.bind_some
def qd:=@PySem.Heap.get?_push_of_some
def qe:=@List.length_map
def qf:=@List.mem_cons_of_mem
def qg:=@List.mem_cons_self
def qh:=@Bool.false_ne_true
def qi:=@Array.length_toList
def qj:=@List.size_toArray
def qk:=@PySem.Heap.lt_size
def ql:=@Nat.ne_of_lt
theorem qm{α:Type _}{l:List α}{i:Nat}{a:α}(h:l[i]?=some a):∃h:i < l.length,l[i]=a:=List.getElem?_eq_some_iff.mp h
def qo:=@PySem.Heap.get?_push_size
def qp:=@List.getElem?_eq_getElem
def qq:=@List.length_cons
theorem qr{α:Type _}{a b:α}{l:List α}(h:a∈b::l):a=b\/a∈l:=List.mem_cons.mp h
def qs:=@Nat.le_refl
theorem qt{α:Type _}{a:α}{s t:List α}(h:a∈s++t):a∈s\/a∈t:=List.mem_append.mp h
def qu:=@Nat.lt_succ_of_lt
theorem qv{α β:Type _}{b:β}{f:α->β}{l:List α}(h:b∈l.map f):∃a,a∈l/\f a=b:=List.mem_map.mp h
def qw:=@List.length_append
def qx:=@Nat.lt_succ_self
def qy:=@List.getElem?_set_ne
def qz:=@List.map_cons
def Qa:=@Nat.lt_of_lt_of_le
def Qb:=@Nat.le_trans
def Qc:=@List.getElem?_map
def Qd:=@List.mem_append_right
set_option maxHeartbeats 4000000
noncomputable section
namespace L2
open PySem PySem.Spec PyProof.Rows
abbrev Key:=Sum Int Str
def Ywe:Key->Value->Bool
 | .inl k,v=>Value.isInt k v
 | .inr x,v=>Value.isStrOf x v
def keyH(w:World):Key->Int
 | .inl k=>hashInt k
 | .inr x=>hashStr w x
theorem Yat:∀{k:Key} {v:Value},Ywe k v=true->(∃i t,k=Sum.inl i/\v=Value.int i t)\/(∃x t,k=Sum.inr x/\v=Value.str x t)
 | .inl i,v,h=>by
   obtain⟨t,e⟩:=Value.isInt_shape (k:=i) (v:=v) h
   exact .inl ⟨i,t,rfl,e⟩
 | .inr x,v,h=>by
   obtain⟨t,e⟩:=Value.isStrOf_shape (x:=x) (v:=v) h
   exact .inr ⟨x,t,rfl,e⟩
theorem Ywf(a b:Int):decide ((Sum.inl a:Key)=Sum.inl b)=(a==b):=by
 by_cases e:a=b
 ·subst e;simp
 ·have h:¬(Sum.inl a:Key)=Sum.inl b:=fun q=>e (Sum.inl.inj q)
  rw[decide_eq_false h]
  exact(beq_eq_false_iff_ne.mpr e).symm
theorem Ywg(a b:Str):decide ((Sum.inr a:Key)=Sum.inr b)=decide (a=b):=by
 by_cases e:a=b
 ·subst e;simp
 ·have h:¬(Sum.inr a:Key)=Sum.inr b:=fun q=>e (Sum.inr.inj q)
  rw[decide_eq_false h,decide_eq_false e]
theorem Ywh(a:Int)(b:Str):decide ((Sum.inl a:Key)=Sum.inr b)=false:=decide_eq_false (fun q=>nomatch q)
theorem Ywi(a:Str)(b:Int):decide ((Sum.inr a:Key)=Sum.inl b)=false:=decide_eq_false (fun q=>nomatch q)
def Ylq(prog:Program)(w:World):KeyKind prog w Key where
 is:=Ywe
 hash:=keyH w
 inj:=fun v a b ha hb=>by
  rcases Yat ha with⟨i,t,rfl,rfl⟩ | ⟨x,t,rfl,rfl⟩
  ·rcases Yat hb with⟨j,u,rfl,e⟩ | ⟨y,u,rfl,e⟩
   ·injection e with e1 _;rw[e1]
   ·exact nomatch e
  ·rcases Yat hb with⟨j,u,rfl,e⟩ | ⟨y,u,rfl,e⟩
   ·exact nomatch e
   ·injection e with e1 _;rw[e1]
 byValue:=fun k v h=>by
  rcases Yat h with⟨i,t,rfl,rfl⟩ | ⟨x,t,rfl,rfl⟩<;>rfl
 pyHash:=fun hv h=>by
  rcases Yat hv with⟨i,t,rfl,rfl⟩ | ⟨x,t,rfl,rfl⟩
  ·exact wpAny_pyHash_int h
  ·exact wpAny_pyHash_str h
 eqBool:=fun hu hv h=>by
  rcases Yat hu with⟨i,t,rfl,rfl⟩ | ⟨x,t,rfl,rfl⟩
  ·rcases Yat hv with⟨j,u,rfl,rfl⟩ | ⟨y,u,rfl,rfl⟩
   ·rw[Ywf]at h;exact wpAny_eqBool_int h
   ·rw[Ywh]at h;exact SeqAt.EqAt.int_str i t y u _ _ _ _ h
  ·rcases Yat hv with⟨j,u,rfl,rfl⟩ | ⟨y,u,rfl,rfl⟩
   ·rw[Ywi]at h;exact SeqAt.EqAt.str_int x t j u _ _ _ _ h
   ·rw[Ywg]at h;exact wpAny_eqBool_str h
 «strs»:=fun k x t v h=>by
  rcases Yat h with⟨i,u,rfl,e⟩ | ⟨y,u,rfl,e⟩
  ·exact nomatch e
  ·injection e with e1 _
   subst e1
   cases v<;>rfl
end L2
namespace L2
open PySem PySem.Spec PyProof.Rows
inductive V where
 | non | bl (b:Bool) | int (i:Int) | str (x:Str) | byt (b:Array UInt8) | flt (b:UInt64) | ref (a:Addr) | ty (n:String)
 deriving DecidableEq
def RelV:V->Value->Prop
 | .non,u=>u=Value.none
 | .bl b,u=>u=Value.bool b
 | .int i,u=>∃t,u=Value.int i t
 | .str x,u=>∃t,u=Value.str x t
 | .byt b,u=>∃t,u=Value.bytes b t
 | .flt b,u=>∃t,u=Value.float b t
 | .ref a,u=>u=Value.ref a
 | .ty n,u=>u=Value.type n
abbrev Vals:List V->List Value->Prop:=Paired RelV
theorem Vals.length{xs:List V}{us:List Value}(r:Vals xs us):xs.length=us.length:=Paired.length r
theorem Vals.get:∀{xs:List V} {us:List Value} {i:Nat} {x:V},Vals xs us->xs[i]?=some x->∃u,us[i]?=some u/\RelV x u
 | _,_,_,_,.nil,e=>by simp at e
 | _,_,0,_,.cons r _,e=>by simp at e;subst e;exact⟨_,rfl,r⟩
 | _,_,i+1,x,.cons _ t,e=>by
   obtain⟨u,h1,h2⟩:=Vals.get (i:=i) (x:=x) t (by simpa using e)
   exact⟨u,by simpa using h1,h2⟩
theorem Vals.append:∀{xs ys:List V} {us ws:List Value},Vals xs us->Vals ys ws->Vals (xs++ys) (us++ws)
 | _,_,_,_,.nil,s=>s
 | _,_,_,_,.cons r t,s=>.cons r (Vals.append t s)
theorem Vals.take:∀{xs:List V} {us:List Value} (n:Nat),Vals xs us->Vals (xs.take n) (us.take n)
 | _,_,0,_=>.nil
 | _,_,_+1,.nil=>.nil
 | _,_,n+1,.cons r t=>.cons r (Vals.take n t)
theorem Vals.drop:∀{xs:List V} {us:List Value} (n:Nat),Vals xs us->Vals (xs.drop n) (us.drop n)
 | _,_,0,r=>r
 | _,_,_+1,.nil=>.nil
 | _,_,n+1,.cons _ t=>Vals.drop n t
def RelO:Option V->Option Value->Prop
 | some v,some u=>RelV v u
 | none,none=>True
 | _,_=>False
def KV{κ:Type}:List (κ × V)->List (κ × Value)->Prop:=Paired fun(p:κ × V) (q:κ × Value)=>p.1=q.1/\RelV p.2 q.2
def kV:Key->V
 | .inl i=>.int i
 | .inr x=>.str x
inductive HO where
 | lst (xs:List V)
 | tup (xs:List V)
 | dK (kvs:List (Key × V)) | dT (kvs:List (List Key × V))
 | set (S:Int->Bool) (n:Nat)
 | ins (C dx:Addr) (fs:List (Str × V))
 | own (x:Addr)
 | xd (fs:List (Str × V))
 | met (f x:Addr)
 | rng (lo hi:Int)
 | frz (o:Obj) (u:HO)
 | tbl (ps:Array Value)
 | ext (φ:Heap->Prop)
abbrev Hp:=Addr->Option HO
def upd(H:Hp)(a:Addr)(o:HO):Hp:=fun b=>if b=a then some o else H b
theorem Yo{H:Hp}{a:Addr}{o:HO}:upd H a o a=some o:=by unfold upd;rw[if_pos rfl]
theorem Yk{H:Hp}{a b:Addr}{o:HO}(h:b≠a):upd H a o b=H b:=by unfold upd;rw[if_neg h]
theorem Yv{H:Hp}{a b:Addr}{o:HO}(h:H a=some o)(h':H b=none):a≠b:=by
 intro e;subst e;rw[h]at h';cases h'
section
variable (P:Program) (w:World)
def ObjOk(H:Hp)(h:Heap)(a:Addr):HO->Prop
 | .lst xs=>xs.length<=sizeLine/\∃(its:List Value) (n:Nat),Vals xs its/\h.get? a=some { cls:=.type "list",data:=.seq its.toArray n }
 | .tup xs=>xs.length<=sizeLine/\∃its:List Value,Vals xs its/\IsTup h a its.toArray
 | .dK kvs=>kvs.length<=sizeLine/\(a==sysModules)=false/\∃vs,KV kvs vs/\h.DictOf (Ylq P w) a vs
 | .dT kvs=>kvs.length<=sizeLine/\(a==sysModules)=false/\∃xs:List (List Key × Addr × Value),
  Paired (fun(p:List Key × V) (q:List Key × Addr × Value)=>p.1=q.1/\H q.2.1=some (.tup (p.1.map kV))/\RelV p.2 q.2.2) kvs xs/\
  ∃o es ep,h.get? a=some o/\o.ExactDict/\o.data=.dict es ep/\es.toList=xs.map (entryOfKey (tupleKind (Ylq P w)))/\(xs.map (·.1)).Nodup
 | .set S n=>h.SetOf (intKind P w) a S n
 | .ins C dx fs=>H dx=some (.own a)/\fs.length<=1000/\dx≠a/\h.get? a=some (W.instObj C dx)/\
  ∃mA,h.Ns1 dx mA/\(∀f,RelO (fs.lookup f) (mA f))/\PySem.Within mA (fs.map (·.1))
 | .own _=>∃o,h.get? a=some o
 | .xd fs=>∃mA,h.Ns1 a mA/\∀f,RelO (fs.lookup f) (mA f)
 | .rng lo hi=>∃t u v,h.get? a=some { cls:=.type "range",data:=.fields #[.int lo t,.int hi u,.int 1 v] }
 | .frz o u=>h.get? a=some o/\ObjOk H h a u
 | .tbl ps=>h.get? a=some { cls:=.none,data:=.fields ps }
 | .met f x=>h.get? a=some (W.methodObj (.ref f) (.ref x))
 | .ext φ=>φ h/\(∃o,h.get? a=some o)/\∀h1 h2:Heap,φ h1->(∀o,h1.get? a=some o->h2.get? a=some o)->φ h2
def HOk(H:Hp)(h:Heap):Prop:=∀a o,H a=some o->ObjOk P w H h a o
end
section
variable {P:Program} {w:World} {H H':Hp} {h h':Heap} {a:Addr} {o:HO}
theorem ObjOk.lt(x:ObjOk P w H h a o):a < h.objs.size:=by
 cases o with
 | lst xs=>obtain⟨_,_,_,_,e⟩:=x;exact qk e
 | tup xs=>obtain⟨_,_,_,p⟩:=x;exact p.lt
 | dK kvs=>obtain⟨_,_,_,_,o,_,_,e,_⟩:=x;exact qk e
 | dT kvs=>obtain⟨_,_,_,_,o,_,_,e,_⟩:=x;exact qk e
 | set S n=>obtain⟨o,_,_,_,e,_⟩:=x;exact qk e
 | ins C dx fs=>obtain⟨_,_,_,e,_⟩:=x;exact qk e
 | own y=>obtain⟨_,e⟩:=x;exact qk e
 | xd fs=>obtain⟨_,⟨_,_,_,e,_⟩,_⟩:=x;exact qk e
 | rng lo hi=>obtain⟨_,_,_,e⟩:=x;exact qk e
 | frz ob u=>obtain⟨e,_⟩:=x;exact qk e
 | tbl ps=>exact qk (show h.get? a=some _ from x)
 | met f y=>exact qk (show h.get? a=some _ from x)
 | ext φ=>obtain⟨_,⟨_,e⟩,_⟩:=x;exact qk e
theorem Paired.mapP{α β:Type}{F G:α->β->Prop}:∀{l₁:List α} {l₂:List β},Paired F l₁ l₂->(∀a b,F a b->G a b)->Paired G l₁ l₂
 | _,_,.nil,_=>.nil
 | _,_,.cons r t,f=>.cons (f _ _ r) (Paired.mapP t f)
theorem ObjOk.stay(x:ObjOk P w H h a o)(k:∀b u,(b=a\/H b=some (.own a))->h.get? b=some u->h'.get? b=some u)
 (ho:∀b,H b=some (.own a)->H' b=some (.own a)) (ht:∀b xs,H b=some (.tup xs)->H' b=some (.tup xs)):ObjOk P w H' h' a o:=by
 induction o with
 | lst xs=>obtain⟨z,its,n,r,e⟩:=x;exact⟨z,its,n,r,k _ _ (.inl rfl) e⟩
 | tup xs=>obtain⟨z,its,r,ob,e,c⟩:=x;exact⟨z,its,r,ob,k _ _ (.inl rfl) e,c⟩
 | dK kvs=>obtain⟨z,y,vs,r,ob,es,ep,e,c⟩:=x;exact⟨z,y,vs,r,ob,es,ep,k _ _ (.inl rfl) e,c⟩
 | dT kvs=>
   obtain⟨z,y,xs,r,ob,es,ep,e,c⟩:=x
   exact⟨z,y,xs,Paired.mapP r fun p q z=>⟨z.1,ht _ _ z.2.1,z.2.2⟩,ob,es,ep,k _ _ (.inl rfl) e,c⟩
 | set S n=>obtain⟨ob,es,ep,t,e,c⟩:=x;exact⟨ob,es,ep,t,k _ _ (.inl rfl) e,c⟩
 | ins C dx fs=>
   obtain⟨d,z,ne,e,mA,⟨od,es,ep,e2,c⟩,r⟩:=x
   exact⟨ho _ d,z,ne,k _ _ (.inl rfl) e,mA,⟨od,es,ep,k _ _ (.inr d) e2,c⟩,r⟩
 | own y=>obtain⟨ob,e⟩:=x;exact⟨ob,k _ _ (.inl rfl) e⟩
 | xd fs=>obtain⟨mA,⟨od,es,ep,e,c⟩,r⟩:=x;exact⟨mA,⟨od,es,ep,k _ _ (.inl rfl) e,c⟩,r⟩
 | rng lo hi=>obtain⟨t,u,v,e⟩:=x;exact⟨t,u,v,k _ _ (.inl rfl) e⟩
 | frz ob u ih=>obtain⟨e,q⟩:=x;exact⟨k _ _ (.inl rfl) e,ih q⟩
 | tbl ps=>
   have e:h.get? a=some { cls:=.none,data:=.fields ps }:=x
   show h'.get? a=some { cls:=.none,data:=.fields ps }
   exact k a _ (.inl rfl) e
 | met f y=>
   have e:h.get? a=some (W.methodObj (.ref f) (.ref y)):=x
   show h'.get? a=some (W.methodObj (.ref f) (.ref y))
   exact k a _ (.inl rfl) e
 | ext φ=>obtain⟨p,⟨o,e⟩,st⟩:=x;exact⟨st _ _ p fun o q=>k _ _ (.inl rfl) q,⟨o,k _ _ (.inl rfl) e⟩,st⟩
theorem HOk.lt(x:HOk P w H h)(e:H a=some o):a < h.objs.size:=(x a o e).lt
theorem HOk.fresh(x:HOk P w H h)(e:h.objs.size<=a):H a=none:=by
 cases q:H a with
 | none=>rfl
 | some u=>exact absurd (Qa (x.lt q) e) (Nat.lt_irrefl _)
theorem HOk.kept(x:HOk P w H h)(k:∀b u,h.get? b=some u->h'.get? b=some u):HOk P w H h':=fun a o e=>
 (x a o e).stay (fun b u _ q=>k b u q) (fun _ q=>q) fun _ _ q=>q
theorem HOk.laid(x:HOk P w H h)(k:∀b u,h.get? b=some u->h'.get? b=some u)(hp:h.objs.size<=a)(new:ObjOk P w (upd H a o) h' a o):HOk P w (upd H a o) h':=fun b u e=>by
 have hn:=x.fresh hp
 by_cases hb:b=a
 ·subst hb;rw[Yo]at e;cases e;exact new
 ·rw[Yk hb]at e
  exact(x b u e).stay (fun c v _ q=>k c v q) (fun c q=>by rw[Yk (Yv q hn)];exact q) fun c xs q=>by rw[Yk (Yv q hn)];exact q
end
def Rd(H:Hp)(a:Addr)(u:HO):Prop:=H a=some u\/∃o,H a=some (.frz o u)
theorem Rd.ok{P:Program}{w:World}{H:Hp}{h:Heap}{a:Addr}{u:HO}(r:Rd H a u)(x:HOk P w H h):ObjOk P w H h a u:=by
 rcases r with r | ⟨o,r⟩
 ·exact x a u r
 ·obtain⟨_,q⟩:=x a _ r
  exact q
def Mut:Option HO->Prop
 | some (.lst _)=>True
 | some (.dK _)=>True
 | some (.dT _)=>True
 | some (.set _ _)=>True
 | some (.ins _ _ _)=>True
 | some (.ext _)=>True
 | _=>False
section
variable {P:Program} {w:World} {H:Hp} {h h':Heap} {x e:Addr} {o':HO}
theorem HOk.write(ok:HOk P w H h)(mu:Mut (H x))(he:e=x\/H e=some (.own x))(k:∀b u,b≠e->h.get? b=some u->h'.get? b=some u)(heo:∃u,h'.get? e=some u)
 (new:ObjOk P w (upd H x o') h' x o'):HOk P w (upd H x o') h':=fun b u q=>by
 have nown:∀c y,H c=some (.own y)->c≠x:=fun c y r z=>by subst z;rw[r]at mu;exact mu
 have ntup:∀c xs,H c=some (.tup xs)->c≠x:=fun c xs r z=>by subst z;rw[r]at mu;exact mu
 by_cases hb:b=x
 ·subst hb;rw[Yo]at q;cases q;exact new
 ·rw[Yk hb]at q
  by_cases hbe:b=e
  ·have q':H b=some (.own x):=by
    rcases he with z | z
    ·exact absurd (hbe.trans z) hb
    ·rw[hbe];exact z
   rw[q]at q';cases q'
   obtain⟨v,hv⟩:=heo
   exact⟨v,by rw[hbe];exact hv⟩
  ·refine(ok b u q).stay (fun c v hc r=>k c v ?_ r) (fun c r=>by rw[Yk (nown c b r)];exact r) fun c xs r=>by rw[Yk (ntup c xs r)];exact r
   rcases hc with rfl | hc
   ·exact hbe
   ·rintro rfl
    rcases he with z | z
    ·exact nown c b hc z
    ·rw[hc]at z;cases z;exact hb rfl
end
structure Un(fs ex:List Addr)(H H':Hp)(h h':Heap):Prop where
 keep:∀b o,h.get? b=some o->H b=none->b∉fs->b∉ex->h'.get? b=some o
 slot:∀b o,h.get? b=some o->H b=none->b∈fs->b∉ex->∃sl,h'.get? b=some { o with slots:=sl }
 free:∀b o,h.get? b=some o->H b=none->b∉ex->H' b=none
 there:∀b o,h.get? b=some o->b∉ex->∃o',h'.get? b=some o'
 tups:∀b xs,H b=some (.tup xs)->H' b=some (.tup xs)
 frzs:∀b o u,H b=some (.frz o u)->H' b=some (.frz o u)
 tbls:∀b ps,H b=some (.tbl ps)->∃more,H' b=some (.tbl (ps++more))
section
variable {fs fs' ex ex':List Addr} {H H1 H2:Hp} {h h1 h2 h':Heap} {a x e:Addr} {o:HO}
theorem Un.any(u:Un fs ex H H1 h h1){b:Addr}{ob:Obj}(q:h.get? b=some ob)(n:H b=none)(hx:b∉ex):∃sl,h1.get? b=some { ob with slots:=sl }:=by
 by_cases hb:b∈fs
 ·exact u.slot b ob q n hb hx
 ·exact⟨ob.slots,u.keep b ob q n hb hx⟩
theorem Un.kept(k:∀b u,h.get? b=some u->h'.get? b=some u):Un fs ex H H h h':=
 ⟨fun b ob q _ _ _=>k b ob q,fun b ob q _ _ _=>⟨ob.slots,k b ob q⟩,fun _ _ _ n _=>n,fun b ob q _=>⟨ob,k b ob q⟩,fun _ _ q=>q,fun _ _ _ q=>q,fun _ ps q=>⟨#[],by rw[q];simp⟩⟩
theorem Un.refl:Un fs ex H H h h:=Un.kept fun _ _ q=>q
theorem Un.laid(k:∀b u,h.get? b=some u->h'.get? b=some u)(hp:h.objs.size<=a)(hn:H a=none):Un fs ex H (upd H a o) h h' where
 keep:=fun b u q _ _ _=>k b u q
 slot:=fun b u q _ _ _=>⟨u.slots,k b u q⟩
 free:=fun b u q n _=>by rw[Yk (ql (Qa (qk q) hp))];exact n
 there:=fun b u q _=>⟨u,k b u q⟩
 tups:=fun b xs q=>by rw[Yk (Yv q hn)];exact q
 frzs:=fun b u xs q=>by rw[Yk (Yv q hn)];exact q
 tbls:=fun b ps q=>⟨#[],by rw[Yk (Yv q hn),q];simp⟩
theorem Un.write(mu:Mut (H x))(he:e=x\/H e=some (.own x))(k:∀b u,b≠e->h.get? b=some u->h'.get? b=some u)(heo:∃u,h'.get? e=some u):Un fs ex H (upd H x o) h h':=by
 have hx:∀b,H b=none->b≠x:=fun b n z=>by subst z;rw[n]at mu;exact mu
 have hb:∀b,H b=none->b≠e:=fun b n z=>by
  subst z
  rcases he with r | r
  ·exact hx b n r
  ·rw[n]at r;cases r
 have hm:∀b u,H b=some u->¬Mut (some u)->b≠x:=fun b u q nm z=>by subst z;rw[q]at mu;exact nm mu
 refine⟨fun b u q n _ _=>k b u (hb b n) q,fun b u q n _ _=>⟨u.slots,k b u (hb b n) q⟩,fun b u q n _=>by rw[Yk (hx b n)];exact n,fun b u q _=>?_,
  fun b xs q=>by rw[Yk (hm b _ q fun z=>z)];exact q,fun b u xs q=>by rw[Yk (hm b _ q fun z=>z)];exact q,fun b ps q=>⟨#[],by rw[Yk (hm b _ q fun z=>z),q];simp⟩⟩
 by_cases hbe:b=e
 ·subst hbe;exact heo
 ·exact⟨u,k b u hbe q⟩
end
def trk(h:Heap)(H:Hp):List Addr:=(List.range h.objs.size).filter fun a=>(H a).isSome
def hidT(h:Heap)(H:Hp):Heap:=W.hideAll h (trk h H)
theorem Yot(h:Heap)(H:Hp):(hidT h H).objs.size=h.objs.size:=W.hideAll_size _ _
theorem Yrp{h:Heap}{H:Hp}{b:Addr}{o:Obj}(e:h.get? b=some o)(n:H b=none):(hidT h H).get? b=some o:=
 W.hideAll_get _ e fun hm=>by
  have q:(H b).isSome=true:=(List.mem_filter.mp hm).2
  rw[n]at q;simp at q
theorem Ytw{h:Heap}{H:Hp}{b:Addr}{o:Obj}(e:(hidT h H).get? b=some o):h.get? b=some o/\H b=none:=by
 have e':h.get? b=some o:=W.of_hideAll (trk h H) e
 refine⟨e',?_⟩
 cases q:H b with
 | none=>rfl
 | some x=>
   have hm:b∈trk h H:=List.mem_filter.mpr ⟨List.mem_range.mpr (qk e'),by simp[q]⟩
   have z:(hidT h H).get? b=none:=W.hideAll_none (trk h H) hm
   rw[z]at e;cases e
end L2
namespace L2
open PySem PySem.Spec PyProof.Rows
structure Mod(K:W.Frag)(mg:Str->Option Value)(base:Heap):Prop where
 kin:K.In base
 glob:base.Ns mainGlobals mg
 blt:∃mb,base.Ns builtinsNs mb/\∀x:Str,x≠"__name__"->mb x=bootBuiltins x
 nolimit:base.NoLimit
structure Cx where
 prog:Program
 w:World
 K:W.Frag
 mg:Str->Option Value
 base:Heap
 A:Around
 N:List Str
 s₀:Shared
 H₀:Hp
 env:Env
 outer:List Env
 stack:List Env
 ex:List Addr
 fn:Str->Bool
 calm:Bool
 pn:List (Addr × Obj)
 xe:Value->Shared->Prop
def frs(l:List Env):List Addr:=l.filterMap (·.frame)
abbrev Cx.fs(X:Cx):List Addr:=frs X.outer
def Vis(sc:Scope)(x:Str):Prop:=sc.names.lookup x=some .local\/sc.names.lookup x=some .cell\/sc.names.lookup x=some .free
def Loc(sc:Scope)(x:Str):Prop:=sc.names.lookup x=some .local\/sc.names.lookup x=some .cell
def Look(env:Env)(h:Heap)(m:Str->Option Value)(x:Str)(u:Value):Prop:=
 (env.kindOf x=some .local/\m x=some u)\/((env.kindOf x=some .cell\/env.kindOf x=some .free)/\∃c,env.cells.lookup x=some c/\h.IsCell c (some u))
structure Cx.Ok(X:Cx):Prop where
 mod:Mod X.K X.mg X.base
 kind:X.env.scope.kind=.function
 glob:X.env.globals=mainGlobals
 blt:X.env.builtins=builtinsNs
 above:X.s₀.heap.objs.size<=X.env.locals
 inj:∀x y c,X.env.cells.lookup x=some c->X.env.cells.lookup y=some c->x=y
 has:∀x,(X.env.kindOf x=some .cell\/X.env.kindOf x=some .free)->∃c,X.env.cells.lookup x=some c
 cab:∀x c,X.fn x=true->X.env.cells.lookup x=some c->X.s₀.heap.objs.size<=c
 hd:X.calm=true->X.A.handled=none
 frames:X.A.frames=some X.stack
 stk:X.stack=X.outer\/(X.stack=X.env::X.outer/\X.env.frame=some X.env.locals)
 exf:∀b∈X.ex,b≠X.env.locals/\∀x c,X.env.cells.lookup x=some c->c≠b
 bs:∀b o,X.base.get? b=some o->X.s₀.heap.get? b=some o/\X.H₀ b=none
 bsz:X.base.objs.size<=X.s₀.heap.objs.size
 noex:∀b o,X.base.get? b=some o->b∉X.ex
 exfs:∀b∈X.ex,b∉X.fs
 funs:X.s₀.heap.FunFrames X.base X.outer
 frf:∀b∈X.fs,X.H₀ b=none
structure Inv(X:Cx)(pins:List (Addr × Obj))(σ:List (Option V))(H:Hp)(s:Shared):Prop where
 ok:X.Ok
 os:s.os=X.s₀.os
 bare:AllBare s.gens
 base:Un X.fs X.ex X.H₀ H X.s₀.heap s.heap
 loc:∃m,s.heap.Ns X.env.locals m/\∀(i:Nat) (x:Str) (v:V),X.N[i]?=some x->σ[i]?=some (some v)->Vis X.env.scope x->∃u,RelV v u/\Look X.env s.heap m x u
 cell:∀x c,X.env.cells.lookup x=some c->∃v,s.heap.IsCell c v
 free:H X.env.locals=none
 freeC:∀x c,X.env.cells.lookup x=some c->H c=none
 pin:∀p∈X.pn++pins,s.heap.get? p.1=some p.2/\H p.1=none/\p.1≠X.env.locals/\p.1∉X.fs/\∀v,p.2.data≠.cell v
 hok:HOk X.prog X.w H s.heap
 len:σ.length=X.N.length
section
variable {X:Cx} {pins:List (Addr × Obj)} {σ:List (Option V)} {H H':Hp} {s:Shared} {h':Heap}
theorem Cx.Ok.nofr(ok:X.Ok){b:Addr}{o:Obj}(e:X.base.get? b=some o):b∉X.fs:=fun hb=>by
 have:=(ok.funs.mem hb).1
 rw[e]at this;cases this
theorem Inv.bs(I:Inv X pins σ H s):∀b o,X.base.get? b=some o->s.heap.get? b=some o/\H b=none:=fun b o e=>
 ⟨I.base.keep b o (I.ok.bs b o e).1 (I.ok.bs b o e).2 (I.ok.nofr e) (I.ok.noex b o e),I.base.free b o (I.ok.bs b o e).1 (I.ok.bs b o e).2 (I.ok.noex b o e)⟩
theorem Inv.bk(I:Inv X pins σ H s):∀b o,X.base.get? b=some o->s.heap.get? b=some o:=fun b o e=>(I.bs b o e).1
theorem Inv.mod(I:Inv X pins σ H s):Mod X.K X.mg X.base:=I.ok.mod
theorem Inv.kIn(I:Inv X pins σ H s):X.K.In s.heap:=I.ok.mod.kin.keeps I.bk
theorem Inv.lt(I:Inv X pins σ H s):X.env.locals < s.heap.objs.size:=let ⟨_,hn,_⟩:=I.loc;hn.lt
theorem Inv.sz(I:Inv X pins σ H s):X.s₀.heap.objs.size<=s.heap.objs.size:=Qb I.ok.above (Nat.le_of_lt I.lt)
theorem Inv.nofs(I:Inv X pins σ H s){a:Addr}(h:s.heap.objs.size<=a):a∉X.fs:=fun hb=>by
 obtain⟨_,o,ho,_⟩:=I.ok.funs.mem hb
 exact absurd (Qa (qk ho) (Qb I.sz h)) (Nat.lt_irrefl _)
theorem Inv.cne(I:Inv X pins σ H s):∀x c,X.env.cells.lookup x=some c->c≠X.env.locals:=fun x c e z=>by
 obtain⟨v,o,ho,hd⟩:=I.cell x c e
 obtain⟨m,⟨o',es,ep,ho',hd',_⟩,_⟩:=I.loc
 rw[z,ho']at ho;cases ho;rw[hd']at hd;cases hd
theorem Inv.funs(I:Inv X pins σ H s):s.heap.FunFrames X.base X.outer:=by
 have all:∀(l:List Env),(∀b∈frs l,b∈X.fs)->X.s₀.heap.FunFrames X.base l->s.heap.FunFrames X.base l:=by
  intro l
  induction l with
  | nil=>intro _ _;trivial
  | cons env r ih=>
    intro hs hl
    obtain⟨hk,⟨L,o,hf,hn,ho,hd⟩,hr⟩:=hl
    have hL:L∈X.fs:=hs L (by unfold frs;rw[List.filterMap_cons,hf];exact qg)
    obtain⟨sl,e⟩:=I.base.slot L o ho (I.ok.frf L hL) hL fun z=>I.ok.exfs L z hL
    exact⟨hk,⟨L,_,hf,hn,e,hd⟩,ih (fun b hb=>hs b (by unfold frs;rw[List.filterMap_cons,hf];exact qf _ hb)) hr⟩
 exact all X.outer (fun _ hb=>hb) I.ok.funs
theorem Inv.stack(I:Inv X pins σ H s):s.heap.FunFrames X.base X.stack:=by
 rcases I.ok.stk with e | ⟨e,hf⟩
 ·rw[e];exact I.funs
 ·rw[e]
  obtain⟨m,hn,_⟩:=I.loc
  refine .cons (by rw[I.ok.kind];decide) hf hn ?_ I.funs
  exact Heap.get?_none_of_le (Qb I.ok.bsz I.ok.above)
theorem Inv.stkSub(I:Inv X pins σ H s):∀b∈frs X.stack,b∈X.env.locals::X.fs:=fun b hb=>by
 rcases I.ok.stk with e | ⟨e,hf⟩
 ·rw[e]at hb;exact qf _ hb
 ·rw[e]at hb
  unfold frs at hb
  rw[List.filterMap_cons,hf]at hb
  exact hb
theorem Inv.stkFree(I:Inv X pins σ H s):∀b∈frs X.stack,H b=none:=fun b hb=>by
 rcases qr (I.stkSub b hb)with e | hb
 ·rw[e];exact I.free
 ·obtain⟨_,o,ho,_⟩:=I.ok.funs.mem hb
  exact I.base.free b o ho (I.ok.frf b hb) fun z=>I.ok.exfs b z hb
theorem Inv.step{g':Array GenState}{t':Nat}{d':Drawn}{ch:List Addr}(I:Inv X pins σ H s)
 (hch:∀b∈ch,(b∈X.ex\/X.s₀.heap.objs.size<=b)/\b≠X.env.locals/\(∀x c,X.env.cells.lookup x=some c->c≠b)/\∀p∈X.pn++pins,p.1≠b)
 (keep:∀b o,b≠X.env.locals->b∉X.fs->b∉ch->s.heap.get? b=some o->H b=none->h'.get? b=some o)
 (slot:∀b o,b≠X.env.locals->b∈X.fs->b∉ch->s.heap.get? b=some o->H b=none->∃sl,h'.get? b=some { o with slots:=sl }) (free:∀b o,b∉ch->s.heap.get? b=some o->H b=none->H' b=none)
 (there:∀b o,b∉ch->s.heap.get? b=some o->∃o',h'.get? b=some o')
 (tups:∀b xs,H b=some (.tup xs)->H' b=some (.tup xs)) (frzs:∀b o u,H b=some (.frz o u)->H' b=some (.frz o u)) (tbls:∀b ps,H b=some (.tbl ps)->∃more,H' b=some (.tbl (ps++more)))
 (ns:∀m,s.heap.Ns X.env.locals m->h'.Ns X.env.locals m) (hok:HOk X.prog X.w H' h') (hg:AllBare g') :
 Inv X pins σ H' { s with heap:=h',gens:=g',drawn:=d',toks:=t' }:=by
 have neL:∀b o,X.s₀.heap.get? b=some o->b≠X.env.locals:=fun b o e=>ql (Qa (qk e) I.ok.above)
 have neC:∀b o,X.s₀.heap.get? b=some o->b∉X.ex->b∉ch:=fun b o e hx hb=>by
  rcases(hch b hb).1 with z | z
  ·exact hx z
  ·exact absurd (Qa (qk e) z) (Nat.lt_irrefl _)
 have cellK:∀x c,X.env.cells.lookup x=some c->∀v,s.heap.IsCell c v->h'.IsCell c v:=fun x c e v hx_=>by
  obtain⟨o,ho,hd⟩:=hx_
  have nch:c∉ch:=fun z=>(hch c z).2.2.1 x c e rfl
  by_cases hc:c∈X.fs
  ·obtain⟨sl,q⟩:=slot c o (I.cne x c e) hc nch ho (I.freeC x c e)
   exact⟨_,q,hd⟩
  ·exact⟨o,keep c o (I.cne x c e) hc nch ho (I.freeC x c e),hd⟩
 refine⟨I.ok,I.os,hg,⟨fun b o e n hb hx=>?_,fun b o e n hb hx=>?_,fun b o e n hx=>?_,fun b o e hx=>?_,fun b xs e=>tups b xs (I.base.tups b xs e),fun b o xs e=>frzs b o xs (I.base.frzs b o xs e),fun b ps e=>?_⟩,?_,fun x c e=>?_,?_,fun x c e=>?_,fun p hp=>?_,hok,I.len⟩
 ·exact keep b o (neL b o e) hb (neC b o e hx) (I.base.keep b o e n hb hx) (I.base.free b o e n hx)
 ·obtain⟨sl,e1⟩:=I.base.slot b o e n hb hx
  obtain⟨sl',e2⟩:=slot b _ (neL b o e) hb (neC b o e hx) e1 (I.base.free b o e n hx)
  exact⟨sl',e2⟩
 ·obtain⟨o',e1⟩:=I.base.there b o e hx
  exact free b o' (neC b o e hx) e1 (I.base.free b o e n hx)
 ·obtain⟨o',e1⟩:=I.base.there b o e hx
  exact there b o' (neC b o e hx) e1
 ·obtain⟨m1,e1⟩:=I.base.tbls b ps e
  obtain⟨m2,e2⟩:=tbls b _ e1
  exact⟨m1++m2,by rw[e2,Array.append_assoc]⟩
 ·obtain⟨m,hn,hl⟩:=I.loc
  refine⟨m,ns m hn,fun i x v e1 e2 e3=>?_⟩
  obtain⟨u,r,l⟩:=hl i x v e1 e2 e3
  refine⟨u,r,?_⟩
  rcases l with l | ⟨k,c,e,z⟩
  ·exact .inl l
  ·exact .inr ⟨k,c,e,cellK x c e _ z⟩
 ·obtain⟨v,z⟩:=I.cell x c e
  exact⟨v,cellK x c e v z⟩
 ·obtain⟨m,⟨o,_,_,ho,_⟩,_⟩:=I.loc
  exact free _ o (fun z=>(hch _ z).2.1 rfl) ho I.free
 ·obtain⟨v,o,ho,hd⟩:=I.cell x c e
  exact free c o (fun z=>(hch c z).2.2.1 x c e rfl) ho (I.freeC x c e)
 ·obtain⟨e,n,ne,nf,d⟩:=I.pin p hp
  have nch:p.1∉ch:=fun z=>(hch p.1 z).2.2.2 p hp rfl
  exact⟨keep p.1 p.2 ne nf nch e n,free p.1 p.2 nch e n,ne,nf,d⟩
theorem Inv.un{t':Nat}(I:Inv X pins σ H s)(u:Un X.fs [] H H' s.heap h')(hok:HOk X.prog X.w H' h'):Inv X pins σ H' { s with heap:=h',toks:=t' }:=by
 obtain⟨m,⟨o,es,ep,ho,r⟩,_⟩:=id I.loc
 obtain⟨sl,hL⟩:=u.any ho I.free (by simp)
 exact I.step (g':=s.gens) (d':=s.drawn) (ch:=[]) (fun _ z=>nomatch z) (fun b o _ hb _ e n=>u.keep b o e n hb (by simp)) (fun b o _ hb _ e n=>u.slot b o e n hb (by simp)) (fun b o _ e n=>u.free b o e n (by simp)) (fun b o _ e=>u.there b o e (by simp)) u.tups u.frzs u.tbls (fun m' hm=>by
  obtain⟨o',es',ep',ho',r'⟩:=hm
  rw[ho]at ho';cases ho'
  exact⟨_,es',ep',hL,r'⟩) hok I.bare
theorem Inv.call{g':Array GenState}{t':Nat}{d':Drawn}{ch:List Addr}(I:Inv X pins σ H s)(u:Un (frs X.stack) ch H H' s.heap h')(hok:HOk X.prog X.w H' h')(hg:AllBare g')
 (hch:∀b∈ch,(b∈X.ex\/X.s₀.heap.objs.size<=b)/\b≠X.env.locals/\(∀x c,X.env.cells.lookup x=some c->c≠b)/\∀p∈X.pn++pins,p.1≠b) :
 Inv X pins σ H' { s with heap:=h',gens:=g',drawn:=d',toks:=t' }:=by
 obtain⟨m,⟨o,es,ep,ho,r⟩,_⟩:=id I.loc
 obtain⟨sl,hL⟩:=u.any ho I.free fun z=>(hch _ z).2.1 rfl
 exact I.step (ch:=ch) hch (fun b o hL hb hc e n=>u.keep b o e n (fun z=>(qr (I.stkSub b z)).elim hL hb) hc) (fun b o _ _ hc e n=>u.any e n hc) (fun b o hc e n=>u.free b o e n hc) (fun b o hc e=>u.there b o e hc) u.tups u.frzs u.tbls (fun m' hm=>by
  obtain⟨o',es',ep',ho',r'⟩:=hm
  rw[ho]at ho';cases ho'
  exact⟨_,es',ep',hL,r'⟩) hok hg
theorem Inv.turned{t':Nat}{it:Addr}(I:Inv X pins σ H s)(k:∀b o,b≠it->s.heap.get? b=some o->h'.get? b=some o)(hn:H it=none)(hL:it≠X.env.locals)
 (h1:it∈X.ex\/X.s₀.heap.objs.size<=it) (h2:∀x c,X.env.cells.lookup x=some c->c≠it) (h3:∀p∈X.pn++pins,p.1≠it):Inv X pins σ H { s with heap:=h',toks:=t' }:=by
 have nit:∀b u,H b=some u->b≠it:=fun b u e z=>by rw[z,hn]at e;cases e
 refine I.step (g':=s.gens) (d':=s.drawn) (ch:=[it]) (fun b hb=>?_) (fun b o _ _ hc e _=>k b o (fun z=>hc (by simp[z])) e) (fun b o _ _ hc e _=>⟨o.slots,k b o (fun z=>hc (by simp[z])) e⟩) (fun _ _ _ _ n=>n)
  (fun b o hc e=>⟨o,k b o (fun z=>hc (by simp[z])) e⟩) (fun _ _ e=>e) (fun _ _ _ e=>e) (fun b ps e=>⟨#[],by rw[e];simp⟩) (fun m hm=>?_) (fun b u e=>?_) I.bare
 ·have e:b=it:=by simpa using hb
  subst e
  exact⟨h1,hL,h2,h3⟩
 ·obtain⟨o,es,ep,ho,r⟩:=hm
  exact⟨o,es,ep,k _ o (Ne.symm hL) ho,r⟩
 ·refine(I.hok b u e).stay (fun c v hc q=>k c v ?_ q) (fun _ q=>q) fun _ _ q=>q
  rcases hc with z | z
  ·rw[z];exact nit b u e
  ·exact nit c _ z
theorem Inv.tok(I:Inv X pins σ H s)(t:Nat):Inv X pins σ H { s with toks:=t }:=I.un (h':=s.heap) (t':=t) Un.refl I.hok
theorem Inv.kept{t':Nat}(I:Inv X pins σ H s)(k:∀b u,s.heap.get? b=some u->h'.get? b=some u):Inv X pins σ H { s with heap:=h',toks:=t' }:=I.un (Un.kept k) (I.hok.kept k)
theorem Inv.laid{a:Addr}{o:HO}{t':Nat}(I:Inv X pins σ H s)(k:∀b u,s.heap.get? b=some u->h'.get? b=some u)(hp:s.heap.objs.size<=a)(new:ObjOk X.prog X.w (upd H a o) h' a o) :
 Inv X pins σ (upd H a o) { s with heap:=h',toks:=t' }:=I.un (Un.laid k hp (I.hok.fresh hp)) (I.hok.laid k hp new)
theorem Inv.write{x e:Addr}{o:HO}{t':Nat}(I:Inv X pins σ H s)(mu:Mut (H x))(he:e=x\/H e=some (.own x))(k:∀b u,b≠e->s.heap.get? b=some u->h'.get? b=some u)(heo:∃u,h'.get? e=some u)
 (new:ObjOk X.prog X.w (upd H x o) h' x o):Inv X pins σ (upd H x o) { s with heap:=h',toks:=t' }:=I.un (Un.write mu he k heo) (I.hok.write mu he k heo new)
theorem Inv.pins_of{pins':List (Addr × Obj)}(I:Inv X pins σ H s)(h:∀p∈pins',s.heap.get? p.1=some p.2/\H p.1=none/\p.1≠X.env.locals/\p.1∉X.fs/\∀v,p.2.data≠.cell v):Inv X pins' σ H s:=
 ⟨I.ok,I.os,I.bare,I.base,I.loc,I.cell,I.free,I.freeC,fun p hp=>(qt hp).elim (fun z=>I.pin p (List.mem_append_left _ z)) (h p),I.hok,I.len⟩
theorem Yi9{N:List Str}(hN:N.Nodup){i j:Nat}{x:Str}(a:N[i]?=some x)(b:N[j]?=some x):i=j:=by
 obtain⟨h1,e1⟩:=qm a
 obtain⟨h2,e2⟩:=qm b
 exact(List.getElem_inj hN).mp (e1.trans e2.symm)
theorem Yke{M:Model}{A:Around}{E:Value->Shared->Prop}{i:Nat}{x:Str}{v:V}{u:Value}{Q:Unit->Shared->Prop}(I:Inv X pins σ H s)(hN:X.N.Nodup)(hi:X.N[i]?=some x)(hx:Loc X.env.scope x)(r:RelV v u)
 (h:∀s',Inv X pins (σ.set i (some v)) H s'->(∃a,Heap.SameBut a s.heap s'.heap/\(a=X.env.locals\/X.env.cells.lookup x=some a))->Q () s') (hf:X.fn x=true\/X.env.scope.names.lookup x=some .local:=by first | exact .inl rfl | exact .inr rfl | assumption):wpAny M A (storeName X.env x u) Q E s:=by
 obtain⟨m,hn,hl⟩:=id I.loc
 have hcls:(X.env.scope.kind==.class||(X.env.scope.kind==.module&&X.env.locals != X.env.globals))=false:=by rw[I.ok.kind];rfl
 have hiσ:i < σ.length:=by rw[I.len];exact(qm hi).1
 have cne:=I.cne
 have tracked:∀{a:Addr} {h':Heap},(∃o,s.heap.get? a=some o/\H a=none)->Heap.SameBut a s.heap h'->HOk X.prog X.w H h':=fun {a h'} ha hs b ob e=>by
  obtain⟨_,_,hfree⟩:=ha
  refine(I.hok b ob e).stay (fun c w' hc q=>(hs.2 c ?_).trans q) (fun _ q=>q) fun _ _ q=>q
  rintro rfl
  rcases hc with rfl | hc
  ·rw[hfree]at e;cases e
  ·rw[hfree]at hc;cases hc
 rcases hx with hk | hk
 ·refine wpAny_storeName_local hk hn (fun h' hn' hs=>?_) hcls
  obtain⟨oL,_,_,hoL,_⟩:=id hn
  refine h _ ⟨I.ok,I.os,I.bare,⟨fun b o e n hb hx=>?_,fun b o e n hb hx=>?_,I.base.free,fun b o e hx=>?_,I.base.tups,I.base.frzs,I.base.tbls⟩,⟨_,hn',fun j y v' e1 e2 e3=>?_⟩,fun y c e=>?_,I.free,I.freeC,fun p hp=>?_,tracked ⟨oL,hoL,I.free⟩ hs,by simpa using I.len⟩ ⟨_,hs,.inl rfl⟩
  ·exact(hs.2 b (ql (Qa (qk e) I.ok.above))).trans (I.base.keep b o e n hb hx)
  ·obtain⟨sl,e1⟩:=I.base.slot b o e n hb hx
   exact⟨sl,(hs.2 b (ql (Qa (qk e) I.ok.above))).trans e1⟩
  ·obtain⟨o',e1⟩:=I.base.there b o e hx
   exact⟨o',(hs.2 b (ql (Qa (qk e) I.ok.above))).trans e1⟩
  ·by_cases hj:j=i
   ·subst hj
    rw[hi]at e1;cases e1
    rw[List.getElem?_set_self hiσ]at e2
    cases e2
    exact⟨u,r,.inl ⟨hk,by simp⟩⟩
   ·rw[qy (Ne.symm hj)]at e2
    obtain⟨u',r',q⟩:=hl j y v' e1 e2 e3
    refine⟨u',r',?_⟩
    rcases q with⟨k,e⟩ | ⟨k,c,e,z⟩
    ·refine .inl ⟨k,?_⟩
     have:y≠x:=fun e=>hj (Yi9 hN e1 (e ▸ hi))
     simp[this,e]
    ·exact .inr ⟨k,c,e,z.sameBut hs (cne y c e)⟩
  ·obtain⟨w',z⟩:=I.cell y c e
   exact⟨w',z.sameBut hs (cne y c e)⟩
  ·obtain⟨e,n,ne,nf,d⟩:=I.pin p hp
   exact⟨(hs.2 p.1 ne).trans e,n,ne,nf,d⟩
 ·have hfn:X.fn x=true:=by
   rcases hf with z | z
   ·exact z
   ·rw[z]at hk;cases hk
  obtain⟨c,hc⟩:=I.ok.has x (.inl hk)
  obtain⟨w',z⟩:=I.cell x c hc
  refine wpAny_storeName_cell I.ok.kind hk hc z (fun h' hc' hs=>?_)
  obtain⟨oc,hoc,hocd⟩:=id z
  refine h { s with heap:=h' } ⟨I.ok,I.os,I.bare,⟨fun b o e n hb hx=>?_,fun b o e n hb hx=>?_,I.base.free,fun b o e hx=>?_,I.base.tups,I.base.frzs,I.base.tbls⟩,⟨m,hn.sameBut hs (Ne.symm (cne x c hc)),fun j y v' e1 e2 e3=>?_⟩,fun y c' e=>?_,I.free,I.freeC,fun p hp=>?_,tracked ⟨oc,hoc,I.freeC x c hc⟩ hs,by simpa using I.len⟩ ⟨c,hs,.inr hc⟩
  ·exact(hs.2 b (ql (Qa (qk e) (I.ok.cab x c hfn hc)))).trans (I.base.keep b o e n hb hx)
  ·obtain⟨sl,e1⟩:=I.base.slot b o e n hb hx
   exact⟨sl,(hs.2 b (ql (Qa (qk e) (I.ok.cab x c hfn hc)))).trans e1⟩
  ·obtain⟨o',e1⟩:=I.base.there b o e hx
   exact⟨o',(hs.2 b (ql (Qa (qk e) (I.ok.cab x c hfn hc)))).trans e1⟩
  ·by_cases hj:j=i
   ·subst hj
    rw[hi]at e1;cases e1
    rw[List.getElem?_set_self hiσ]at e2
    cases e2
    exact⟨u,r,.inr ⟨.inl hk,c,hc,hc'⟩⟩
   ·rw[qy (Ne.symm hj)]at e2
    obtain⟨u',r',q⟩:=hl j y v' e1 e2 e3
    refine⟨u',r',?_⟩
    rcases q with q | ⟨k,c',e,z'⟩
    ·exact .inl q
    ·refine .inr ⟨k,c',e,z'.sameBut hs ?_⟩
     rintro rfl
     exact hj (Yi9 hN e1 (I.ok.inj _ _ _ e hc ▸ hi))
  ·by_cases hcc:c'=c
   ·subst hcc;exact⟨_,hc'⟩
   ·obtain⟨w2,z2⟩:=I.cell y c' e
    exact⟨w2,z2.sameBut hs hcc⟩
  ·obtain⟨e,n,ne,nf,d⟩:=I.pin p hp
   refine⟨(hs.2 p.1 ?_).trans e,n,ne,nf,d⟩
   intro q
   rw[q,hoc]at e
   have q':oc=p.2:=Option.some.inj e
   exact d w' (by rw[<-q'];exact hocd)
theorem Yja{M:Model}{A:Around}{E:Value->Shared->Prop}{i:Nat}{x:Str}{v:V}{u:Value}{Q:Unit->Shared->Prop}(I:Inv X pins σ H s)(hN:X.N.Nodup)(hi:X.N[i]?=some x)(hx:Loc X.env.scope x)(r:RelV v u)
 (h:∀s',Inv X pins (σ.set i (some v)) H s'->Q () s') (hf:X.fn x=true\/X.env.scope.names.lookup x=some .local:=by first | exact .inl rfl | exact .inr rfl | assumption):wpAny M A (storeName X.env x u) Q E s:=
 Yke I hN hi hx r (fun s' I' _=>h s' I') hf
theorem Inv.call'{s':Shared}{ch:List Addr}(I:Inv X pins σ H s)(ho:s'.os=s.os)(u:Un (frs X.stack) ch H H' s.heap s'.heap)(hok:HOk X.prog X.w H' s'.heap)(hg:AllBare s'.gens)
 (hch:∀b∈ch,(b∈X.ex\/X.s₀.heap.objs.size<=b)/\b≠X.env.locals/\(∀x c,X.env.cells.lookup x=some c->c≠b)/\∀p∈X.pn++pins,p.1≠b):Inv X pins σ H' s':=by
 obtain⟨h',g',d',t',o'⟩:=s'
 have e:o'=s.os:=ho
 subst e
 exact I.call (g':=g') (t':=t') (d':=d') u hok hg hch
end
abbrev XK:=Value->Option Addr->Hp->Prop
abbrev St:=List (Option V)
abbrev VK:=V->Hp->Prop
abbrev TE:=St->Hp->VK->Prop
abbrev TT:=St->Hp->(Bool->Hp->Prop)->Prop
abbrev TA:=St->Hp->(List V->Hp->Prop)->Prop
structure Ends where
 nx:St->Hp->Prop
 rt:VK
 bk:St->Hp->Prop:=fun _ _=>False
 ct:St->Hp->Prop:=fun _ _=>False
abbrev TS:=Ends->St->Hp->Prop
def EP(X:Cx)(pins:List (Addr × Obj))(σ:St)(Q:VK)(u:Value)(s':Shared):Prop:=∃v H',Inv X pins σ H' s'/\RelV v u/\Q v H'
def TP(X:Cx)(pins:List (Addr × Obj))(σ:St)(Q:Bool->Hp->Prop)(b:Bool)(s':Shared):Prop:=∃H',Inv X pins σ H' s'/\Q b H'
def AP(X:Cx)(pins:List (Addr × Obj))(σ:St)(Q:List V->Hp->Prop)(us:List Value)(s':Shared):Prop:=∃vs H',Inv X pins σ H' s'/\Vals vs us/\Q vs H'
def SP(X:Cx)(pins:List (Addr × Obj))(D:Ends)(f:Flow)(s':Shared):Prop:=
 match f with
 | .next=>∃σ' H',Inv X pins σ' H' s'/\D.nx σ' H'
 | .brk=>∃σ' H',Inv X pins σ' H' s'/\D.bk σ' H'
 | .cont=>∃σ' H',Inv X pins σ' H' s'/\D.ct σ' H'
 | .ret u=>∃v σ' H',Inv X pins σ' H' s'/\RelV v u/\D.rt v H'
def PE(X:Cx)(e:Expr)(t:TE):Prop:=
 ∀(pins:List (Addr × Obj)) (s:Shared) (σ:St) (H:Hp) (Q:VK),Inv X pins σ H s->t σ H Q->wpAny (model X.prog X.w) X.A (eval e X.env) (EP X pins σ Q) X.xe s
def PT(X:Cx)(e:Expr)(t:TT):Prop:=
 ∀(pins:List (Addr × Obj)) (s:Shared) (σ:St) (H:Hp) (Q:Bool->Hp->Prop),Inv X pins σ H s->t σ H Q->wpAny (model X.prog X.w) X.A (isTrue e X.env (eval e X.env)) (TP X pins σ Q) X.xe s
def PW(X:Cx)(e:Expr)(t:TT):Prop:=
 ∀(whole:Sem Value) (pins:List (Addr × Obj)) (s:Shared) (σ:St) (H:Hp) (Q:Bool->Hp->Prop),Inv X pins σ H s->t σ H Q->wpAny (model X.prog X.w) X.A (isTrue e X.env whole) (TP X pins σ Q) X.xe s
theorem PW.pt{X:Cx}{e:Expr}{t:TT}(h:PW X e t):PT X e t:=h _
def PA(X:Cx)(es:List Expr)(t:TA):Prop:=
 ∀(pos:Pos) (pins:List (Addr × Obj)) (s:Shared) (σ:St) (H:Hp) (Q:List V->Hp->Prop),Inv X pins σ H s->t σ H Q->wpAny (model X.prog X.w) X.A (spliced (backTo pos (starEach es X.env))) (AP X pins σ Q) X.xe s
def PS(X:Cx)(st:Stmt)(t:TS):Prop:=
 ∀(pins:List (Addr × Obj)) (s:Shared) (σ:St) (H:Hp) (D:Ends),Inv X pins σ H s->t D σ H->wpAny (model X.prog X.w) X.A (exec st X.env) (SP X pins D) X.xe s
def PSs(X:Cx)(st:List Stmt)(t:TS):Prop:=
 ∀(pins:List (Addr × Obj)) (s:Shared) (σ:St) (H:Hp) (D:Ends),Inv X pins σ H s->t D σ H->wpAny (model X.prog X.w) X.A (execs st X.env) (SP X pins D) X.xe s
theorem thn{α:Type}{t:Sem α}{Q Q':α->Shared->Prop}{M:Model}{A:Around}{E:Value->Shared->Prop}{s:Shared}(h:wpAny M A t Q E s)(hQ:∀a s,Q a s->Q' a s):wpAny M A t Q' E s:=wpAny_mono h hQ fun _ _ x=>x
end L2
namespace L2
open PySem PySem.Spec PyProof.Rows
section
variable {X:Cx}
def tVar(i:Nat):TE:=fun σ H Q=>∃v,σ[i]?=some (some v)/\Q v H
def tC(v:V):TE:=fun _ H Q=>Q v H
theorem Yfa{i:Nat}{x:Str}{pos:Pos}(hN:X.N[i]?=some x)(hv:Vis X.env.scope x)(hd:(x==("__debug__":Str))=false:=by decide)(hcd:(x==("__classdict__":Str))=false:=by decide):PE X (.Name x pos) (tVar i):=by
 intro pins s σ H Q I h
 obtain⟨v,e,h⟩:=h
 obtain⟨m,hn,hl⟩:=I.loc
 obtain⟨u,r,l⟩:=hl i x v hN e hv
 have fin:EP X pins σ Q u s:=⟨v,H,I,r,h⟩
 rcases l with⟨hk,hm⟩ | ⟨hk,c,hc,hcell⟩
 ·exact wpAny_Name (wpAny_loadName_local I.ok.kind hk hn hm fin) hd
 ·rcases hk with hk | hk
  ·exact wpAny_Name (wpAny_loadName_cell I.ok.kind hk hc hcell fin) hd
  ·exact wpAny_Name (wpAny_loadName_free I.ok.kind hk hc hcell fin hcd) hd
theorem Ywj{i j pos}:PE X (.Constant (.int i) j pos) (tC (.int i)):=fun _ _ _ H _ I h=>wpAny_Constant_int ⟨.int i,H,I.tok _,⟨_,rfl⟩,h⟩
theorem Yzj{b j pos}:PE X (.Constant (.bool b) j pos) (tC (.bl b)):=fun _ _ _ H _ I h=>Constant_bool ⟨.bl b,H,I,rfl,h⟩
theorem Ywk{j pos}:PE X (.Constant .none j pos) (tC .non):=fun _ _ _ H _ I h=>Constant_none ⟨.non,H,I,rfl,h⟩
theorem Ywl{x j pos}:PE X (.Constant (.str x) j pos) (tC (.str x)):=fun _ _ _ H _ I h=>Calls.Constant_str ⟨.str x,H,I.tok _,⟨_,rfl⟩,h⟩
def Gl(X:Cx)(x:Str):Prop:=X.env.kindOf x=some .globalImplicit
theorem Yfs{E:Value->Shared->Prop}{pins:List (Addr × Obj)}{s:Shared}{σ:St}{H:Hp}{x:Str}{u:Value}{pos:Pos}{Q:Value->Shared->Prop}(I:Inv X pins σ H s)(hg:Gl X x)(hm:X.mg x=some u)(h:Q u s)
 (hd:(x==("__debug__":Str))=false:=by decide):wpAny (model X.prog X.w) X.A (eval (.Name x pos) X.env) Q E s:=
 Calls.Name_function_global I.ok.kind hg (Calls.loadGlobal_global (by rw[I.ok.glob];exact I.mod.glob.keeps I.bk) hm h) hd
theorem Ykf{E:Value->Shared->Prop}{pins:List (Addr × Obj)}{s:Shared}{σ:St}{H:Hp}{x:Str}{u:Value}{pos:Pos}{Q:Value->Shared->Prop}(I:Inv X pins σ H s)(hg:Gl X x)(hm:X.mg x=none)(hv:bootBuiltins x=some u)(h:Q u s)
 (hn:x≠"__name__":=by decide) (hd:(x==("__debug__":Str))=false:=by decide):wpAny (model X.prog X.w) X.A (eval (.Name x pos) X.env) Q E s:=by
 obtain⟨mb,h1,h2⟩:=I.mod.blt
 exact Calls.Name_function_global I.ok.kind hg (Calls.loadGlobal_builtin (by rw[I.ok.glob];exact I.mod.glob.keeps I.bk) hm (by rw[I.ok.blt];exact h1.keeps I.bk) ((h2 x hn).trans hv) h) hd
theorem Ylr{x:Str}{v:V}{u:Value}{pos:Pos}(hg:Gl X x)(hm:X.mg x=some u)(r:RelV v u)(hd:(x==("__debug__":Str))=false:=by decide):PE X (.Name x pos) (tC v):=
 fun _ _ _ H _ I h=>Yfs I hg hm ⟨v,H,I,r,h⟩ hd
theorem You{x:Str}{v:V}{u:Value}{pos:Pos}(hg:Gl X x)(hm:X.mg x=none)(hv:bootBuiltins x=some u)(r:RelV v u)(hn:x≠"__name__":=by decide)(hd:(x==("__debug__":Str))=false:=by decide):PE X (.Name x pos) (tC v):=
 fun _ _ _ H _ I h=>Ykf I hg hm hv ⟨v,H,I,r,h⟩ hn hd
variable {a b:Expr} {ta tb:TE} {pos:Pos}
variable {tA tB':TT} {rest:List Expr}
def tAnd(t u:TT):TT:=fun σ H Q=>t σ H fun c H1=>if c=true then u σ H1 Q else Q false H1
def tOr(t u:TT):TT:=fun σ H Q=>t σ H fun c H1=>if c=true then Q true H1 else u σ H1 Q
def tNot(t:TT):TT:=fun σ H Q=>t σ H fun c H1=>Q (!c) H1
theorem Ytx(ha:PT X a tA):PW X (.BoolOp .And [a] pos) tA:=by
 intro wh pins s σ H Q I h
 refine isTrue_and (thn (ha pins s σ H Q I h) fun c s1 e=>?_)
 cases c with
 | true=>exact isTrue_and_nil e
 | false=>exact e
theorem Ywm(ha:PT X a tA):PW X (.BoolOp .Or [a] pos) tA:=by
 intro wh pins s σ H Q I h
 refine isTrue_or (thn (ha pins s σ H Q I h) fun c s1 e=>?_)
 cases c with
 | false=>exact isTrue_or_nil e
 | true=>exact e
theorem Ywn(ha:PT X a tA)(hb:PW X (.BoolOp .And (b::rest) pos) tB'):PW X (.BoolOp .And (a::b::rest) pos) (tAnd tA tB'):=by
 intro wh pins s σ H Q I h
 refine isTrue_and (thn (ha pins s σ H _ I h) fun c s1 hx_=>?_)
 obtain⟨H1,I1,q1⟩:=hx_
 cases c with
 | true=>exact hb wh pins s1 σ H1 Q I1 q1
 | false=>exact⟨H1,I1,q1⟩
theorem Yzk(ha:PT X a tA)(hb:PW X (.BoolOp .Or (b::rest) pos) tB'):PW X (.BoolOp .Or (a::b::rest) pos) (tOr tA tB'):=by
 intro wh pins s σ H Q I h
 refine isTrue_or (thn (ha pins s σ H _ I h) fun c s1 hx_=>?_)
 obtain⟨H1,I1,q1⟩:=hx_
 cases c with
 | true=>exact⟨H1,I1,q1⟩
 | false=>exact hb wh pins s1 σ H1 Q I1 q1
theorem Ywo(ha:PT X a tA):PT X (.UnaryOp .Not a pos) (tNot tA):=by
 intro pins s σ H Q I h
 exact isTrue_not (ha pins s σ H (fun c H1=>Q (!c) H1) I h)
def Yzl(ta tb:TE):TE:=fun σ H Q=>ta σ H fun x H1=>∃c,x=.bl c/\if c=true then tb σ H1 Q else Q (.bl false) H1
theorem Ywp{op}{t:TE}(h:PE X a t):PE X (.BoolOp op [a] pos) t:=fun pins s σ H Q I hw=>BoolOp_one (h pins s σ H Q I hw)
theorem Ywq(ha:PE X a ta)(hb:PE X (.BoolOp .And (b::rest) pos) tb):PE X (.BoolOp .And (a::b::rest) pos) (Yzl ta tb):=by
 intro pins s σ H Q I h
 refine BoolOp_and (thn (ha pins s σ H _ I h) fun v s1 hx_=>?_)
 obtain⟨x,H1,I1,r1,q1⟩:=hx_
 obtain⟨c,rfl,q1⟩:=q1
 cases r1
 refine wpAny_truthy_bool ?_
 cases c with
 | true=>exact hb pins s1 σ H1 Q I1 q1
 | false=>exact⟨.bl false,H1,I1,rfl,q1⟩
def tIf(t:TT)(ta tb:TE):TE:=fun σ H Q=>t σ H fun c H1=>if c=true then ta σ H1 Q else tb σ H1 Q
theorem Yrq{c:Expr}(hc:PT X c tA)(ha:PE X a ta)(hb:PE X b tb):PE X (.IfExp c a b pos) (tIf tA ta tb):=by
 intro pins s σ H Q I h
 refine wpAny_IfExp (thn (hc pins s σ H _ I h) fun d s1 hx_=>?_)
 obtain⟨H1,I1,q1⟩:=hx_
 cases d with
 | true=>exact ha pins s1 σ H1 Q I1 q1
 | false=>exact hb pins s1 σ H1 Q I1 q1
end
end L2
namespace L2
open PySem PySem.Spec PyProof.Rows
def SqL(K:W.Frag)(H:Hp)(a:Addr)(xs:List V):Prop:=
 Rd H a (.lst xs)\/
  ∃(o:Obj) (its:Array Value) (n:Nat),K.lookup a=some o/\o.cls=.type "list"/\o.dict=none/\o.data=.seq its n/\its.size<=sizeLine/\Vals xs its.toList
def SqT(K:W.Frag)(H:Hp)(a:Addr)(xs:List V):Prop:=
 Rd H a (.tup xs)\/
  ∃(o:Obj) (its:Array Value) (n:Nat),K.lookup a=some o/\o.cls=.type "tuple"/\o.data=.seq its n/\its.size<=sizeLine/\Vals xs its.toList
def absV:Value->Option V
 | .none=>some .non
 | .bool b=>some (.bl b)
 | .int i _=>some (.int i)
 | .str x _=>some (.str x)
 | .bytes b _=>some (.byt b)
 | .float b _=>some (.flt b)
 | .ref a=>some (.ref a)
 | .type n=>some (.ty n)
 | _=>none
theorem RelV.abs{x:V}{u:Value}(r:RelV x u):absV u=some x:=by
 cases x with
 | non=>cases r;rfl
 | bl _=>cases r;rfl
 | int _=>obtain⟨t,rfl⟩:=r;rfl
 | str _=>obtain⟨t,rfl⟩:=r;rfl
 | byt _=>obtain⟨t,rfl⟩:=r;rfl
 | flt _=>obtain⟨t,rfl⟩:=r;rfl
 | ref _=>cases r;rfl
 | ty _=>cases r;rfl
theorem RelV.inj{x y:V}{u:Value}(r:RelV x u)(q:RelV y u):x=y:=Option.some.inj (r.abs.symm.trans q.abs)
theorem Vals.inj:∀{xs ys:List V} {us:List Value},Vals xs us->Vals ys us->xs=ys
 :=by
  intro xs ys us h
  induction h generalizing ys with
  | nil=>
    intro h2
    cases h2
    rfl
  | cons r t ih=>
    intro h2
    cases h2 with
    | cons r' t'=>rw[r.inj r',ih t']
section
variable {X:Cx} {pins:List (Addr × Obj)} {σ:St} {H:Hp} {s:Shared} {a:Addr} {xs ys:List V}
theorem SqL.of{K:W.Frag}(h:H a=some (.lst xs)):SqL K H a xs:=.inl (.inl h)
theorem Inv.list(I:Inv X pins σ H s)(h:SqL X.K H a xs):∃its:List Value,Vals xs its/\PlainL s.heap a its.toArray/\xs.length<=sizeLine:=by
 rcases h with h | ⟨o,its,n,hk,hc,hd,hs,hz,r⟩
 ·obtain⟨z,its,n,r,e⟩:=h.ok I.hok
  exact⟨its,r,⟨_,n,e,rfl,rfl,rfl⟩,z⟩
 ·refine⟨its.toList,r,⟨o,n,I.kIn a o hk,hc,hd,by simpa using hs⟩,?_⟩
  have e:=r.length
  simp only[qi]at e
  lia
theorem Inv.tuple(I:Inv X pins σ H s)(h:SqT X.K H a xs):∃its:List Value,Vals xs its/\IsTup s.heap a its.toArray/\xs.length<=sizeLine:=by
 rcases h with h | ⟨o,its,n,hk,hc,hs,hz,r⟩
 ·obtain⟨z,its,r,p⟩:=h.ok I.hok
  exact⟨its,r,p,z⟩
 ·refine⟨its.toList,r,⟨o,I.kIn a o hk,hc,n,by simpa using hs⟩,?_⟩
  have e:=r.length
  simp only[qi]at e
  lia
theorem Inv.list_inj(I:Inv X pins σ H s)(h:SqL X.K H a xs)(h':SqL X.K H a ys):xs=ys:=by
 obtain⟨its,r,⟨o,n,e,_,_,d⟩,_⟩:=I.list h
 obtain⟨its',r',⟨o',n',e',_,_,d'⟩,_⟩:=I.list h'
 rw[e]at e';cases e'
 rw[d]at d'
 injection d' with d1 _
 have:its=its':=by simpa using congrArg Array.toList d1
 subst this
 exact r.inj r'
theorem Inv.tuple_inj(I:Inv X pins σ H s)(h:SqT X.K H a xs)(h':SqT X.K H a ys):xs=ys:=by
 obtain⟨its,r,⟨o,e,_,n,d⟩,_⟩:=I.tuple h
 obtain⟨its',r',⟨o',e',_,n',d'⟩,_⟩:=I.tuple h'
 rw[e]at e';cases e'
 rw[d]at d'
 injection d' with d1 _
 have:its=its':=by simpa using congrArg Array.toList d1
 subst this
 exact r.inj r'
end
abbrev Cx.wish(X:Cx)(E:Value->Shared->Prop):Cx:={ X with xe:=E }
abbrev Cx.nox(X:Cx):Cx:=X.wish fun _ _=>False
theorem Cx.Ok.wish{X:Cx}(ok:X.Ok)(E:Value->Shared->Prop):(X.wish E).Ok:=
 ⟨ok.mod,ok.kind,ok.glob,ok.blt,ok.above,ok.inj,ok.has,ok.cab,ok.hd,ok.frames,ok.stk,ok.exf,ok.bs,ok.bsz,ok.noex,ok.exfs,ok.funs,ok.frf⟩
theorem Cx.Ok.unwish{X:Cx}{E:Value->Shared->Prop}(ok:(X.wish E).Ok):X.Ok:=
 ⟨ok.mod,ok.kind,ok.glob,ok.blt,ok.above,ok.inj,ok.has,ok.cab,ok.hd,ok.frames,ok.stk,ok.exf,ok.bs,ok.bsz,ok.noex,ok.exfs,ok.funs,ok.frf⟩
section
variable {X:Cx} {pins:List (Addr × Obj)} {σ:St} {H:Hp} {s:Shared} {E:Value->Shared->Prop} {st:Stmt} {rest:List Stmt} {t u:TS} {e:Expr} {te:TE} {pos:Pos}
theorem Inv.wish(I:Inv X pins σ H s)(E:Value->Shared->Prop):Inv (X.wish E) pins σ H s:=⟨I.ok.wish E,I.os,I.bare,I.base,I.loc,I.cell,I.free,I.freeC,I.pin,I.hok,I.len⟩
theorem Inv.unwish(I:Inv (X.wish E) pins σ H s):Inv X pins σ H s:=⟨I.ok.unwish,I.os,I.bare,I.base,I.loc,I.cell,I.free,I.freeC,I.pin,I.hok,I.len⟩
theorem SP.unwish{D:Ends}{f:Flow}{s':Shared}(h:SP (X.wish E) pins D f s'):SP X pins D f s':=by
 cases f with
 | next=>obtain⟨σ',H',I,q⟩:=h;exact⟨σ',H',I.unwish,q⟩
 | brk=>obtain⟨σ',H',I,q⟩:=h;exact⟨σ',H',I.unwish,q⟩
 | cont=>obtain⟨σ',H',I,q⟩:=h;exact⟨σ',H',I.unwish,q⟩
 | ret u=>obtain⟨v,σ',H',I,r,q⟩:=h;exact⟨v,σ',H',I.unwish,r,q⟩
theorem PT.nox{e:Expr}{t:TT}(h:PT X.nox e t):PT X e t:=fun pins s σ H Q I hw=>
 wpAny_mono (h pins s σ H Q (I.wish _) hw) (fun _ _ ⟨H',I',q⟩=>⟨H',I'.unwish,q⟩) fun _ _ z=>False.elim z
theorem PSs.nox{st:List Stmt}{t:TS}(h:PSs X.nox st t):PSs X st t:=fun pins s σ H D I hw=>
 wpAny_mono (h pins s σ H D (I.wish _) hw) (fun _ _ q=>q.unwish) fun _ _ z=>False.elim z
def Yzm:TS:=fun D σ H=>D.nx σ H
def tSeq(t u:TS):TS:=fun D σ H=>t { D with nx:=u D } σ H
theorem Yls:PSs X [] Yzm:=fun _ _ σ H _ I h=>wpAny_execs_nil ⟨σ,H,I,h⟩
theorem Ycg(h1:PS X st t)(h2:PSs X rest u):PSs X (st::rest) (tSeq t u):=by
 intro pins s σ H D I h
 refine wpAny_execs_cons (thn (h1 pins s σ H { D with nx:=u D } I h) fun f s1 q=>?_)
 cases f with
 | next=>
   obtain⟨σ',H',I',q⟩:=q
   exact h2 pins s1 σ' H' D I' q
 | ret v=>exact q
 | brk=>exact q
 | cont=>exact q
theorem Ylt(h1:PS X st t):PSs X [st] t:=by
 intro pins s σ H D I h
 refine wpAny_execs_cons (thn (h1 pins s σ H D I h) fun f s1 q=>?_)
 cases f with
 | next=>exact wpAny_execs_nil q
 | ret v=>exact q
 | brk=>exact q
 | cont=>exact q
theorem Inv.quiet{pins:List (Addr × Obj)}{σ:St}{H:Hp}{s:Shared}(I:Inv X pins σ H s):interactive X.env=false:=by simp[interactive,I.ok.kind]
def Yzn(te:TE):TS:=fun D σ H=>te σ H fun _ H1=>D.nx σ H1
theorem Yft(he:PE X e te)(hs:swapsWith e none pos.line X.env=pure false:=by rfl):PS X (.Expr e pos) (Yzn te):=by
 intro pins s σ H D I h
 refine wpAny_Expr_any (thn (he pins s σ H _ I h) fun v s1 hx_=>?_) I.quiet hs
 obtain⟨x,H1,I1,r1,q1⟩:=hx_
 exact⟨σ,H1,I1,q1⟩
def tRet(te:TE):TS:=fun D σ H=>te σ H D.rt
theorem Yta(he:PE X e te):PS X (.Return (some e) pos) (tRet te):=by
 intro pins s σ H D I h
 refine wpAny_Return_some (thn (he pins s σ H _ I h) fun v s1 hx_=>?_)
 obtain⟨x,H1,I1,r1,q1⟩:=hx_
 exact⟨x,σ,H1,I1,r1,q1⟩
def tIfS(c:TT)(t u:TS):TS:=fun D σ H=>c σ H fun b H1=>if b=true then t D σ H1 else u D σ H1
theorem Yty{c:Expr}{a b:List Stmt}{tc:TT}(hc:PT X c tc)(ha:PSs X a t)(hb:PSs X b u):PS X (.If c a b pos) (tIfS tc t u):=by
 intro pins s σ H D I h
 refine wpAny_If (thn (hc pins s σ H _ I h) fun d s1 hx_=>?_)
 obtain⟨H1,I1,q1⟩:=hx_
 cases d with
 | true=>exact ha pins s1 σ H1 D I1 q1
 | false=>exact hb pins s1 σ H1 D I1 q1
def Ywr:TS:=fun _ _ _=>False
theorem Ygu{sts:List Stmt}:PSs X sts Ywr:=fun _ _ _ _ _ _ h=>h.elim
end
abbrev TG:=V->St->Hp->(St->Hp->Prop)->Prop
abbrev TGs:=List V->St->Hp->(St->Hp->Prop)->Prop
def PG(X:Cx)(target:Expr)(t:TG):Prop:=
 ∀(pins:List (Addr × Obj)) (s:Shared) (σ:St) (H:Hp) (v:V) (u:Value) (Q:St->Hp->Prop),Inv X pins σ H s->RelV v u->t v σ H Q->
  wpAny (model X.prog X.w) X.A (assign target X.env u) (fun _ s'=>∃σ' H',Inv X pins σ' H' s'/\Q σ' H') X.xe s
def PGs(X:Cx)(ts:List Expr)(t:TGs):Prop:=
 ∀(pins:List (Addr × Obj)) (s:Shared) (σ:St) (H:Hp) (vs:List V) (us:List Value) (Q:St->Hp->Prop),Inv X pins σ H s->Vals vs us->t vs σ H Q->
  wpAny (model X.prog X.w) X.A (assignInOrder ((assignEach ts X.env).map (·.2)) us) (fun _ s'=>∃σ' H',Inv X pins σ' H' s'/\Q σ' H') X.xe s
section
variable {X:Cx} {pos:Pos}
def Ynw(i:Nat):TG:=fun v σ H Q=>Q (σ.set i (some v)) H
theorem Ylu{i:Nat}{x:Str}(hN:X.N.Nodup)(hi:X.N[i]?=some x)(hx:Loc X.env.scope x)(hf:X.fn x=true\/X.env.scope.names.lookup x=some .local:=by first | exact .inl rfl | exact .inr rfl | assumption):PG X (.Name x pos) (Ynw i):=by
 intro pins s σ H v u Q I r h
 exact wpAny_assign_Name (Yja I hN hi hx r (fun s' I'=>⟨_,H,I',h⟩) hf)
def gNil:TGs:=fun vs σ H Q=>vs=[]/\Q σ H
def Yzo(t:TG)(u:TGs):TGs:=fun vs σ H Q=>∃v r,vs=v::r/\t v σ H fun σ' H'=>u r σ' H' Q
theorem Ytz:PGs X [] gNil:=by
 intro pins s σ H vs us Q I r h
 obtain⟨e,h⟩:=h
 subst e
 cases r
 exact assignInOrder_nil ⟨σ,H,I,h⟩
theorem Ymv{e:Expr}{es:List Expr}{t:TG}{u:TGs}(h1:PG X e t)(h2:PGs X es u)
 (hs:(assignEach (e::es) X.env).map (·.2)=assign e X.env::(assignEach es X.env).map (·.2):=by rfl):PGs X (e::es) (Yzo t u):=by
 intro pins s σ H vs us Q I r h
 obtain⟨v,vr,e1,h⟩:=h
 subst e1
 cases r with
 | cons r rr=>
   rw[hs]
   refine assignInOrder_cons (thn (h1 pins s σ H _ _ _ I r h) fun _ s1 hx_=>?_)
   obtain⟨σ1,H1,I1,q1⟩:=hx_
   exact h2 pins s1 σ1 H1 _ _ Q I1 rr q1
def gTup(K:W.Frag)(n:Nat)(t:TGs):TG:=fun v σ H Q=>∃a xs,v=.ref a/\SqT K H a xs/\xs.length=n/\t xs σ H Q
theorem Yws{es:List Expr}{k:Nat}{t:TGs}{n:Nat}(hc:X.calm=true)(h:PGs X es t)
 (hn:(assignEach es X.env).length=n:=by rfl) (hst:(assignEach es X.env).findIdx? (·.1)=none:=by rfl):PG X (.Tuple es k pos) (gTup X.K n t):=by
 intro pins s σ H v u Q I r hw
 obtain⟨a,xs,e1,hq,hl,hw⟩:=hw
 subst e1
 cases r
 obtain⟨its,rv,ht,hz⟩:=I.tuple hq
 refine assign_Tuple_tuple (I.ok.hd hc) ht (by simp[hn,<-hl,rv.length]) hst fun h' hx=>?_
 have I1:Inv X pins σ H { s with heap:=h' }:=I.kept (t':=s.toks) fun b o e=>hx b o (ql (qk e)) e
 exact h pins _ σ H xs _ Q I1 (by simpa using rv) hw
def tAsg(te:TE)(g:TG):TS:=fun D σ H=>te σ H fun x H1=>g x σ H1 D.nx
theorem Yov{i:Nat}{x:Str}{e:Expr}{te:TE}{pos':Pos}(hN:X.N.Nodup)(hi:X.N[i]?=some x)(hx:Loc X.env.scope x)(he:PE X e te)(hs:swapsWith e (some (.Name x pos')) pos.line X.env=pure false:=by rfl)(hf:X.fn x=true\/X.env.scope.names.lookup x=some .local:=by first | exact .inl rfl | exact .inr rfl | assumption) :
 PS X (.Assign [.Name x pos'] e pos) (tAsg te (Ynw i)):=by
 intro pins s σ H D I h
 refine wpAny_Assign_Name (thn (he pins s σ H _ I h) fun v s1 hx_=>?_) hs
 obtain⟨y,H1,I1,r1,q1⟩:=hx_
 exact Yja I1 hN hi hx r1 (fun s2 I2=>⟨_,H1,I2,q1⟩) hf
end
structure It where
 go:Nat->Hp->Prop
 yld:Nat->Hp->V->Hp->Prop
 stop:Nat->Hp->Prop
def FpOk(X:Cx)(pins:List (Addr × Obj))(H:Hp)(b:Addr):Prop:=
 H b=none/\b≠X.env.locals/\b∉X.fs/\(b∈X.ex\/X.s₀.heap.objs.size<=b)/\(∀x c,X.env.cells.lookup x=some c->c≠b)/\∀p∈X.pn++pins,p.1≠b
theorem Inv.fpOk{X:Cx}{pins:List (Addr × Obj)}{σ:St}{H H':Hp}{s:Shared}{b:Addr}(I:Inv X pins σ H s)(hb:s.heap.objs.size<=b)(hn:H' b=none):FpOk X pins H' b:=by
 refine⟨hn,Nat.ne_of_gt (Qa I.lt hb),I.nofs hb,.inr (Qb I.sz hb),fun x c e z=>?_,fun p hp z=>?_⟩
 ·obtain⟨v,q⟩:=I.cell x c e
  exact absurd (Qa q.lt (by rw[z];exact hb)) (Nat.lt_irrefl _)
 ·exact absurd (Qa (qk (I.pin p hp).1) (by rw[z];exact hb)) (Nat.lt_irrefl _)
structure Turn(P:Program)(w:World)(K:W.Frag)(tg:Expr)(J:It)(fp:List Addr)(it:Addr)(tn:Nat->Heap->Prop):Prop where
 mem:it∈fp
 obj:∀i h,tn i h->∀b∈fp,∃o,h.get? b=some o/\∀v,o.data≠.cell v
 keep:∀i h h',tn i h->(∀b∈fp,∀o,h.get? b=some o->h'.get? b=some o)->tn i h'
 item:∀(X:Cx),X.prog=P->X.w=w->X.K=K->X.calm=true->∀(i:Nat) (pins:List (Addr × Obj)) (s:Shared) (σ:St) (H:Hp) (E:Value->Shared->Prop),Inv X pins σ H s->(∀b∈fp,FpOk X pins H b)->tn i s.heap->J.go i H->
  wpAny (model P w) X.A (pyNext (.ref it)) (fun r s1=>∃u,r=some u/\
   wpAny (model P w) X.A (letOwnedTupleGo tg (.ref it) u) (fun _ s2=>∃x H',Inv X pins σ H' s2/\RelV x u/\J.yld i H x H'/\tn (i+1) s2.heap/\∀b∈fp,H' b=none) E s1) E s
 done:∀(X:Cx),X.prog=P->X.w=w->X.K=K->X.calm=true->∀(i:Nat) (pins:List (Addr × Obj)) (s:Shared) (σ:St) (H:Hp) (E:Value->Shared->Prop),Inv X pins σ H s->(∀b∈fp,FpOk X pins H b)->tn i s.heap->J.stop i H->
  wpAny (model P w) X.A (pyNext (.ref it)) (fun r s1=>r=none/\Inv X pins σ H s1) E s
 self:∀(A:Around) (i:Nat) (s:Shared) (Q:Value->Shared->Prop) (E:Value->Shared->Prop),tn i s.heap->Q (.ref it) s->wpAny (model P w) A (pyIter (.ref it)) Q E s
abbrev TI:=St->Hp->(It->Hp->Prop)->Prop
def PIE(X:Cx)(pins:List (Addr × Obj))(σ:St)(tg:Expr)(R:It->Hp->Prop)(itv:Value)(s2:Shared):Prop:=
 ∃(it:Addr) (fp:List Addr) (tn:Nat->Heap->Prop) (J:It) (H':Hp),itv=.ref it/\Inv X pins σ H' s2/\Turn X.prog X.w X.K tg J fp it tn/\tn 0 s2.heap/\(∀b∈fp,FpOk X pins H' b)/\R J H'
def PI(X:Cx)(tg iter:Expr)(wi:TI):Prop:=
 ∀(pins:List (Addr × Obj)) (s:Shared) (σ:St) (H:Hp) (R:It->Hp->Prop),Inv X pins σ H s->wi σ H R->
  wpAny (model X.prog X.w) X.A (eval iter X.env) (fun v s1=>wpAny (model X.prog X.w) X.A (pyIter v) (PIE X pins σ tg R) X.xe s1) X.xe s
theorem Yt0{M:Model}{A:Around}{E:Value->Shared->Prop}{s:Shared}{tg:Expr}{it:Addr}{u:Value}{o:Obj}{n:String}{vs:Array Value}{Q:Unit->Shared->Prop}(ho:s.heap.get? it=some o)(hc:o.cls=.type n)(hd:o.data=.fields vs)
 (hn:["enumerate","zip","dict_itemiterator","dict_reverseitemiterator","odict_iterator","itertools.zip_longest","itertools.pairwise"].contains n=false) (hQ:Q () s):wpAny M A (letOwnedTupleGo tg (.ref it) u) Q E s:=by
 unfold letOwnedTupleGo
 cases tg<;>first
  | exact wpAny_pure hQ
  | (cases u<;>first
   | exact wpAny_pure hQ
   | (refine wpAny_bind (wpAny_load ho ?_)
      rw[hc,hd]
      show wpAny M A (if (["enumerate","zip","dict_itemiterator","dict_reverseitemiterator","odict_iterator","itertools.zip_longest","itertools.pairwise"].contains n&&vs[0]?==some (rawInt _))=true then _ else _) Q E s
      rw[if_neg (by intro h;rw[hn,Bool.false_and]at h;cases h)]
      exact wpAny_pure hQ))
def Itl(K:W.Frag)(a:Addr):It:=
 ⟨fun i H=>∃xs x,SqL K H a xs/\xs[i]?=some x,fun i H x H'=>H'=H/\∀xs,SqL K H a xs->xs[i]?=some x,fun i H=>∃xs,SqL K H a xs/\xs.length<=i⟩
def Itt(K:W.Frag)(a:Addr):It:=
 ⟨fun i H=>∃xs x,SqT K H a xs/\xs[i]?=some x,fun i H x H'=>H'=H/\∀xs,SqT K H a xs->xs[i]?=some x,fun i H=>∃xs,SqT K H a xs/\xs.length<=i⟩
def Itr(lo:Int)(n:Nat):It:=⟨fun i _=>i < n,fun i H x H'=>H'=H/\x=.int (lo+i),fun i _=>n<=i⟩
theorem Yow{P:Program}{w:World}{K:W.Frag}{tg:Expr}(a it:Addr):Turn P w K tg (Itl K a) [it] it (fun i h=>h.IsListIter it a i) where
 mem:=by simp
 obj:=fun i h st b hb=>by
  have e:b=it:=by simpa using hb
  subst e
  obtain⟨o,e,c,d⟩:=st
  exact⟨o,e,fun v z=>by rw[d]at z;cases z⟩
 keep:=fun i h h' st k=>st.at fun o e=>k it (by simp) o e
 item:=by
  intro X hP hw hK hc i pins s σ H E I hf st hg
  subst hP hw hK
  obtain⟨xs,x,hq,hx⟩:=hg
  obtain⟨its,rv,p,hz⟩:=I.list hq
  obtain⟨u,hu,ru⟩:=rv.get hx
  obtain⟨f0,f1,f2,f3,f4,f5⟩:=hf it (by simp)
  refine wpAny_pyNext_list_item st p.isList (x:=u) (by simpa using hu) fun h' st' sb=>?_
  have I1:Inv X pins σ H { s with heap:=h' }:=I.turned (t':=s.toks) (fun b o hb e=>(sb.2 b hb).trans e) f0 f1 f3 f4 f5
  obtain⟨o,e,c,d⟩:=id st'
  exact⟨u,rfl,Yt0 (s:={ s with heap:=h' }) e c d (by decide) ⟨x,H,I1,ru,⟨rfl,fun ys hy=>by rw[I.list_inj hy hq];exact hx⟩,st',fun b hb=>(hf b hb).1⟩⟩
 done:=by
  intro X hP hw hK hc i pins s σ H E I hf st hg
  subst hP hw hK
  obtain⟨xs,hq,hx⟩:=hg
  obtain⟨its,rv,p,hz⟩:=I.list hq
  obtain⟨f0,f1,f2,f3,f4,f5⟩:=hf it (by simp)
  have hl:=rv.length
  exact wpAny_pyNext_list_end (I.ok.hd hc) st p.isList (by simp;lia) fun h' eb=>⟨rfl,I.turned (t':=s.toks) (fun b o hb e=>eb b o hb e) f0 f1 f3 f4 f5⟩
 self:=fun _ _ _ _ _ st h=>wpAny_pyIter_listiter st h
theorem Ynx{P:Program}{w:World}{K:W.Frag}{tg:Expr}(a it:Addr):Turn P w K tg (Itt K a) [it] it (fun i h=>h.IsTupleIter it a i) where
 mem:=by simp
 obj:=fun i h st b hb=>by
  have e:b=it:=by simpa using hb
  subst e
  obtain⟨o,e,c,d⟩:=st
  exact⟨o,e,fun v z=>by rw[d]at z;cases z⟩
 keep:=fun i h h' st k=>st.at fun o e=>k it (by simp) o e
 item:=by
  intro X hP hw hK hc i pins s σ H E I hf st hg
  subst hP hw hK
  obtain⟨xs,x,hq,hx⟩:=hg
  obtain⟨its,rv,p,hz⟩:=I.tuple hq
  obtain⟨u,hu,ru⟩:=rv.get hx
  obtain⟨f0,f1,f2,f3,f4,f5⟩:=hf it (by simp)
  refine wpAny_pyNext_tuple_item st (show s.heap.IsTuple a its.toArray from p) (x:=u) (by simpa using hu) fun h' st' sb=>?_
  have I1:Inv X pins σ H { s with heap:=h' }:=I.turned (t':=s.toks) (fun b o hb e=>(sb.2 b hb).trans e) f0 f1 f3 f4 f5
  obtain⟨o,e,c,d⟩:=id st'
  exact⟨u,rfl,Yt0 (s:={ s with heap:=h' }) e c d (by decide) ⟨x,H,I1,ru,⟨rfl,fun ys hy=>by rw[I.tuple_inj hy hq];exact hx⟩,st',fun b hb=>(hf b hb).1⟩⟩
 done:=by
  intro X hP hw hK hc i pins s σ H E I hf st hg
  subst hP hw hK
  obtain⟨xs,hq,hx⟩:=hg
  obtain⟨its,rv,p,hz⟩:=I.tuple hq
  obtain⟨f0,f1,f2,f3,f4,f5⟩:=hf it (by simp)
  have hl:=rv.length
  exact wpAny_pyNext_tuple_end (I.ok.hd hc) st (show s.heap.IsTuple a its.toArray from p) (by simp;lia) fun h' eb=>⟨rfl,I.turned (t':=s.toks) (fun b o hb e=>eb b o hb e) f0 f1 f3 f4 f5⟩
 self:=fun _ _ _ _ _ st h=>wpAny_pyIter_tupleiter st h
theorem Yny{P:Program}{w:World}{K:W.Frag}{tg:Expr}(it:Addr)(lo:Int)(n:Nat):Turn P w K tg (Itr lo n) [it] it (fun i h=>IsRangeIter h it (lo+(i:Nat) * 1) ((n:Int) - (i:Nat)) 1) where
 mem:=by simp
 obj:=fun i h st b hb=>by
  have e:b=it:=by simpa using hb
  subst e
  exact⟨_,st,fun v z=>by
   have z':Data.fields _=Data.cell v:=z
   cases z'⟩
 keep:=fun i h h' st k=>k it (by simp) _ st
 item:=by
  intro X hP hw hK hc i pins s σ H E I hf st hg
  subst hP hw hK
  obtain⟨f0,f1,f2,f3,f4,f5⟩:=hf it (by simp)
  have W:=Walks.range (prog:=X.prog) (w:=X.w) (I.ok.hd hc) it lo 1 n
  refine W.item i s _ _ hg st fun v h' tk hv st' kk=>?_
  obtain⟨t,rfl⟩:=hv
  have I1:Inv X pins σ H { s with heap:=h',toks:=tk }:=I.turned (fun b o hb e=>kk b o (by simpa using hb) e) f0 f1 f3 f4 f5
  refine⟨_,rfl,Yt0 (s:={ s with heap:=h',toks:=tk }) (n:="range_iterator") st' rfl rfl (by decide) ⟨.int (lo+i),H,I1,⟨t,?_⟩,⟨rfl,rfl⟩,st',fun b hb=>(hf b hb).1⟩⟩
  rw[Int.mul_one]
 done:=by
  intro X hP hw hK hc i pins s σ H E I hf st hg
  subst hP hw hK
  obtain⟨f0,f1,f2,f3,f4,f5⟩:=hf it (by simp)
  exact wpAny_pyNext_range_end (I.ok.hd hc) st (by have:n<=i:=hg;lia) fun h' eb=>⟨rfl,I.turned (t':=s.toks) (fun b o hb e=>eb b o hb e) f0 f1 f3 f4 f5⟩
 self:=fun _ _ _ _ _ st h=>wpAny_pyIter_rangeiter st h
end L2
namespace L2
open PySem PySem.Spec PyProof.Rows
section
variable {X:Cx} {tg:Expr}
theorem Yrr{pins:List (Addr × Obj)}{σ:St}{H:Hp}{s:Shared}{R:It->Hp->Prop}{E:Value->Shared->Prop}{lo hi:Int}{t u v:Tok}{tk:Nat}(I:Inv X pins σ H s)(h1:-(2 ^ 62)<=lo)(h2:lo < 2 ^ 62)(h3:-(2 ^ 62)<=hi)(h4:hi < 2 ^ 62)
 (q:R (Itr lo (hi - lo).toNat) H):wpAny (model X.prog X.w) X.A (pyIter (.ref s.heap.objs.size)) (PIE X pins σ tg R) E { s with heap:=s.heap.push { cls:=.type "range",data:=.fields #[.int lo t,.int hi u,.int 1 v] },toks:=tk }:=by
 refine wpAny_pyIter_range (IsRange.new ..) (small_one h1 h2 h3 h4) ?_
 have I1:Inv X pins σ H { s with heap:=s.heap.push { cls:=.type "range",data:=.fields #[.int lo t,.int hi u,.int 1 v] },toks:=tk }:=I.kept fun b o e=>qd _ e
 refine⟨(s.heap.push { cls:=.type "range",data:=.fields #[.int lo t,.int hi u,.int 1 v] }).objs.size,[(s.heap.push { cls:=.type "range",data:=.fields #[.int lo t,.int hi u,.int 1 v] }).objs.size],_,_,H,rfl,
  I1.kept (t':=tk) fun b o e=>qd _ e,Yny _ lo (hi - lo).toNat,?_,fun b hb=>?_,q⟩
 ·have e1:lo+((0:Nat):Int) * 1=lo:=by simp
  have e2:(((hi - lo).toNat:Nat):Int) - ((0:Nat):Int)=Builtin.Range.rangeSize lo hi 1:=by rw[rangeSize_one];split<;>lia
  show IsRangeIter _ _ (lo+((0:Nat):Int) * 1) ((((hi - lo).toNat:Nat):Int) - ((0:Nat):Int)) 1
  rw[e1,e2]
  exact qo _ rfl
 ·have e:b=(s.heap.push { cls:=.type "range",data:=.fields #[.int lo t,.int hi u,.int 1 v] }).objs.size:=by simpa using hb
  subst e
  exact I1.fpOk (qs _) (I1.hok.fresh (qs _))
def Yzp(ta:TA):TI:=fun σ H R=>ta σ H fun vs H1=>∃j:Int,vs=[.int j]/\-(2 ^ 62)<=j/\j < 2 ^ 62/\R (Itr 0 j.toNat) H1
theorem Yox{a:Expr}{ta:TA}{p pos:Pos}(hg:Gl X "range")(hm:X.mg "range"=none)(ha:PA X [a] ta)(hs:starEach [a] X.env=[(false,eval a X.env)]:=by rfl):PI X tg (.Call (.Name "range" p) [a] [] pos) (Yzp ta):=by
 intro pins s σ H R I h
 refine Call_ (Ykf I hg hm boot_range (PyProof.Rows.callWith_type1 (thn (ha pos pins s σ H _ I h) fun us s1 hx_=>?_) hs rfl))
 obtain⟨vs,H1,I1,r1,q1⟩:=hx_
 obtain⟨j,e,q1,q2,q⟩:=q1
 subst e
 cases r1 with
 | cons r rr=>
   cases rr
   obtain⟨t,rfl⟩:=r
   exact call_range_1 (Yrr I1 (by lia) (by lia) q1 q2 (by simpa using q))
def tFor(wi:TI)(g:TG)(tb:TS):TS:=fun D σ H=>wi σ H fun J H1=>∃W:Nat->Nat->St->Hp->Prop,(∃m,W 0 m σ H1)/\∀i m σ H,W i m σ H->
 (J.stop i H/\D.nx σ H)\/(J.go i H/\∃N:St->Hp->Prop,(∀σ' H',N σ' H'->∃m',m' < m/\W (i+1) m' σ' H')/\∀x H',J.yld i H x H'->g x σ H' fun σ2 H2=>tb { D with nx:=N,ct:=N,bk:=D.nx } σ2 H2)
def Ykg(fp:List Addr)(h:Heap):List (Addr × Obj):=fp.filterMap fun b=>(h.get? b).map fun o=>(b,o)
theorem Yef{fp:List Addr}{h:Heap}{b:Addr}{o:Obj}(hb:b∈fp)(e:h.get? b=some o):(b,o)∈Ykg fp h:=List.mem_filterMap.mpr ⟨b,hb,by rw[e];rfl⟩
theorem Yoy{fp:List Addr}{h:Heap}{p:Addr × Obj}(hp:p∈Ykg fp h):p.1∈fp/\h.get? p.1=some p.2:=by
 obtain⟨b,hb,e⟩:=List.mem_filterMap.mp hp
 cases q:h.get? b with
 | none=>rw[q]at e;cases e
 | some o=>
   rw[q]at e
   have e':(b,o)=p:=Option.some.inj e
   subst e'
   exact⟨hb,q⟩
theorem Inv.pinned{pins:List (Addr × Obj)}{σ:St}{H:Hp}{s:Shared}{fp:List Addr}(I:Inv X pins σ H s)(hf:∀b∈fp,FpOk X pins H b)(ho:∀b∈fp,∃o,s.heap.get? b=some o/\∀v,o.data≠.cell v):Inv X (pins++Ykg fp s.heap) σ H s:=
 I.pins_of fun p hp=>(qt hp).elim (fun z=>I.pin p (Qd _ z)) fun z=>by
  obtain⟨hb,e⟩:=Yoy z
  obtain⟨f0,f1,f2,_⟩:=hf p.1 hb
  obtain⟨o,e',d⟩:=ho p.1 hb
  rw[e]at e';cases e'
  exact⟨e,f0,f1,f2,d⟩
theorem Inv.unpinned{pins pl:List (Addr × Obj)}{σ:St}{H:Hp}{s:Shared}(I:Inv X (pins++pl) σ H s):Inv X pins σ H s:=I.pins_of fun p hp=>I.pin p (Qd _ (List.mem_append_left _ hp))
theorem Ytb{iter:Expr}{body:List Stmt}{wi:TI}{g:TG}{tb:TS}{pos:Pos}(hp:PassesOwn (model X.prog X.w) X.A X.env X.xe)(hc:X.calm=true)(hi:PI X tg iter wi)(hg:PG X tg g)(hb:PSs X body tb)
 (hs:∀x,foldedSetIterable iter X.env x=pure x:=by intro _;rfl):PS X (.For tg iter body [] pos) (tFor wi g tb):=by
 intro pins s σ H D I h
 refine wpAny_For (thn (hi pins s σ H _ I h) fun v s1 h1=>thn h1 fun itv s2 h2=>?_) hs
 obtain⟨it,fp,tn,J,H2,e,I2,T,st2,f2,W,⟨m0,w0⟩,turn⟩:=h2
 subst e
 have stat:∀{H':Hp},(∀b∈fp,H' b=none)->∀b∈fp,FpOk X pins H' b:=fun hn b hb=>⟨hn b hb,(f2 b hb).2⟩
 refine codeAny_forLoop_any (fun n s'=>∃i σ' H',Inv X pins σ' H' s'/\tn i s'.heap/\(∀b∈fp,H' b=none)/\W i n σ' H') ?_ m0 ⟨0,σ,H2,I2,st2,fun b hb=>(f2 b hb).1,w0⟩
 rintro n s3 ⟨i,σ3,H3,I3,st3,fr3,w3⟩
 rcases turn i n σ3 H3 w3 with⟨stop,qn⟩ | ⟨go,N,hN,step⟩
 ·refine wpAny_passesOwn hp (thn (T.done X rfl rfl rfl hc i pins s3 σ3 H3 X.xe I3 (stat fr3) st3 stop) fun r s4 hx_=>?_)
  obtain⟨hr,I4⟩:=hx_
  subst hr
  exact wpAny_execs_nil ⟨σ3,H3,I4,qn⟩
 ·refine wpAny_passesOwn hp (thn (T.item X rfl rfl rfl hc i pins s3 σ3 H3 X.xe I3 (stat fr3) st3 go) fun r s4 hx_=>?_)
  obtain⟨u,hr,h4⟩:=hx_
  subst hr
  refine wpAny_passesOwn hp (thn h4 fun _ s5 hx_=>?_)
  obtain⟨x,H5,I5,r5,y5,st5,fr5⟩:=hx_
  have I5':=I5.pinned (stat fr5) (T.obj _ _ st5)
  refine wpAny_passesOwn hp (thn (hg _ s5 σ3 H5 x u _ I5' r5 (step x H5 y5)) fun _ s6 hx_=>?_)
  obtain⟨σ6,H6,I6,q6⟩:=hx_
  refine wpAny_passesOwn hp (thn (hb _ s6 σ6 H6 _ I6 q6) fun f s7 q7=>?_)
  have again:∀{σ7:St} {H7:Hp},Inv X (pins++Ykg fp s5.heap) σ7 H7 s7->N σ7 H7->∃m,m < n/\∃i σ' H',Inv X pins σ' H' s7/\tn i s7.heap/\(∀b∈fp,H' b=none)/\W i m σ' H':=fun {σ7 H7} I7 n7=>by
   obtain⟨m',hm,w7⟩:=hN σ7 H7 n7
   refine⟨m',hm,i+1,σ7,H7,I7.unpinned,T.keep _ _ _ st5 fun b hb o e=>(I7.pin (b,o) (Qd _ (Qd _ (Yef hb e)))).1,fun b hb=>?_,w7⟩
   obtain⟨o,e,d⟩:=T.obj _ _ st5 b hb
   exact(I7.pin (b,o) (Qd _ (Qd _ (Yef hb e)))).2.1
  cases f with
  | next=>obtain⟨σ7,H7,I7,n7⟩:=q7;exact again I7 n7
  | cont=>obtain⟨σ7,H7,I7,n7⟩:=q7;exact again I7 n7
  | brk=>obtain⟨σ7,H7,I7,q7⟩:=q7;exact⟨σ7,H7,I7.unpinned,q7⟩
  | ret v=>obtain⟨x7,σ7,H7,I7,r7,q7⟩:=q7;exact⟨x7,σ7,H7,I7.unpinned,r7,q7⟩
end
end L2
namespace L2
open PySem PySem.Spec PyProof.Rows
abbrev R2:=V->V->Hp->VK->Prop
def OpR(X:Cx)(f:Value->Value->Sem Value)(r:R2):Prop:=
 ∀(pins:List (Addr × Obj)) (s:Shared) (σ:St) (H:Hp) (x y:V) (v u:Value) (Q:VK),Inv X pins σ H s->RelV x v->RelV y u->r x y H Q->
  wpAny (model X.prog X.w) X.A (f v u) (EP X pins σ Q) X.xe s
def UnR(X:Cx)(f:Value->Sem Value)(r:V->Hp->VK->Prop):Prop:=
 ∀(pins:List (Addr × Obj)) (s:Shared) (σ:St) (H:Hp) (x:V) (v:Value) (Q:VK),Inv X pins σ H s->RelV x v->r x H Q->
  wpAny (model X.prog X.w) X.A (f v) (EP X pins σ Q) X.xe s
def Yb9(X:Cx)(f:Value)(r:List V->Hp->VK->Prop):Prop:=
 ∀(pins:List (Addr × Obj)) (s:Shared) (σ:St) (H:Hp) (xs:List V) (us:List Value) (Q:VK),Inv X pins σ H s->Vals xs us->r xs H Q->
  wpAny (model X.prog X.w) X.A (call f us) (EP X pins σ Q) X.xe s
def TruR(X:Cx)(r:V->Hp->(Bool->Hp->Prop)->Prop):Prop:=
 ∀(pins:List (Addr × Obj)) (s:Shared) (σ:St) (H:Hp) (x:V) (v:Value) (Q:Bool->Hp->Prop),Inv X pins σ H s->RelV x v->r x H Q->
  wpAny (model X.prog X.w) X.A (truthy v) (TP X pins σ Q) X.xe s
def tOp(r:R2)(ta tb:TE):TE:=fun σ H Q=>ta σ H fun x H1=>tb σ H1 fun y H2=>r x y H2 Q
def tUn(r:V->Hp->VK->Prop)(ta:TE):TE:=fun σ H Q=>ta σ H fun x H1=>r x H1 Q
def rI(C:Int->Int->Prop)(g:Int->Int->V):R2:=fun x y H Q=>∃i j,x=.int i/\y=.int j/\C i j/\Q (g i j) H
def rI0(g:Int->Int->V):R2:=fun x y H Q=>∃i j,x=.int i/\y=.int j/\Q (g i j) H
def rU(g:Int->V):V->Hp->VK->Prop:=fun x H Q=>∃i,x=.int i/\Q (g i) H
section
variable {X:Cx} {a b c:Expr} {ta tb tc:TE} {pos:Pos}
theorem binT(ha:PE X a ta)(hb:PE X b tb){pins:List (Addr × Obj)}{s:Shared}{σ:St}{H:Hp}{R:V->V->Hp->Prop}(I:Inv X pins σ H s)
 (h:ta σ H fun x H1=>tb σ H1 fun y H2=>R x y H2) {Q:Value->Shared->Prop} {f:Value->Value->Sem Value}
 (hf:∀v u s2 x y H2,Inv X pins σ H2 s2->RelV x v->RelV y u->R x y H2->wpAny (model X.prog X.w) X.A (f v u) Q X.xe s2) :
 wpAny (model X.prog X.w) X.A (eval a X.env) (fun v s₁=>wpAny (model X.prog X.w) X.A (eval b X.env) (fun u s₂=>wpAny (model X.prog X.w) X.A (f v u) Q X.xe s₂) X.xe s₁) X.xe s:=by
 refine thn (ha pins s σ H _ I h) fun v s1 hx_=>?_
 obtain⟨x,H1,I1,r1,q1⟩:=hx_
 refine thn (hb pins s1 σ H1 _ I1 q1) fun u s2 hx_=>?_
 obtain⟨y,H2,I2,r2,q2⟩:=hx_
 exact hf v u s2 x y H2 I2 r1 r2 q2
theorem Ywt{op:Operator}{r:R2}(ho:OpR X (binaryOp op) r)(ha:PE X a ta)(hb:PE X b tb):PE X (.BinOp a op b pos) (tOp r ta tb):=by
 intro pins s σ H Q I h
 exact wpAny_BinOp (binT ha hb I h fun v u s2 x y H2 I2 rx ry q=>ho pins s2 σ H2 x y v u Q I2 rx ry q)
theorem Yzq{op:UnaryOp}{r:V->Hp->VK->Prop}(ho:UnR X (unaryOp op) r)(ha:PE X a ta):PE X (.UnaryOp op a pos) (tUn r ta):=by
 intro pins s σ H Q I h
 refine UnaryOp_ (thn (ha pins s σ H _ I h) fun v s1 hx_=>?_)
 obtain⟨x,H1,I1,r1,q1⟩:=hx_
 exact ho pins s1 σ H1 x v Q I1 r1 q1
theorem opI{f:Value->Value->Sem Value}{C:Int->Int->Prop}{g:Int->Int->Int}
 (rule:∀(i j:Int) (t u:Tok) (s:Shared) (Q:Value->Shared->Prop) (E:Value->Shared->Prop),C i j->Q (.int (g i j) s.toks) { s with toks:=s.toks+1 }->wpAny (model X.prog X.w) X.A (f (.int i t) (.int j u)) Q E s) :
 OpR X f (rI C fun i j=>.int (g i j)):=by
 intro pins s σ H x y v u Q I rx ry h
 obtain⟨i,j,rfl,rfl,hc,q⟩:=h
 obtain⟨t,rfl⟩:=rx
 obtain⟨t',rfl⟩:=ry
 exact rule i j t t' s _ _ hc ⟨.int (g i j),H,I.tok _,⟨_,rfl⟩,q⟩
theorem opI0{f:Value->Value->Sem Value}{g:Int->Int->Int}
 (rule:∀(i j:Int) (t u:Tok) (s:Shared) (Q:Value->Shared->Prop) (E:Value->Shared->Prop),Q (.int (g i j) s.toks) { s with toks:=s.toks+1 }->wpAny (model X.prog X.w) X.A (f (.int i t) (.int j u)) Q E s) :
 OpR X f (rI0 fun i j=>.int (g i j)):=by
 intro pins s σ H x y v u Q I rx ry h
 obtain⟨i,j,rfl,rfl,q⟩:=h
 obtain⟨t,rfl⟩:=rx
 obtain⟨t',rfl⟩:=ry
 exact rule i j t t' s _ _ ⟨.int (g i j),H,I.tok _,⟨_,rfl⟩,q⟩
theorem opB0{f:Value->Value->Sem Value}{g:Int->Int->Bool}
 (rule:∀(i j:Int) (t u:Tok) (s:Shared) (Q:Value->Shared->Prop) (E:Value->Shared->Prop),Q (.bool (g i j)) s->wpAny (model X.prog X.w) X.A (f (.int i t) (.int j u)) Q E s) :
 OpR X f (rI0 fun i j=>.bl (g i j)):=by
 intro pins s σ H x y v u Q I rx ry h
 obtain⟨i,j,rfl,rfl,q⟩:=h
 obtain⟨t,rfl⟩:=rx
 obtain⟨t',rfl⟩:=ry
 exact rule i j t t' s _ _ ⟨.bl (g i j),H,I,rfl,q⟩
def CDiv(i j:Int):Prop:=0 < j/\j < 1073741824
def CPow(i j:Int):Prop:=0<=j/\j<=1000000/\i.natAbs < 2 ^ 64
def CMul(i j:Int):Prop:=(-(2 ^ 64) < i/\i < 2 ^ 64)\/(-(2 ^ 64) < j/\j < 2 ^ 64)
theorem CMul.ok{i j:Int}(h:CMul i j):IntMulOk i j:=by
 rcases h with⟨h1,h2⟩ | ⟨h1,h2⟩
 ·exact .of_left (intBits_le_64 h1 h2)
 ·exact .of_right (intBits_le_64 h1 h2)
theorem Ywu:OpR X (binaryOp .Add) (rI0 fun i j=>.int (i+j)):=opI0 fun _ _ _ _ _ _ _ q=>add_int q
theorem Ywv:OpR X (binaryOp .Sub) (rI0 fun i j=>.int (i - j)):=opI0 fun _ _ _ _ _ _ _ q=>sub_int q
theorem Yww:OpR X (binaryOp .Mult) (rI CMul fun i j=>.int (i * j)):=opI fun _ _ _ _ _ _ _ hc q=>mul_int q hc.ok
theorem Yt1:OpR X (binaryOp .FloorDiv) (rI CDiv fun i j=>.int (i / j)):=opI fun i j _ _ _ _ _ hc q=>by
 have h1:(0:Int) < j:=hc.1
 have h2:j < 1073741824:=hc.2
 exact floordiv_int (by lia) (by rw[Int.fdiv_eq_ediv_of_nonneg i (by lia)];exact q) (.inl (PyProof.noPylong_small (by lia)))
theorem Ywx:OpR X (binaryOp .Mod) (rI (fun _ j=>0 < j) fun i j=>.int (i % j)):=opI fun i j _ _ _ _ _ hc q=>by
 have h1:(0:Int) < j:=hc
 exact mod_int' (by lia) (by rw[Int.fmod_eq_emod_of_nonneg i (by lia)];exact q)
theorem Ywy:OpR X (binaryOp .Pow) (rI CPow fun i j=>.int (i ^ j.toNat)):=opI fun _ _ _ _ _ _ _ hc q=>pow_int_small hc.1 hc.2.1 hc.2.2 q
theorem unI{f:Value->Sem Value}{g:Int->Int}
 (rule:∀(i:Int) (t:Tok) (s:Shared) (Q:Value->Shared->Prop) (E:Value->Shared->Prop),Q (.int (g i) s.toks) { s with toks:=s.toks+1 }->wpAny (model X.prog X.w) X.A (f (.int i t)) Q E s) :
 UnR X f (rU fun i=>.int (g i)):=by
 intro pins s σ H x v Q I rx h
 obtain⟨i,rfl,q⟩:=h
 obtain⟨t,rfl⟩:=rx
 exact rule i t s _ _ ⟨.int (g i),H,I.tok _,⟨_,rfl⟩,q⟩
theorem Ywz:UnR X (unaryOp .USub) (rU fun i=>.int (-i)):=unI fun _ _ _ _ _ q=>neg_int q
end
def scal:V->V->Bool
 | .non,.non=>true | .non,.int _=>true | .int _,.non=>true | .non,.bl _=>true | .bl _,.non=>true | .non,.str _=>true | .str _,.non=>true
 | .int _,.int _=>true | .bl _,.bl _=>true | .str _,.str _=>true | .byt _,.byt _=>true
 | .int _,.str _=>true | .str _,.int _=>true | .bl _,.str _=>true | .str _,.bl _=>true
 | _,_=>false
section
variable {X:Cx} {a b c:Expr} {ta tb tc:TE} {pos:Pos}
theorem Ytc{pins:List (Addr × Obj)}{σ:St}{H:Hp}{s:Shared}{Q:VK}{k k':Bool}(I:Inv X pins σ H s)(q:Q (.bl k) H)(e:k=k'):EP X pins σ Q (.bool k') s:=by
 subst e
 exact⟨.bl k,H,I,rfl,q⟩
theorem Yzr:OpR X (compareOp .Lt) (rI0 fun i j=>.bl (decide (i < j))):=opB0 fun _ _ _ _ _ _ _ q=>lt_int q
theorem Yw0:OpR X (compareOp .Gt) (rI0 fun i j=>.bl (decide (j < i))):=opB0 fun _ _ _ _ _ _ _ q=>gt_int q
theorem Yw1:OpR X (compareOp .GtE) (rI0 fun i j=>.bl (decide (j<=i))):=opB0 fun _ _ _ _ _ _ _ q=>ge_int q
theorem Yw2:OpR X (compareOp .Is) (fun x y H Q=>y=.non/\Q (.bl (decide (x=.non))) H):=by
 intro pins s σ H x y v u Q I rx ry h
 obtain⟨rfl,q⟩:=h
 cases ry
 refine is_none_gen (Ytc I q ?_)
 cases x<;>first
  | (cases rx;rfl)
  | (obtain⟨t,rfl⟩:=rx;rfl)
theorem Yoz:OpR X (compareOp .IsNot) (fun x y H Q=>y=.non/\Q (.bl (!decide (x=.non))) H):=by
 intro pins s σ H x y v u Q I rx ry h
 obtain⟨rfl,q⟩:=h
 cases ry
 refine isnot_none_gen (Ytc I q ?_)
 cases x<;>first
  | (cases rx;rfl)
  | (obtain⟨t,rfl⟩:=rx;rfl)
theorem Yc9(b:Expr){op:CmpOp}(h:op≠.In:=by decide)(h2:op≠.NotIn:=by decide):behindInMarks op b=false:=by
 have e1:(op==CmpOp.In)=false:=by cases op<;>first | rfl | exact absurd rfl h
 have e2:(op==CmpOp.NotIn)=false:=by cases op<;>first | rfl | exact absurd rfl h2
 cases b with
 | Set elts k p=>
   show((k==0)&&((op==CmpOp.In)||(op==CmpOp.NotIn))&&_)=false
   rw[e1,e2]
   cases (k==0)<;>rfl
 | _=>rfl
theorem Yo0{op:CmpOp}{r:R2}(ho:OpR X (compareOp op) r)(ha:PE X a ta)(hb:PE X b tb)(hm:behindInMarks op b=false):PE X (.Compare a [op] [b] pos) (tOp r ta tb):=by
 intro pins s σ H Q I h
 exact wpAny_Compare1 (binT ha hb I h fun v u s2 x y H2 I2 rx ry q=>ho pins s2 σ H2 x y v u Q I2 rx ry q) hm
def Yw3(t:TE):TT:=fun σ H Q=>t σ H fun x H'=>∃k,x=.bl k/\Q k H'
theorem Yt2{op:CmpOp}{r:R2}(ho:OpR X (compareOp op) r)(ha:PE X a ta)(hb:PE X b tb)(hm:behindInMarks op b=false):PT X (.Compare a [op] [b] pos) (Yw3 (tOp r ta tb)):=by
 intro pins s σ H Q I h
 refine wpAny_isTrue_Compare1 (thn (ha pins s σ H _ I h) fun v s1 hx_=>?_) hm
 obtain⟨x,H1,I1,r1,q1⟩:=hx_
 refine thn (hb pins s1 σ H1 _ I1 q1) fun u s2 hx_=>?_
 obtain⟨y,H2,I2,r2,q2⟩:=hx_
 refine thn (ho pins s2 σ H2 x y v u _ I2 r1 r2 q2) fun c s3 hx_=>?_
 obtain⟨z,H3,I3,r3,k,e,q3⟩:=hx_
 subst e
 cases r3
 exact wpAny_truthy_bool ⟨H3,I3,q3⟩
def TruV(K:W.Frag)(x:V)(H:Hp)(k:Bool):Prop:=
 match x with
 | .non=>k=false
 | .bl b=>k=b
 | .int i=>k=(i != 0)
 | .str y=>y.length<=sizeLine/\k=((y.length:Int) != 0)
 | .byt y=>y.size<=sizeLine/\k=((y.size:Int) != 0)
 | .ref p=>(∃xs,SqL K H p xs/\k=!xs.isEmpty)\/(∃xs,SqT K H p xs/\k=!xs.isEmpty)\/∃kvs,H p=some (.dK kvs)/\k=!kvs.isEmpty
 | _=>False
theorem Ynz{κ:Type}{kvs:List (κ × V)}{vs:List (κ × Value)}(r:KV kvs vs):(!vs.isEmpty)=!kvs.isEmpty:=by
 cases r<;>rfl
theorem Yir{xs:List V}{its:List Value}(r:Vals xs its):(!its.toArray.isEmpty)=!xs.isEmpty:=by
 cases r<;>simp
theorem Ykh:(sizeLine:Nat) < 2 ^ 63:=by rw[sizeLine_eq];decide
theorem Yw4:TruR X (fun x H Q=>∃k,TruV X.K x H k/\Q k H):=by
 intro pins s σ H x v Q I rx h
 obtain⟨k,e,q⟩:=h
 have hl:=Ykh
 have hs:sizeLine=16777216:=sizeLine_eq
 cases x with
 | non=>
   cases rx
   have e':k=false:=e
   subst e'
   exact truthy_none ⟨H,I,q⟩
 | bl b=>
   cases rx
   have e':k=b:=e
   subst e'
   exact wpAny_truthy_bool ⟨H,I,q⟩
 | int i=>
   obtain⟨t,rfl⟩:=rx
   have e':k=(i != 0):=e
   subst e'
   exact PySem.P.truthy_int ⟨H,I,q⟩
 | str y=>
   obtain⟨t,rfl⟩:=rx
   obtain⟨hy,e'⟩:y.length<=sizeLine/\k=((y.length:Int) != 0):=e
   subst e'
   exact PySem.P.truthy_str (by lia) ⟨H,I.tok _,q⟩
 | byt y=>
   obtain⟨t,rfl⟩:=rx
   obtain⟨hy,e'⟩:y.size<=sizeLine/\k=((y.size:Int) != 0):=e
   subst e'
   exact W.truthy_bytes (by lia) ⟨H,I.tok _,q⟩
 | ref p=>
   cases rx
   have e':(∃xs,SqL X.K H p xs/\k=!xs.isEmpty)\/(∃xs,SqT X.K H p xs/\k=!xs.isEmpty)\/∃kvs,H p=some (.dK kvs)/\k=!kvs.isEmpty:=e
   rcases e' with⟨xs,hx,e'⟩ | ⟨xs,hx,e'⟩ | ⟨kvs,hx,e'⟩
   ·subst e'
    obtain⟨its,r,pl,hz⟩:=I.list hx
    have hlen:=r.length
    exact wpAny_truthy_list pl.isList (by simp only[qj];lia) ⟨H,I.tok _,by rw[Yir r];exact q⟩
   ·subst e'
    obtain⟨its,r,pl,hz⟩:=I.tuple hx
    have hlen:=r.length
    exact truthy_tuple pl (by simp only[qj];lia) ⟨H,I.tok _,by rw[Yir r];exact q⟩
   ·subst e'
    obtain⟨hz,hS,vs,r,m⟩:kvs.length<=sizeLine/\(p==sysModules)=false/\∃vs,KV kvs vs/\s.heap.DictOf (Ylq X.prog X.w) p vs:=I.hok p _ hx
    have hlen:kvs.length=vs.length:=Paired.length r
    exact wpAny_truthy_dict hS m (by lia) ⟨H,I.tok _,by rw[Ynz r];exact q⟩
 | _=>exact(show False from e).elim
theorem Yrs(ha:PE X a ta)(he:∀whole,isTrue a X.env whole=(do let v <-whole;standAt a.pos;holding [v] (truthy v))) :
 PT X a (fun σ H Q=>ta σ H fun x H'=>∃k,TruV X.K x H' k/\Q k H'):=by
 intro pins s σ H Q I h
 refine isTrue_plain (thn (ha pins s σ H _ I h) fun v s1 hx_=>?_) (he _)
 obtain⟨x,H1,I1,r1,q1⟩:=hx_
 exact Yw4 pins s1 σ H1 x v Q I1 r1 q1
theorem Yfu{x:V}{us:List Value}(r:Vals [x] us):∃u,us=[u]/\RelV x u:=by
 cases r with
 | cons r1 r2=>cases r2;exact⟨_,rfl,r1⟩
theorem Yn0{x y:V}{us:List Value}(r:Vals [x,y] us):∃u w',us=[u,w']/\RelV x u/\RelV y w':=by
 cases r with
 | cons r1 r2=>
   cases r2 with
   | cons r3 r4=>cases r4;exact⟨_,_,rfl,r1,r3⟩
theorem Ygv:Yb9 X (.type "int") (fun xs H Q=>(∃i,xs=[.int i]/\Q (.int i) H)\/∃k,xs=[.bl k]/\Q (.int (if k then 1 else 0)) H):=by
 intro pins s σ H xs us Q I r h
 rcases h with⟨i,rfl,q⟩ | ⟨k,rfl,q⟩
 ·obtain⟨u,rfl,t,rfl⟩:=Yfu r
  exact call_int_int ⟨.int i,H,I,⟨_,rfl⟩,q⟩
 ·obtain⟨u,rfl,r1⟩:=Yfu r
  cases r1
  exact call_int_bool ⟨.int (if k then 1 else 0),H,I.tok _,⟨_,rfl⟩,q⟩
end
end L2
namespace L2
open PySem PySem.Spec PyProof.Rows
structure ObjM(h:Heap)(x dx C:Addr)(mA:Str->Option Value):Prop where
 obj:h.get? x=some (W.instObj C dx)
 ns:h.Ns1 dx mA
 ne:dx≠x
theorem Yo1{h:Heap}{dx:Addr}{mA:Str->Option Value}(n:h.Ns1 dx mA):∃od,h.get? dx=some od/\∀name,W.lookIn name od=some (mA name):=by
 obtain⟨o,es,ep,ho,hd,hk,_,hm⟩:=n
 refine⟨o,ho,fun name=>?_⟩
 have e:=hm name
 unfold nsFind findBy at e
 rw[<-Array.find?_toList]at e
 unfold W.lookIn
 rw[hd]
 dsimp only
 split
 ·rename_i y q
  rw[q]at e
  exact congrArg some e
 ·rename_i q
  rw[q]at e
  have a:es.toList.any (·.refKey)=false:=by
   rw[List.any_eq_false]
   intro y hy
   obtain⟨z,t,hkey⟩:=hk y (Array.mem_toList_iff.mp hy)
   simp[DictEntry.refKey,hkey]
  have a':¬es.toList.any (·.refKey)=true:=by rw[a];exact qh
  rw[if_neg a']
  exact congrArg some e
theorem ObjM.look{h:Heap}{x dx C:Addr}{mA:Str->Option Value}(I:ObjM h x dx C mA):∃od,W.InstAt h x (W.instObj C dx) C (some od)/\∀name,W.lookIn name od=some (mA name):=
 let ⟨od,ho,hl⟩:=Yo1 I.ns
 ⟨od,⟨I.obj,rfl,rfl,ho⟩,hl⟩
section
variable {prog:Program} {w:World} {A:Around} {E:Value->Shared->Prop} {s:Shared} {K:W.Frag} {x dx C f:Addr} {mA:Str->Option Value} {name:Str} {v:Value}
theorem Yt3{expr:Bool}{Q:Value->Shared->Prop}(X:K.In s.heap)(I:ObjM s.heap x dx C mA)(hg:W.plainGet K C name=true)(hh:W.hasDictIn K C=true)
 (ha:W.findIn K (.ref C) name=some none) (hv:mA name=some v) (hv':W.handedIn v=true) (h:Q v { s with toks:=s.toks+1 }) :
 wpAny (model prog w) A (getAttr (.ref x) name expr) Q E s:=by
 obtain⟨od,J,hl⟩:=I.look
 exact W.get_value X J (W.plainGet_of hg).1 (W.findObj_own hh ha rfl (by rw[hl,hv])) hv' h
theorem Yrt{pl:Sem Bool}{Q:Value × List Value->Shared->Prop}(X:K.In s.heap)(I:ObjM s.heap x dx C mA)(hg:W.plainGet K C name=true)
 (hf:W.findIn K (.ref C) name=some (some (.ref f))) (ht:W.isFn K (.ref f)=true) (hv:mA name=none) (h:Q (.ref f,[.ref x]) s) :
 wpAny (model prog w) A (getMethod (.ref x) name pl) Q E s:=by
 obtain⟨od,J,hl⟩:=I.look
 exact W.method_fn X J (W.plainGet_of hg).1 (W.plainGet_of hg).2 hf (beq_iff_eq.mp ht) (by show(W.lookIn name od).map (·.isSome)=some false;rw[hl,hv];rfl) h
theorem Yt4{ns:List Str}{Q:Unit->Shared->Prop}(X:K.In s.heap)(I:ObjM s.heap x dx C mA)
 (hs:W.findIn K (.ref C) "__setattr__"=some (some (.builtin "object.__setattr__"))) (hp:W.plainOver K C=true) (ht:W.takerIn K C name=some none) (hh:W.hasDictIn K C=true)
 (hw:PySem.Within mA ns) (hsz:ns.length<=sizeLine)
 (h:∀h',ObjM h' x dx C (fun y=>if y=name then some v else mA y)->Heap.SameBut dx s.heap h'->Q () { s with heap:=h',toks:=s.toks+2 }) :
 wpAny (model prog w) A (setAttr (.ref x) name v) Q E s:=by
 obtain⟨od,J,hl⟩:=I.look
 refine W.set_plain X J hs (W.osa_open (s:={ s with toks:=s.toks+1 }) (r:=none) X J hp ht fun b=>?_)
 obtain⟨cd,hc,hd'⟩:=W.any_some hh
 have hx:s.heap.get? x=some ⟨.ref C,some dx,.plain,#[]⟩:=I.obj
 refine wpAny_bind (wpAny_pure (wpAny_bind (wpAny_bind (wpAny_loadPart hx (wpAny_bind (W.Looks.here (s:={ s with toks:=s.toks+1 }) (W.looks_clsIn X hc) ?_))))))
 rw[hd']
 refine wpAny_pure (a:=some dx) (wpAny_bind (wpAny_pure (wpAny_bind ?_)))
 refine wpAny_nsSet1 (s:={ s with toks:=s.toks+1 }) I.ns fun h' hn2 hs2=>?_
 obtain⟨oD,esD,epD,hoD,hdD,hcD⟩:=hn2.count (PySem.Within.cons name v hw)
 refine wpAny_bind (wpAny_lookBehind hoD (by rw[hdD];exact pastItsLine_dict (Qb hcD (by rw[qq];lia))) ?_)
 exact wpAny_pure (h _ ⟨(hs2.2 _ (Ne.symm I.ne)).trans I.obj,hn2,I.ne⟩ hs2)
theorem Ymw{R:Result->Shared->Prop}{vs:List Value}{kw:List (Str × Value)}(X:K.In s.heap)(hm:W.makesIn K C=true)
 (hi:W.findIn K (.ref C) "__init__"=some (some (.ref f))) (hf:W.typeIn K (.ref f)=some (.type "function"))
 (h:codeAny (model prog w) (A.under (.builtin "type.__call__" ⟨.ref C::vs,kw⟩)) (.call (.ref f) ⟨.ref (s.heap.objs.size+1)::vs,kw⟩) (W.InitBack (s.heap.objs.size+1) R)
  { s with heap:=(s.heap.push W.emptyDict).push (W.instObj C s.heap.objs.size) }) :
 codeAny (model prog w) A (.call (.ref C) ⟨vs,kw⟩) R s:=by
 obtain⟨hh,g,d,t,os⟩:=s
 exact W.make_core (W.makes_of X hm) (W.looks_findIn X hi) (fun self=>W.bind_fn X self hf) (.inl rfl) h
end
def putF(f:Str)(v:V):List (Str × V)->List (Str × V)
 | []=>[(f,v)]
 | (g,x)::r=>if g=f then (g,v)::r else (g,x)::putF f v r
theorem Ygw(f g:Str)(v:V):∀fs:List (Str × V),(putF f v fs).lookup g=if g=f then some v else fs.lookup g
 | []=>by
   show List.lookup g [(f,v)]=_
   by_cases h:g=f
   ·have hb:(g==f)=true:=beq_iff_eq.mpr h
    simp only[List.lookup,hb,if_pos h]
   ·have hb:(g==f)=false:=beq_eq_false_iff_ne.mpr h
    simp only[List.lookup,hb,if_neg h]
 | (k,x)::r=>by
   have ih:=Ygw f g v r
   rw[show putF f v ((k,x)::r)=(if k=f then (k,v)::r else (k,x)::putF f v r) from rfl]
   by_cases hk:k=f
   ·rw[if_pos hk]
    by_cases h:g=k
    ·have hb:(g==k)=true:=beq_iff_eq.mpr h
     simp only[List.lookup,hb,if_pos (h.trans hk)]
    ·have hb:(g==k)=false:=beq_eq_false_iff_ne.mpr h
     simp only[List.lookup,hb,if_neg (fun e:g=f=>h (e.trans hk.symm))]
   ·rw[if_neg hk]
    by_cases h:g=k
    ·have hb:(g==k)=true:=beq_iff_eq.mpr h
     simp only[List.lookup,hb,if_neg (fun e:g=f=>hk (h.symm.trans e))]
    ·have hb:(g==k)=false:=beq_eq_false_iff_ne.mpr h
     simp only[List.lookup,hb]
     exact ih
theorem Ygx(f:Str)(v:V):∀fs:List (Str × V),f∈(putF f v fs).map (·.1)/\∀g,g∈fs.map (·.1)->g∈(putF f v fs).map (·.1)
 | []=>⟨by simp[putF],fun g h=>by simp at h⟩
 | (k,x)::r=>by
   obtain⟨i1,i2⟩:=Ygx f v r
   rw[show putF f v ((k,x)::r)=(if k=f then (k,v)::r else (k,x)::putF f v r) from rfl]
   by_cases hk:k=f
   ·rw[if_pos hk]
    subst hk
    exact⟨by simp,fun g h=>by simpa using h⟩
   ·rw[if_neg hk]
    refine⟨?_,fun g h=>?_⟩
    ·rw[qz]
     exact qf _ i1
    ·rw[qz]at h ⊢
     rcases qr h with e | e
     ·exact List.mem_cons.mpr (.inl e)
     ·exact qf _ (i2 g e)
theorem Ygy(f:Str)(v:V):∀fs:List (Str × V),(putF f v fs).length<=fs.length+1
 | []=>by simp[putF]
 | (k,x)::r=>by
   have ih:=Ygy f v r
   rw[show putF f v ((k,x)::r)=(if k=f then (k,v)::r else (k,x)::putF f v r) from rfl]
   by_cases hk:k=f
   ·rw[if_pos hk,qq,qq];lia
   ·rw[if_neg hk,qq,qq];lia
theorem RelO.some_of{v:V}{o:Option Value}(r:RelO (some v) o):∃u,o=some u/\RelV v u:=by
 cases o with
 | none=>exact(show False from r).elim
 | some u=>exact⟨u,rfl,r⟩
theorem RelO.none_of{o:Option Value}(r:RelO none o):o=none:=by
 cases o with
 | none=>rfl
 | some u=>exact(show False from r).elim
theorem Yo2{v:V}{u:Value}(r:RelV v u):W.handedIn u=true:=by
 cases v with
 | non=>cases (show u=Value.none from r);rfl
 | bl b=>cases (show u=Value.bool b from r);rfl
 | int i=>obtain⟨t,e⟩:=(show ∃t,u=Value.int i t from r);cases e;rfl
 | str x=>obtain⟨t,e⟩:=(show ∃t,u=Value.str x t from r);cases e;rfl
 | byt b=>obtain⟨t,e⟩:=(show ∃t,u=Value.bytes b t from r);cases e;rfl
 | flt b=>obtain⟨t,e⟩:=(show ∃t,u=Value.float b t from r);cases e;rfl
 | ref a=>cases (show u=Value.ref a from r);rfl
 | ty n=>cases (show u=Value.type n from r);rfl
section
variable {P:Program} {w:World} {H H':Hp} {h h':Heap} {a C dx:Addr} {fs fs':List (Str × V)}
theorem Yjb(hok:HOk P w H h)(e:H a=some (.ins C dx fs)):∃mA,ObjM h a dx C mA/\(∀f,RelO (fs.lookup f) (mA f))/\PySem.Within mA (fs.map (·.1))/\fs.length<=1000/\H dx=some (.own a):=by
 obtain⟨d,z,ne,ob,mA,n,r,q⟩:=(show ObjOk P w H h a (.ins C dx fs) from hok a _ e)
 exact⟨mA,⟨ob,n,ne⟩,r,q,z,d⟩
end
structure Cls(K:W.Frag)(C:Addr):Prop where
 pg:W.plainGet K C Str.empty=true
 hd:W.hasDictIn K C=true
 po:W.plainOver K C=true
 sa:W.findIn K (.ref C) "__setattr__"=some (some (.builtin "object.__setattr__"))
theorem Cls.get{K:W.Frag}{C:Addr}(c:Cls K C)(f:Str):W.plainGet K C f=true:=c.pg
def NoAttr(K:W.Frag)(C:Addr)(f:Str):Prop:=W.findIn K (.ref C) f=some none
theorem NoAttr.taker{K:W.Frag}{C:Addr}{f:Str}(n:NoAttr K C f):W.takerIn K C f=some none:=by
 unfold W.takerIn
 rw[show W.findIn K (.ref C) f=some none from n]
 rfl
structure Con(K:W.Frag)(C:Addr)(f:Str)(v:V)(u:Value):Prop where
 at_:W.findIn K (.ref C) f=some (some u)
 rel:RelV v u
 get:W.specialIn K u "__get__"=some none
 cp:W.copiedNames.contains f=false
structure Meth(K:W.Frag)(C:Addr)(m:Str)(f:Addr):Prop where
 at_:W.findIn K (.ref C) m=some (some (.ref f))
 fn:W.isFn K (.ref f)=true
 kp:W.keepIn K (.ref f)=true
section
variable {X:Cx} {pins:List (Addr × Obj)} {σ:St} {H:Hp} {s:Shared} {a C dx:Addr} {fs:List (Str × V)} {f:Str} {v:V} {A:Around} {E:Value->Shared->Prop}
theorem Yn1{b:Bool}{Q:Value->Shared->Prop}(I:Inv X pins σ H s)(e:H a=some (.ins C dx fs))(c:Cls X.K C)(n:NoAttr X.K C f)(l:fs.lookup f=some v)
 (h:∀u s',Inv X pins σ H s'->RelV v u->Q u s'):wpAny (model X.prog X.w) A (getAttr (.ref a) f b) Q E s:=by
 obtain⟨mA,O,r,_,_,_⟩:=Yjb I.hok e
 obtain⟨u,hu,ru⟩:=RelO.some_of (v:=v) (o:=mA f) (by rw[<-l];exact r f)
 exact Yt3 I.kIn O (c.get f) c.hd n hu (Yo2 ru) (h u _ (I.tok _) ru)
theorem Yeg{m:Str}{g:Addr}{pl:Sem Bool}{Q:Value × List Value->Shared->Prop}(I:Inv X pins σ H s)(e:H a=some (.ins C dx fs))(c:Cls X.K C)(k:Meth X.K C m g)(l:fs.lookup m=none)
 (h:Q (.ref g,[.ref a]) s):wpAny (model X.prog X.w) A (getMethod (.ref a) m pl) Q E s:=by
 obtain⟨mA,O,r,_,_,_⟩:=Yjb I.hok e
 have hn:mA m=none:=RelO.none_of (by rw[<-l];exact r m)
 exact Yrt I.kIn O (c.get m) k.at_ k.fn hn h
theorem Yn2{y:V}{u:Value}{Q:Unit->Shared->Prop}(I:Inv X pins σ H s)(e:H a=some (.ins C dx fs))(c:Cls X.K C)(n:NoAttr X.K C f)(hl:fs.length < 1000)(ry:RelV y u)
 (h:∀s',Inv X pins σ (upd H a (.ins C dx (putF f y fs))) s'->Q () s'):wpAny (model X.prog X.w) A (setAttr (.ref a) f u) Q E s:=by
 obtain⟨mA,O,r,wi,_,ho⟩:=Yjb I.hok e
 have hz:(fs.map (·.1)).length<=sizeLine:=by rw[qe,sizeLine_eq];lia
 refine Yt4 I.kIn O c.sa c.po n.taker c.hd wi hz fun h' O' sb=>h _ ?_
 have hd:∃o,h'.get? dx=some o:=let ⟨o,_,_,e',_⟩:=O'.ns;⟨o,e'⟩
 refine I.write (x:=a) (e:=dx) (by rw[e];exact True.intro) (.inr ho) (fun b q hb z=>(sb.2 b hb).trans z) hd ?_
 refine⟨by rw[Yk O.ne];exact ho,?_,O.ne,O'.obj,_,O'.ns,fun g=>?_,fun g hg=>?_⟩
 ·have:=Ygy f y fs;lia
 ·show RelO ((putF f y fs).lookup g) (if g=f then some u else mA g)
  rw[Ygw]
  by_cases q:g=f
  ·rw[if_pos q,if_pos q];exact ry
  ·rw[if_neg q,if_neg q];exact r g
 ·by_cases q:g=f
  ·rw[q];exact(Ygx f y fs).1
  ·refine(Ygx f y fs).2 g (wi g fun z=>hg ?_)
   show(if g=f then some u else mA g)=none
   rw[if_neg q];exact z
theorem Inv.made(I:Inv X pins σ H s):Inv X pins σ (upd (upd H s.heap.objs.size (.own (s.heap.objs.size+1))) (s.heap.objs.size+1) (.ins C s.heap.objs.size []))
 { s with heap:=(s.heap.push W.emptyDict).push (W.instObj C s.heap.objs.size) }:=by
 have e1:(s.heap.push W.emptyDict).get? s.heap.objs.size=some W.emptyDict:=qo s.heap rfl
 have e2:((s.heap.push W.emptyDict).push (W.instObj C s.heap.objs.size)).get? (s.heap.objs.size+1)=some (W.instObj C s.heap.objs.size):=by
  have:=qo (s.heap.push W.emptyDict) (o:=W.instObj C s.heap.objs.size) rfl
  rwa [Heap.size_push]at this
 have e3:(s.heap.push W.emptyDict).Ns s.heap.objs.size (fun _=>none):=⟨W.emptyDict,#[],_,e1,rfl,(fun e he=>absurd he (by simp)),fun _=>rfl⟩
 have I1:=I.laid (a:=s.heap.objs.size) (o:=.own (s.heap.objs.size+1)) (h':=s.heap.push W.emptyDict) (t':=s.toks) (fun b u q=>qd _ q) (qs _) ⟨_,e1⟩
 refine I1.laid (a:=s.heap.objs.size+1) (o:=.ins C s.heap.objs.size []) (t':=s.toks) (fun b u q=>qd _ q) (Nat.le_of_eq (Heap.size_push _ _)) ?_
 have ne:s.heap.objs.size≠s.heap.objs.size+1:=ql (qx _)
 refine⟨by rw[Yk ne,Yo],Nat.zero_le _,ne,e2,fun _=>none,(Heap.Ns1.of_empty e3).at fun o q=>qd _ q,fun _=>True.intro,fun y hy=>absurd rfl hy⟩
theorem Yt5{prog:Program}{w:World}{env:Env}{e:Expr}{f:Str}{pos:Pos}{s:Shared}{Q:Value->Shared->Prop}(hb:attributeBase e f env (eval e env)=eval e env)
 (h:wpAny (model prog w) A (eval e env) (fun o s₁=>wpAny (model prog w) A (getAttr o f true) Q E s₁) E s):wpAny (model prog w) A (eval (.Attribute e f pos) env) Q E s:=
 Attribute_any_ h (by rw[arm_eval_Attribute,hb])
end
def tFld(K:W.Frag)(ta:TE)(f:Str):TE:=fun σ H Q=>ta σ H fun x H1=>∃a C dx fs v,x=.ref a/\H1 a=some (.ins C dx fs)/\Cls K C/\NoAttr K C f/\fs.lookup f=some v/\Q v H1
def sFld(K:W.Frag)(ta tv:TE)(f:Str):TS:=fun D σ H=>tv σ H fun y H1=>ta σ H1 fun x H2=>∃a C dx fs,x=.ref a/\H2 a=some (.ins C dx fs)/\Cls K C/\NoAttr K C f/\fs.length < 1000/\
 D.nx σ (upd H2 a (.ins C dx (putF f y fs)))
section
variable {X:Cx} {o e value:Expr} {f:Str} {pos pos' tpos:Pos} {ta tv:TE} {pins:List (Addr × Obj)} {σ:St} {H:Hp} {s:Shared} {A:Around} {E Q:Value->Shared->Prop} {c:Value} {b:Bool}
theorem Ytd(he:PE X e ta)(hb:attributeBase e f X.env (eval e X.env)=eval e X.env):PE X (.Attribute e f pos) (tFld X.K ta f):=by
 intro pins s σ H Q I h
 refine Yt5 hb (thn (he pins s σ H _ I h) fun u s1 hx_=>?_)
 obtain⟨x,H1,I1,rx,a,C,dx,fs,v,ex,ea,c,n,l,q⟩:=hx_
 subst ex
 obtain rfl:u=Value.ref a:=rx
 exact Yn1 I1 ea c n l fun u' s2 I2 ru=>⟨v,H1,I2,ru,q⟩
theorem Yo3(ha:PE X o ta)(hv:PE X value tv)(hs:swapsWith value (some (.Attribute o f pos')) pos.line X.env=pure false):PS X (.Assign [.Attribute o f pos'] value pos) (sFld X.K ta tv f):=by
 intro pins s σ H D I h
 refine plainObj_wpAny_Assign_Attribute (thn (hv pins s σ H _ I h) fun u s1 hx_=>?_) hs
 obtain⟨y,H1,I1,ry,q⟩:=hx_
 refine thn (ha pins s1 σ H1 _ I1 q) fun ov s2 hx_=>?_
 obtain⟨x,H2,I2,rx,a,C,dx,fs,ex,ea,c,n,l,q2⟩:=hx_
 subst ex
 obtain rfl:ov=Value.ref a:=rx
 exact Yn2 I2 ea c n l ry fun s3 I3=>⟨σ,_,I3,q2⟩
inductive TyOf (K:W.Frag) (H:Hp):V->Value->Prop where
 | non:TyOf K H .non (.type "NoneType")
 | bl (x:Bool):TyOf K H (.bl x) (.type "bool")
 | int (i:Int):TyOf K H (.int i) (.type "int")
 | str (x:Str):TyOf K H (.str x) (.type "str")
 | flt (x:UInt64):TyOf K H (.flt x) (.type "float")
 | lst {a:Addr} {xs:List V} (e:H a=some (.lst xs)):TyOf K H (.ref a) (.type "list")
 | frz {a:Addr} {o:Obj} {xs:List V} (e:H a=some (.frz o (.lst xs))):TyOf K H (.ref a) (.type "list")
 | tup {a:Addr} {xs:List V} (e:H a=some (.tup xs)):TyOf K H (.ref a) (.type "tuple")
 | dK {a:Addr} {kvs:List (Key × V)} (e:H a=some (.dK kvs)):TyOf K H (.ref a) (.type "dict")
 | dT {a:Addr} {kvs:List (List Key × V)} (e:H a=some (.dT kvs)):TyOf K H (.ref a) (.type "dict")
 | ins {a C dx:Addr} {fs:List (Str × V)} (e:H a=some (.ins C dx fs)) (cl:Cls K C) (ha:W.findIn K (.ref C) "__class__"=some (some (.builtin "object.__class__")))
  (hn:W.specialIn K (.builtin "object.__class__") "__get__"=some (some (.builtin "getset_descriptor.__get__"))) (htk:W.takesIn K (.builtin "object.__class__")=some true)
  (hm:W.mroIn K C (.type "object")=some true):TyOf K H (.ref a) (.ref C)
theorem Yo4{x:V}{u t:Value}(I:Inv X pins σ H s)(rx:RelV x u)(ty:TyOf X.K H x t)(e:W.kitOne X.K t c=some b)(h:∀tk,Q (.bool b) { s with toks:=tk }) :
 wpAny (model X.prog X.w) A (call (.builtin "isinstance") [u,c]) Q E s:=by
 cases ty with
 | non=>cases (show u=Value.none from rx);exact W.kia_one W.kitx_none I.kIn True.intro e (fun z=>nomatch z) h
 | bl y=>cases (show u=Value.bool y from rx);exact W.kia_one W.kitx_bool I.kIn True.intro e (fun z=>nomatch z) h
 | int i=>obtain⟨t,q⟩:=(show ∃t,u=Value.int i t from rx);cases q;exact W.kia_one W.kitx_int I.kIn True.intro e (fun z=>nomatch z) h
 | str y=>obtain⟨t,q⟩:=(show ∃t,u=Value.str y t from rx);cases q;exact W.kia_one W.kitx_str I.kIn True.intro e (fun z=>nomatch z) h
 | flt y=>obtain⟨t,q⟩:=(show ∃t,u=Value.float y t from rx);cases q;exact W.kia_one W.kitx_float I.kIn True.intro e (fun z=>nomatch z) h
 | @lst a xs ea=>
   cases (show u=Value.ref a from rx)
   obtain⟨_,_,n,_,h1⟩:=(show ObjOk X.prog X.w H s.heap a (.lst xs) from I.hok a _ ea)
   exact W.kia_one W.kitx_list I.kIn ⟨_,h1,rfl⟩ e (fun z=>nomatch z) h
 | @frz a ob xs ea=>
   cases (show u=Value.ref a from rx)
   obtain⟨_,_,_,n,_,h1⟩:=(show ObjOk X.prog X.w H s.heap a (.frz ob (.lst xs)) from I.hok a _ ea)
   exact W.kia_one W.kitx_list I.kIn ⟨_,h1,rfl⟩ e (fun z=>nomatch z) h
 | @tup a xs ea=>
   cases (show u=Value.ref a from rx)
   obtain⟨_,_,_,p⟩:=(show ObjOk X.prog X.w H s.heap a (.tup xs) from I.hok a _ ea)
   obtain⟨o,h1,h2,_⟩:=p
   exact W.kia_one W.kitx_tuple I.kIn ⟨o,h1,h2⟩ e (fun z=>nomatch z) h
 | @dK a kvs ea=>
   cases (show u=Value.ref a from rx)
   obtain⟨_,_,vs,_,p⟩:=(show ObjOk X.prog X.w H s.heap a (.dK kvs) from I.hok a _ ea)
   obtain⟨o,es,ep,h1,h2,_⟩:=p
   exact W.kia_one W.kitx_dict I.kIn ⟨o,h1,h2.1⟩ e (fun z=>nomatch z) h
 | @dT a kvs ea=>
   cases (show u=Value.ref a from rx)
   obtain⟨_,_,xs,_,o,es,ep,h1,h2,_⟩:=(show ObjOk X.prog X.w H s.heap a (.dT kvs) from I.hok a _ ea)
   exact W.kia_one W.kitx_dict I.kIn ⟨o,h1,h2.1⟩ e (fun z=>nomatch z) h
 | @ins a C dx fs ea cl ha hn htk hm=>
   cases (show u=Value.ref a from rx)
   obtain⟨mA,O,_⟩:=Yjb I.hok ea
   obtain⟨od,J,_⟩:=O.look
   exact W.kia_one (W.kitx_own (cl.get _) cl.hd ha hn htk hm) I.kIn J e (fun z=>nomatch z) h
end
end L2
namespace L2
open PySem PySem.Spec PyProof.Rows
structure Room(k:Nat)(A:Around):Prop where
 hd:A.handled=none
 dp:A.depth+3 * k+5 < recursionLimit
 un:A.units+16 * k+200 < cLine
theorem Room.mono{j k:Nat}{A:Around}(r:Room k A)(h:j<=k):Room j A:=⟨r.hd,by have:=r.dp;lia,by have:=r.un;lia⟩
theorem Room.deeper{k:Nat}{A:Around}(r:Room (k+1) A)(env:Env):Room k (A.deeper env):=
 ⟨r.hd,by have:=r.dp;show A.depth+1+3 * k+5 < _;lia,by have:=r.un;show A.units+3+16 * k+200 < _;lia⟩
theorem Yn3{A:Around}{C:Addr}{us:List Value}{kw:List (Str × Value)}:(A.under (.builtin "type.__call__" ⟨.ref C::us,kw⟩)).depth=A.depth+1:=by
 first | rfl | simp[Around.under,Code.weight,Code.isCreation,Code.isGuard,Code.isCaller,Code.frames,Code.isFrame,guardIds]
theorem Yn4{A:Around}{C:Addr}{us:List Value}{kw:List (Str × Value)}:(A.under (.builtin "type.__call__" ⟨.ref C::us,kw⟩)).units=A.units+1:=by
 first | rfl | simp[Around.under,Code.cUnits,Code.frames,Code.isFrame]
theorem Room.make{k:Nat}{A:Around}(r:Room (k+1) A)(C:Addr)(us:List Value)(kw:List (Str × Value)):Room k (A.under (.builtin "type.__call__" ⟨.ref C::us,kw⟩)):=
 ⟨r.hd,by have:=r.dp;rw[Yn3];lia,by have:=r.un;rw[Yn4];lia⟩
theorem Room.depth{k:Nat}{A:Around}(r:Room k A):A.depth < recursionLimit:=by have:=r.dp;lia
theorem Room.units{k:Nat}{A:Around}(r:Room k A):A.units+64 < cLine:=by have:=r.un;lia
def tNil:TA:=fun _ H Q=>Q [] H
def Yzs(ta:TE)(tr:TA):TA:=fun σ H Q=>ta σ H fun x H1=>tr σ H1 fun xs H2=>Q (x::xs) H2
section
variable {X:Cx} {e:Expr} {es:List Expr} {te:TE} {t:TA} {pos:Pos}
theorem Ydq:PA X [] tNil:=fun _ _ _ _ H Q I h=>Calls.spliced_nil ⟨[],H,I,.nil,h⟩
theorem Ybd(ha:PE X e te)(hr:PA X es t)(hs:starEach (e::es) X.env=(false,eval e X.env)::starEach es X.env:=by rfl):PA X (e::es) (Yzs te t):=by
 intro pos pins s σ H Q I h
 rw[hs]
 show wpAny _ _ (spliced ((false,eval e X.env)::backTo pos (starEach es X.env))) _ _ s
 refine Calls.spliced_cons (thn (ha pins s σ H _ I h) fun u s1 hx_=>?_)
 obtain⟨x,H1,I1,r1,q1⟩:=hx_
 refine thn (hr pos pins s1 σ H1 _ I1 q1) fun us s2 hx_=>?_
 obtain⟨xs,H2,I2,r2,q2⟩:=hx_
 exact⟨x::xs,H2,I2,.cons r1 r2,q2⟩
def tTup(t:TA):TE:=fun σ H Q=>t σ H fun xs H1=>xs.length<=sizeLine/\∀p,H1 p=none->Q (.ref p) (upd H1 p (.tup xs))
def tLst(t:TA):TE:=fun σ H Q=>t σ H fun xs H1=>xs.length<=sizeLine/\∀p,H1 p=none->Q (.ref p) (upd H1 p (.lst xs))
theorem Yw5{x1}(h:PA X es t):PE X (.Tuple es x1 pos) (tTup t):=by
 intro pins s σ H Q I hq
 refine wpAny_Tuple_spliced (thn (h pos pins s σ H _ I hq) fun us s1 ⟨xs,H1,I1,r,z,q⟩=>⟨by rw[<-r.length];exact z,?_⟩)
 have hf:H1 s1.heap.objs.size=none:=I1.hok.fresh (qs _)
 refine⟨.ref s1.heap.objs.size,upd H1 s1.heap.objs.size (.tup xs),I1.laid (t':=s1.toks) (fun b u e=>qd _ e) (qs _) ?_,rfl,q _ hf⟩
 exact⟨z,us,r,⟨_,qo _ rfl,rfl,_,rfl⟩⟩
theorem Yte(h:PA X es t):PE X (.List es pos) (tLst t):=by
 intro pins s σ H Q I hq
 refine wpAny_List_spliced (thn (h pos pins s σ H _ I hq) fun us s1 ⟨xs,H1,I1,r,z,q⟩=>⟨by rw[<-r.length];exact z,?_⟩)
 have hf:H1 s1.heap.objs.size=none:=I1.hok.fresh (qs _)
 refine⟨.ref s1.heap.objs.size,upd H1 s1.heap.objs.size (.lst xs),I1.laid (t':=s1.toks) (fun b u e=>qd _ e) (qs _) ?_,rfl,q _ hf⟩
 exact⟨z,us,0,r,qo _ rfl⟩
end
abbrev Sp:=List V->Hp->VK->XK->Prop
abbrev CXT:=List Env->Hp->Shared->XK->Value->Shared->Prop
structure Env0(P:Program)(w:World)(K:W.Frag)(mg:Str->Option Value)(base:Heap)(A:Around)(outer:List Env)(s:Shared)(H:Hp):Prop where
 frames:A.frames=some outer
 mod:Mod K mg base
 bs:∀b o,base.get? b=some o->s.heap.get? b=some o/\H b=none
 bsz:base.objs.size<=s.heap.objs.size
 funs:s.heap.FunFrames base outer
 frf:∀b∈frs outer,H b=none
 hok:HOk P w H s.heap
 bare:AllBare s.gens
def CE(outer:List Env)(P:Program)(w:World)(H:Hp)(s:Shared)(Q:VK)(u:Value)(s':Shared):Prop:=
 ∃v H',s'.os=s.os/\AllBare s'.gens/\Un (frs outer) [] H H' s.heap s'.heap/\HOk P w H' s'.heap/\RelV v u/\Q v H'
def CR(CX:CXT)(outer:List Env)(P:Program)(w:World)(H:Hp)(s:Shared)(Q:VK)(E:XK)(r:Result)(s':Shared):Prop:=
 match r with
 | .ok (.ret u)=>CE outer P w H s Q u s'
 | .ok _=>False
 | .error e=>CX outer H s E e s'
structure FnOk(P:Program)(w:World)(K:W.Frag)(mg:Str->Option Value)(base:Heap)(CX:CXT)(k:Nat)(f:Addr)(fd:FuncData)(ps:List Str)(sp:Sp):Prop where
 len:∀vs H Q E,sp vs H Q E->vs.length=ps.length
 run:∀(A:Around) (outer:List Env) (s:Shared) (H:Hp) (args:Args) (us:List Value) (vs:List V) (Q:VK) (E:XK),Room k A->Env0 P w K mg base A outer s H->BindsTo s fd args (ps.zip us)->Vals vs us->sp vs H Q E->
  codeAny (model P w) A (.call (.ref f) args) (CR CX outer P w H s Q E) s
theorem FnOk.mono{P:Program}{w:World}{K:W.Frag}{mg:Str->Option Value}{base:Heap}{CX:CXT}{j k:Nat}{f:Addr}{fd:FuncData}{ps:List Str}{sp:Sp}(F:FnOk P w K mg base CX j f fd ps sp)(h:j<=k) :
 FnOk P w K mg base CX k f fd ps sp:=⟨F.len,fun A outer s H args us vs Q E hr=>F.run A outer s H args us vs Q E (hr.mono h)⟩
theorem Env0.make{P:Program}{w:World}{K:W.Frag}{mg:Str->Option Value}{base:Heap}{A:Around}{outer:List Env}{s:Shared}{H:Hp}(e:Env0 P w K mg base A outer s H)(C:Addr)(us:List Value)(kw:List (Str × Value)) :
 Env0 P w K mg base (A.under (.builtin "type.__call__" ⟨.ref C::us,kw⟩)) outer s H:=⟨by first | exact e.frames | (simpa [Around.under,Code.envs,Code.isFrame,pushEnvs]using e.frames),e.mod,e.bs,e.bsz,e.funs,e.frf,e.hok,e.bare⟩
section
variable {X:Cx} {pins:List (Addr × Obj)} {σ:St} {H:Hp} {s s':Shared}
theorem Inv.env0(I:Inv X pins σ H s):Env0 X.prog X.w X.K X.mg X.base X.A X.stack s H:=
 ⟨I.ok.frames,I.ok.mod,I.bs,Qb I.ok.bsz I.sz,I.stack,I.stkFree,I.hok,I.bare⟩
theorem Inv.after{Q:VK}{u:Value}(I:Inv X pins σ H s)(h:CE X.stack X.prog X.w H s Q u s'):EP X pins σ Q u s':=by
 obtain⟨v,H',os,bare,un,hok,r,q⟩:=h
 obtain⟨hh,g,d,t,os'⟩:=s'
 obtain rfl:os'=s.os:=os
 exact⟨v,H',I.call (h':=hh) (g':=g) (d':=d) (t':=t) (ch:=[]) un hok bare (fun b z=>absurd z (by simp)),r,q⟩
end
def Yzt(sp:Sp)(dvs:List V)(E:XK)(t:TA):TE:=fun σ H Q=>t σ H fun vs H1=>sp (vs++dvs) H1 Q E
def Yw6(C:Addr)(m:Str)(sp:Sp)(dvs:List V)(E:XK)(ta:TE)(t:TA):TE:=fun σ H Q=>ta σ H fun x H1=>∃a dx fs,x=.ref a/\H1 a=some (.ins C dx fs)/\fs.lookup m=none/\
 t σ H1 fun vs H2=>sp (x::(vs++dvs)) H2 Q E
def Yzu(C:Addr)(sp:Sp)(dvs:List V)(E:XK)(t:TA):TE:=fun σ H Q=>t σ H fun vs H1=>∀x dx,H1 x=none->H1 dx=none->dx≠x->
 sp (.ref x::(vs++dvs)) (upd (upd H1 dx (.own x)) x (.ins C dx [])) (fun v H2=>v=.non/\Q (.ref x) H2) E
def Binds(K:W.Frag)(fd:FuncData)(ps:List Str)(ds:List Value):Prop:=
 ∀(s:Shared) (us:List Value),K.In s.heap->(us++ds).length=ps.length->BindsTo s fd ⟨us,[]⟩ (ps.zip (us++ds))
theorem Binds.all{K:W.Frag}{fd:FuncData}{ps:List Str}(h:∀us:List Value,us.length=ps.length->bindArgs fd ⟨us,[]⟩=pure (ps.zip us)):Binds K fd ps []:=fun s us _ hl=>by
 rw[List.append_nil]at hl ⊢
 exact .of_eq (h us hl)
def Yf7(CX:CXT)(X:Cx)(E:XK):Prop:=∀(pins:List (Addr × Obj)) (σ:St) (H:Hp) (s:Shared) (e:Value) (s':Shared),Inv X pins σ H s->CX X.stack H s E e s'->X.xe e s'
section
variable {X:Cx} {CX:CXT} {k:Nat} {f C:Addr} {fd:FuncData} {ps:List Str} {sp:Sp} {dvs:List V} {ds:List Value} {E:XK} {x m:Str} {p pos apos:Pos} {e o:Expr} {es:List Expr} {ta:TE} {t:TA}
theorem Yo5{pins:List (Addr × Obj)}{σ:St}{H:Hp}{s:Shared}{Q:VK}{us:List Value}{vs:List V}(F:FnOk X.prog X.w X.K X.mg X.base CX k f fd ps sp)(hr:Room k X.A)(hb:Binds X.K fd ps ds)(hd:Vals dvs ds)(hx:Yf7 CX X E)
 (I:Inv X pins σ H s) (r:Vals vs us) (h:sp (vs++dvs) H Q E):wpAny (model X.prog X.w) X.A (call (.ref f) us) (EP X pins σ Q) X.xe s:=by
 have r2:Vals (vs++dvs) (us++ds):=r.append hd
 have hl:(us++ds).length=ps.length:=by rw[<-r2.length];exact F.len _ _ _ _ h
 refine wpAny_call (codeAny_mono (F.run X.A X.stack s H ⟨us,[]⟩ (us++ds) (vs++dvs) Q E hr I.env0 (hb s us I.kIn hl) r2 h) fun r s' hq=>?_)
 cases r with
 | error e=>exact hx pins σ H s e s' I hq
 | ok fl=>
   cases fl with
   | ret u=>exact I.after hq
   | next=>exact False.elim hq
   | brk=>exact False.elim hq
   | cont=>exact False.elim hq
theorem Yo6(F:FnOk X.prog X.w X.K X.mg X.base CX k f fd ps sp)(hr:Room k X.A)(hg:Gl X x)(hm:X.mg x=some (.ref f))(hk:W.keepIn X.K (.ref f)=true)(hb:Binds X.K fd ps ds)(hd:Vals dvs ds)(hx:Yf7 CX X E)
 (ha:PA X (e::es) t) (hdb:(x==("__debug__":Str))=false:=by decide) (he:starEach (e::es) X.env=(false,eval e X.env)::starEach es X.env:=by rfl) (hpl:(backTo pos (starEach es X.env)).any (·.1)=false:=by rfl) :
 PE X (.Call (.Name x p) (e::es) [] pos) (Yzt sp dvs E t):=by
 intro pins s σ H Q I h
 refine wpAny_Call_Name_kw (Yfs I hg hm ?_ hdb)
 refine W.callWith_K (h₀:=X.base) I.ok.mod.kin hk (thn (ha pos pins s σ H _ I h) fun us s1 hx_=>?_) he hpl
 obtain⟨vs,H1,I1,r,q⟩:=hx_
 refine⟨I1.kIn,?_⟩
 exact Yo5 F hr hb hd hx I1 r q
theorem Yt6{pl:Sem Bool}(he:PE X o ta)(c:Cls X.K C)(hm:Meth X.K C m f)(F:FnOk X.prog X.w X.K X.mg X.base CX k f fd ps sp)(hr:Room k X.A)(hb:Binds X.K fd ps ds)(hd:Vals dvs ds)(hx:Yf7 CX X E)(ha:PA X (e::es) t)
 (hst:starEach (e::es) X.env=(false,eval e X.env)::starEach es X.env:=by rfl) (hpl:(backTo pos (starEach es X.env)).any (·.1)=false:=by rfl)
 (ht:eval (.Call (.Attribute o m apos) (e::es) [] pos) X.env=(do
  let ov <-eval o X.env
  standAt apos.atName
  let (f,first) <-holding [ov] (getMethod ov m pl)
  callWith pos f first (backTo pos (starEach (e::es) X.env)) (backToKw pos (keywordEach [] X.env))):=by rfl) :
 PE X (.Call (.Attribute o m apos) (e::es) [] pos) (Yw6 C m sp dvs E ta t):=by
 intro pins s σ H Q I h
 refine W.methodCall_KW (pl:=pl) (thn (he pins s σ H _ I h) fun u s1 hx_=>?_) ht
 obtain⟨x,H1,I1,rx,a,dx,fs,ex,ea,l,q⟩:=hx_
 subst ex
 obtain rfl:u=Value.ref a:=rx
 refine Yeg I1 ea c hm l ?_
 refine W.callWith_K (first:=[.ref a]) (h₀:=X.base) I.ok.mod.kin hm.kp (thn (ha pos pins s1 σ H1 _ I1 q) fun us s2 hx_=>?_) hst hpl
 obtain⟨vs,H2,I2,r,q2⟩:=hx_
 refine⟨I2.kIn,?_⟩
 exact Yo5 (us:=.ref a::us) (vs:=.ref a::vs) F hr hb hd hx I2 (.cons rfl r) q2
theorem Yru{pl:Sem Bool}(he:PE X o ta)(c:Cls X.K C)(hm:Meth X.K C m f)(F:FnOk X.prog X.w X.K X.mg X.base CX k f fd ps sp)(hr:Room k X.A)(hb:Binds X.K fd ps ds)(hd:Vals dvs ds)(hx:Yf7 CX X E)
 (ht:eval (.Call (.Attribute o m apos) [] [] pos) X.env=(do
  let ov <-eval o X.env
  standAt apos.atName
  let (f,first) <-holding [ov] (getMethod ov m pl)
  callWith pos f first (backTo pos (starEach [] X.env)) (backToKw pos (keywordEach [] X.env))):=by rfl) :
 PE X (.Call (.Attribute o m apos) [] [] pos) (Yw6 C m sp dvs E ta tNil):=by
 intro pins s σ H Q I h
 refine W.methodCall_KW (pl:=pl) (thn (he pins s σ H _ I h) fun u s1 hx_=>?_) ht
 obtain⟨x,H1,I1,rx,a,dx,fs,ex,ea,l,q⟩:=hx_
 subst ex
 obtain rfl:u=Value.ref a:=rx
 refine Yeg I1 ea c hm l ?_
 exact W.callWith_K0 (first:=[.ref a]) I1.kIn hm.kp (Yo5 (us:=[.ref a]) (vs:=[.ref a]) F hr hb hd hx I1 (.cons rfl .nil) q)
structure Mk(K:W.Frag)(C f:Addr):Prop where
 makes:W.makesIn K C=true
 init:W.findIn K (.ref C) "__init__"=some (some (.ref f))
 fn:W.isFn K (.ref f)=true
 kp:W.keepIn K (.ref C)=true
theorem Yrv{pins:List (Addr × Obj)}{σ:St}{H:Hp}{s:Shared}{Q:VK}{us:List Value}{vs:List V}(M:Mk X.K C f)(F:FnOk X.prog X.w X.K X.mg X.base CX k f fd ps sp)(hr:Room (k+1) X.A)(hb:Binds X.K fd ps ds)(hd:Vals dvs ds)
 (hx:Yf7 CX X E) (I:Inv X pins σ H s) (r:Vals vs us)
 (h:∀x dx,H x=none->H dx=none->dx≠x->sp (.ref x::(vs++dvs)) (upd (upd H dx (.own x)) x (.ins C dx [])) (fun v H2=>v=.non/\Q (.ref x) H2) E) :
 wpAny (model X.prog X.w) X.A (call (.ref C) us) (EP X pins σ Q) X.xe s:=by
 have hq:=h (s.heap.objs.size+1) s.heap.objs.size (I.hok.fresh (Nat.le_succ _)) (I.hok.fresh (qs _)) (ql (qx _))
 have I2:=Inv.made (C:=C) I
 have r2:Vals (V.ref (s.heap.objs.size+1)::(vs++dvs)) (Value.ref (s.heap.objs.size+1)::(us++ds)):=.cons rfl (r.append hd)
 have hl:(Value.ref (s.heap.objs.size+1)::us++ds).length=ps.length:=by
  have e:=r2.length
  rw[F.len _ _ _ _ hq]at e
  exact e.symm
 refine wpAny_call (Ymw (f:=f) I.kIn M.makes M.init (beq_iff_eq.mp M.fn) (codeAny_mono (F.run _ X.stack _ _ ⟨Value.ref (s.heap.objs.size+1)::us,[]⟩ (Value.ref (s.heap.objs.size+1)::(us++ds)) _ _ E (hr.make C us [])
  (I2.env0.make C us []) (hb _ (Value.ref (s.heap.objs.size+1)::us) I2.kIn hl) r2 hq) fun r s' hq'=>?_))
 cases r with
 | error e=>exact hx pins σ _ _ e s' I2 hq'
 | ok fl=>
   cases fl with
   | ret u=>
     obtain⟨v,H',I3,rv,ev,q3⟩:=I2.after hq'
     subst ev
     exact⟨rv,⟨V.ref (s.heap.objs.size+1),H',I3,rfl,q3⟩⟩
   | next=>exact False.elim hq'
   | brk=>exact False.elim hq'
   | cont=>exact False.elim hq'
theorem Yt7(M:Mk X.K C f)(F:FnOk X.prog X.w X.K X.mg X.base CX k f fd ps sp)(hr:Room (k+1) X.A)(hg:Gl X x)(hm:X.mg x=some (.ref C))(hb:Binds X.K fd ps ds)(hd:Vals dvs ds)(hx:Yf7 CX X E)
 (ha:PA X (e::es) t) (hdb:(x==("__debug__":Str))=false:=by decide) (he:starEach (e::es) X.env=(false,eval e X.env)::starEach es X.env:=by rfl) (hpl:(backTo pos (starEach es X.env)).any (·.1)=false:=by rfl) :
 PE X (.Call (.Name x p) (e::es) [] pos) (Yzu C sp dvs E t):=by
 intro pins s σ H Q I h
 refine wpAny_Call_Name_kw (Yfs I hg hm ?_ hdb)
 refine W.callWith_K (h₀:=X.base) I.ok.mod.kin M.kp (thn (ha pos pins s σ H _ I h) fun us s1 hx_=>?_) he hpl
 obtain⟨vs,H1,I1,r,q⟩:=hx_
 refine⟨I1.kIn,?_⟩
 exact Yrv M F hr hb hd hx I1 r q
end
section
variable {X:Cx} {CX:CXT} {k:Nat} {f C:Addr} {fd:FuncData} {ps ks:List Str} {sp:Sp} {E:XK} {x m:Str} {p pos apos kpos:Pos} {e o:Expr} {es:List Expr} {kws:List Keyword} {te ta:TE} {t tk:TA} {nm:Option Str}
structure KBinds(K:W.Frag)(fd:FuncData)(ps ks:List Str)(g:List Value->List Value->List Value)(gV:List V->List V->List V):Prop where
 to:∀(s:Shared) (us ws:List Value),K.In s.heap->(g us ws).length=ps.length->BindsTo s fd ⟨us,ks.zip ws⟩ (ps.zip (g us ws))
 rel:∀{vs:List V} {us:List Value} {zs:List V} {ws:List Value},Vals vs us->Vals zs ws->Vals (gV vs zs) (g us ws)
variable {g:List Value->List Value->List Value} {gV:List V->List V->List V}
end
structure FnScope(N P:List Str)(sc:Scope):Prop where
 kind:sc.kind=.function
 co:sc.isCoroutine=false
 gen:sc.isGenerator=false
 nd:N.Nodup
 pre:N.take P.length=P
 par:∀x∈P,sc.names.lookup x=some .local\/sc.names.lookup x=some .cell
 nofree:∀y∈sc.names,y.2≠.free
theorem Yki{kindOf:Str->Option NameKind}{x:Str}:∀{binds:List (Str × Value)} {m:Str->Option Value},(∀v,(x,v)∉binds)->bindL kindOf binds m x=m x
 | [],_,_=>rfl
 | (n,v)::r,m,h=>by
   unfold bindL
   rw[Yki fun w hw=>h w (qf _ hw)]
   split
   ·have:x≠n:=by rintro rfl;exact h v qg
    simp[this]
   ·rfl
theorem Ykj{kindOf:Str->Option NameKind}{x:Str}:∀{binds:List (Str × Value)} {m:Str->Option Value},(∀v,(x,v)∉binds)->bindC kindOf binds m x=m x
 | [],_,_=>rfl
 | (n,v)::r,m,h=>by
   unfold bindC
   rw[Ykj fun w hw=>h w (qf _ hw)]
   split
   ·rfl
   ·have:x≠n:=by rintro rfl;exact h v qg
    simp[this]
theorem Ykk{kindOf:Str->Option NameKind}{x:Str}{v:Value}:∀{P:List Str} {vs:List Value} {i:Nat} {m:Str->Option Value},P.Nodup->P[i]?=some x->vs[i]?=some v->kindOf x=some .local->
 bindL kindOf (P.zip vs) m x=some v
 | [],_,_,_,_,h,_,_=>by simp at h
 | _::_,[],_,_,_,_,h,_=>by simp at h
 | p::P,w::vs,0,m,nd,h1,h2,hk=>by
   simp at h1 h2;subst h1;subst h2
   show bindL kindOf ((p,w)::P.zip vs) m p=_
   unfold bindL
   rw[Yki fun v hv=>(List.nodup_cons.mp nd).1 (List.of_mem_zip hv).1,if_pos hk]
   simp
 | p::P,w::vs,i+1,m,nd,h1,h2,hk=>by
   show bindL kindOf ((p,w)::P.zip vs) m x=_
   unfold bindL
   exact Ykk (i:=i) (List.nodup_cons.mp nd).2 (by simpa using h1) (by simpa using h2) hk
theorem Ykl{kindOf:Str->Option NameKind}{x:Str}{v:Value}:∀{P:List Str} {vs:List Value} {i:Nat} {m:Str->Option Value},P.Nodup->P[i]?=some x->vs[i]?=some v->kindOf x≠some .local->
 bindC kindOf (P.zip vs) m x=some v
 | [],_,_,_,_,h,_,_=>by simp at h
 | _::_,[],_,_,_,_,h,_=>by simp at h
 | p::P,w::vs,0,m,nd,h1,h2,hk=>by
   simp at h1 h2;subst h1;subst h2
   show bindC kindOf ((p,w)::P.zip vs) m p=_
   unfold bindC
   rw[Ykj fun v hv=>(List.nodup_cons.mp nd).1 (List.of_mem_zip hv).1,if_neg hk]
   simp
 | p::P,w::vs,i+1,m,nd,h1,h2,hk=>by
   show bindC kindOf ((p,w)::P.zip vs) m x=_
   unfold bindC
   exact Ykl (i:=i) (List.nodup_cons.mp nd).2 (by simpa using h1) (by simpa using h2) hk
def start(N:List Str)(vs:List V):St:=vs.map some++List.replicate (N.length - vs.length) none
def cxOf(CX:CXT)(P:Program)(w:World)(K:W.Frag)(mg:Str->Option Value)(base:Heap)(N:List Str)(qual:Str)(scope:Scope)(f:Addr)(cd:Value)(A:Around)(outer:List Env)(s:Shared)(H:Hp)(E:XK):Cx where
 prog:=P
 w:=w
 K:=K
 mg:=mg
 base:=base
 A:=A.deeper (envOfC qual scope s.heap.objs.size f cd)
 N:=N
 s₀:=s
 H₀:=H
 env:=envOfC qual scope s.heap.objs.size f cd
 outer:=outer
 stack:=envOfC qual scope s.heap.objs.size f cd::outer
 ex:=[]
 calm:=true
 fn:=fun _=>true
 pn:=[]
 xe:=fun e s'=>wpAny (model P w) (A.deeper (envOfC qual scope s.heap.objs.size f cd)) (leaving (envOfC qual scope s.heap.objs.size f cd) e) (fun _ s''=>CX outer H s E e s'') (fun e' s''=>CX outer H s E e' s'') s'
theorem Ymx{sc:Scope}{n:Nat}{x:Str}(h:sc.names.lookup x=some .cell):∃c,(cellsFrom n sc.names []).lookup x=some c:=by
 have q:=PySem.W.cellsFrom_some sc.names n [] (.inl h)
 exact Option.isSome_iff_exists.mp q
theorem Yo7{CX:CXT}{P:Program}{w:World}{K:W.Frag}{mg:Str->Option Value}{base:Heap}{N ps:List Str}{qual:Str}{scope:Scope}{f:Addr}{cd:Value}{A:Around}{outer:List Env}{s s1:Shared}{H:Hp}{E:XK}{us:List Value}{vs:List V}
 (S:FnScope N ps scope) (hd:A.handled=none) (e0:Env0 P w K mg base A outer s H) (hl:vs.length=ps.length) (r:Vals vs us)
 (x:InCallC s s.heap.objs.size (bindL (envOfC qual scope s.heap.objs.size f cd).kindOf (ps.zip us) fun _=>none) (cellsFrom (s.heap.objs.size+1) scope.names []) (bindC (envOfC qual scope s.heap.objs.size f cd).kindOf (ps.zip us) fun _=>none) s1) :
 Inv (cxOf CX P w K mg base N qual scope f cd A outer s H E) [] (start N vs) H s1:=by
 have hpl:ps.length<=N.length:=by have:=congrArg List.length S.pre;rw[List.length_take]at this;lia
 obtain⟨h1,tk,rfl,hk⟩:=x.done
 have noA:∀b:Addr,b∉(cxOf CX P w K mg base N qual scope f cd A outer s H E).ex:=fun b z=>absurd (show b∈([]:List Addr) from z) (by simp)
 refine⟨⟨e0.mod,S.kind,rfl,rfl,qs _,fun y z c h1 h2=>?_,fun y hy=>?_,fun y c _ h=>?_,fun _=>hd,Around.frames_deeper e0.frames,.inr ⟨rfl,rfl⟩,fun b z=>absurd z (noA b),e0.bs,e0.bsz,fun b _ _=>noA b,fun b z=>absurd z (noA b),e0.funs,e0.frf⟩,
  rfl,e0.bare,Un.kept hk,⟨_,x.toInCall.ns,fun i y v h1 h2 h3=>?_⟩,fun y c h=>⟨_,x.cell y c h⟩,e0.hok.fresh (qs _),fun y c h=>?_,fun p hp=>absurd (show p∈([]:List (Addr × Obj)) from hp) (by simp),e0.hok.kept hk,?_⟩
 ·exact name_of_addr x.apart (PySem.mem_of_lookup h1) (PySem.mem_of_lookup h2)
 ·have hy:scope.names.lookup y=some .cell\/scope.names.lookup y=some .free:=hy
  rcases hy with hy | hy
  ·exact Ymx hy
  ·exact absurd rfl (S.nofree _ (PySem.mem_of_lookup hy))
 ·exact Nat.le_of_lt (x.above y c (PySem.mem_of_lookup h))
 ·have hi:i < vs.length:=by
   unfold start at h2
   by_cases hi:i < vs.length
   ·exact hi
   ·rw[List.getElem?_append_right (by simpa using hi)]at h2
    rw[List.getElem?_replicate]at h2
    split at h2<;>cases h2
  have ha:vs[i]?=some v:=by
   unfold start at h2
   rw[List.getElem?_append_left (by simpa using hi),Qc]at h2
   cases e:vs[i]? with
   | none=>rw[e]at h2;cases h2
   | some a=>rw[e]at h2;cases h2;rfl
  obtain⟨u,hu,rv⟩:=r.get ha
  have hp:ps[i]?=some y:=by
   rw[<-S.pre,List.getElem?_take_of_lt (by lia)];exact h1
  have ndP:ps.Nodup:=by rw[<-S.pre];exact S.nd.sublist (List.take_sublist _ _)
  refine⟨u,rv,?_⟩
  rcases S.par y (List.mem_of_getElem? hp)with k | k
  ·exact .inl ⟨k,Ykk ndP hp hu k⟩
  ·obtain⟨c,e⟩:=Ymx (n:=s.heap.objs.size+1) k
   refine .inr ⟨.inl k,c,e,?_⟩
   have q:=x.cell y c e
   rw[Ykl ndP hp hu (by show scope.names.lookup y≠_;rw[k];decide)]at q
   exact q
 ·exact e0.hok.fresh (Nat.le_of_lt (x.above y c (PySem.mem_of_lookup h)))
 ·unfold start
  show _=N.length
  rw[qw,qe,List.length_replicate]
  lia
theorem Yw7{CX:CXT}{P:Program}{w:World}{K:W.Frag}{mg:Str->Option Value}{base:Heap}{k:Nat}{f:Addr}{name qual:Str}{params:Arguments}{body:List Stmt}{scope:Scope}{dV kV doc pm cdv ct oc:Value}{an od:Option Addr}
 {osl:Array (Option Value)} {N ps:List Str} {sp:Sp} (lk:K.lookup f=some ⟨oc,od,.func (W.fnOf name qual params body scope dV kV doc pm an cdv ct),osl⟩) (hcd:W.codeIn K cdv qual=true) (S:FnScope N ps scope)
 (len:∀vs H Q E,sp vs H Q E->vs.length=ps.length)
 (hbody:∀(A:Around) (outer:List Env) (s:Shared) (H:Hp) (vs:List V) (Q:VK) (E:XK),Room k (A.deeper (envOfC qual scope s.heap.objs.size f cdv))->sp vs H Q E->
  ∃t,PSs (cxOf CX P w K mg base N qual scope f cdv A outer s H E) body t/\t { nx:=fun _ H'=>Q .non H',rt:=Q } (start N vs) H) :
 FnOk P w K mg base CX (k+1) f (W.fnOf name qual params body scope dV kV doc pm an cdv ct) ps sp:=by
 refine⟨len,fun A outer s H args us vs Q E hr e0 hb r hsp=>?_⟩
 have hl:=len _ _ _ _ hsp
 have KX:K.In s.heap:=e0.mod.kin.keeps fun b o e=>(e0.bs b o e).1
 have lim:s.heap.NoLimit:=e0.mod.nolimit.keeps fun b o e=>(e0.bs b o e).1
 have hkind:∀y∈ps.zip us,scope.names.lookup y.1=some .local\/(scope.names.lookup y.1=some .cell/\((cellsFrom (s.heap.objs.size+1) scope.names []).lookup y.1).isSome=true):=fun⟨n,v⟩ hy=>by
  rcases S.par n (List.of_mem_zip hy).1 with q | q
  ·exact .inl q
  ·exact .inr ⟨q,PySem.W.cellsFrom_some _ _ _ (.inl q)⟩
 refine codeAny_call_function hr.depth (KX _ _ lk) rfl S.co S.gen rfl (W.codeRec_of KX hcd) (hb _ _ _ _ ?_)
 refine wpAny_newFunctionEnv_cells S.kind hkind fun env he s1 x=>?_
 subst he
 refine⟨lim.keeps x.toInCall.keep,codeAny_func ?_⟩
 obtain⟨t,ht,hq⟩:=hbody A outer s H vs Q E (hr.deeper _) hsp
 have I:Inv (cxOf CX P w K mg base N qual scope f cdv A outer s H E) [] (start N vs) H s1:=Yo7 S hr.hd e0 hl r x
 refine wpAny_mono (ht [] s1 (start N vs) H _ I hq) (fun fl s' hs=>?_) fun e s' hs=>hs
 have fin:∀{σ':St} {H':Hp} {v:V} {u:Value},Inv (cxOf CX P w K mg base N qual scope f cdv A outer s H E) [] σ' H' s'->RelV v u->Q v H'->CE outer P w H s Q u s':=
  fun {σ' H' v u} J rv q=>⟨v,H',J.os,J.bare,J.base,J.hok,rv,q⟩
 cases fl with
 | ret u=>
   obtain⟨v,σ',H',J,rv,q⟩:=hs
   exact fin J rv q
 | next=>
   obtain⟨σ',H',J,q⟩:=hs
   exact fin (v:=V.non) (u:=Value.none) J rfl q
 | brk=>
   obtain⟨_,_,_,q⟩:=hs
   exact False.elim q
 | cont=>
   obtain⟨_,_,_,q⟩:=hs
   exact False.elim q
end L2
namespace L2
open PySem PySem.Spec PyProof.Rows
section
variable {X:Cx} {x:Str} {p pos:Pos} {e:Expr} {es:List Expr} {t:TA} {id T:String} {r:List V->Hp->VK->Prop}
def tCB(r:List V->Hp->VK->Prop)(t:TA):TE:=fun σ H Q=>t σ H fun vs H1=>r vs H1 Q
theorem Yeh(hc:Yb9 X (.builtin id) r)(hg:Gl X x)(hm:X.mg x=none)(hv:bootBuiltins x=some (.builtin id))(ha:PA X (e::es) t)(hn:x≠"__name__":=by decide)(hdb:(x==("__debug__":Str))=false:=by decide)
 (he:starEach (e::es) X.env=(false,eval e X.env)::starEach es X.env:=by rfl) (hpl:(backTo pos (starEach es X.env)).any (·.1)=false:=by rfl):PE X (.Call (.Name x p) (e::es) [] pos) (tCB r t):=by
 intro pins s σ H Q I h
 refine wpAny_Call_Name_kw (Ykf I hg hm hv ?_ hn hdb)
 refine PyProof.Rows.callWith_builtin1 (thn (ha pos pins s σ H _ I h) fun us s1 hx_=>?_) he hpl
 obtain⟨vs,H1,I1,r1,q1⟩:=hx_
 exact hc pins s1 σ H1 vs us Q I1 r1 q1
theorem Ygz(hc:Yb9 X (.type T) r)(hg:Gl X x)(hm:X.mg x=none)(hv:bootBuiltins x=some (.type T))(ha:PA X (e::es) t)(hn:x≠"__name__":=by decide)(hdb:(x==("__debug__":Str))=false:=by decide)
 (he:starEach (e::es) X.env=(false,eval e X.env)::starEach es X.env:=by rfl) (hpl:(backTo pos (starEach es X.env)).any (·.1)=false:=by rfl):PE X (.Call (.Name x p) (e::es) [] pos) (tCB r t):=by
 intro pins s σ H Q I h
 refine wpAny_Call_Name_kw (Ykf I hg hm hv ?_ hn hdb)
 refine PyProof.Rows.callWith_type1 (thn (ha pos pins s σ H _ I h) fun us s1 hx_=>?_) he hpl
 obtain⟨vs,H1,I1,r1,q1⟩:=hx_
 exact hc pins s1 σ H1 vs us Q I1 r1 q1
end
end L2
namespace L2
open PySem PySem.Spec PyProof.Rows
section
variable {κ:Type} [DecidableEq κ]
theorem RelO.isSome_eq{o:Option V}{u:Option Value}(r:RelO o u):o.isSome=u.isSome:=by
 cases o with
 | none=>cases u with
   | none=>rfl
   | some _=>exact(show False from r).elim
 | some _=>cases u with
   | none=>exact(show False from r).elim
   | some _=>rfl
end
def Ytf:List (TE × TE)->St->Hp->(List (V × V)->Hp->Prop)->Prop
 | [],_,H,Q=>Q [] H
 | (tk,tv)::r,σ,H,Q=>tk σ H fun x H1=>tv σ H1 fun y H2=>Ytf r σ H2 fun ps H3=>Q ((x,y)::ps) H3
abbrev VV:List (V × V)->List (Value × Value)->Prop:=Paired fun p q=>RelV p.1 q.1/\RelV p.2 q.2
def PPs(X:Cx)(pos:Pos)(keys:List (Option Expr))(values:List Expr)(trs:List (TE × TE)):Prop:=
 ∀(pins:List (Addr × Obj)) (s:Shared) (σ:St) (H:Hp) (Q:List (V × V)->Hp->Prop),Inv X pins σ H s->Ytf trs σ H Q->
  wpAny (model X.prog X.w) X.A (evalPairs (pairTrees keys values X.env pos)) (fun vs s'=>∃ps H',Inv X pins σ H' s'/\VV ps vs/\Q ps H') X.xe s
structure M1(X:Cx)(o:Expr)(m:Str)(apos:Pos)(e:Expr)(cpos:Pos):Prop where
 base:attributeBase o m X.env (eval o X.env)=eval o X.env
 few:((backTo cpos (starEach [e] X.env)).all (fun x=>!x.1)&&(backToKw cpos (keywordEach [] X.env)).all (fun x=>x.1.isSome)
  &&decide (([e]:List Expr).length+([]:List Keyword).length+(if ([]:List Keyword).isEmpty then 0 else 1) < 30))=true
 line:(apos.endLine==cpos.line)=true
 trees:backTo cpos (starEach [e] X.env)=[(false,eval e X.env)]
structure M2(X:Cx)(o:Expr)(m:Str)(apos:Pos)(e f:Expr)(cpos:Pos):Prop where
 base:attributeBase o m X.env (eval o X.env)=eval o X.env
 few:((backTo cpos (starEach [e,f] X.env)).all (fun x=>!x.1)&&(backToKw cpos (keywordEach [] X.env)).all (fun x=>x.1.isSome)
  &&decide (([e,f]:List Expr).length+([]:List Keyword).length+(if ([]:List Keyword).isEmpty then 0 else 1) < 30))=true
 line:(apos.endLine==cpos.line)=true
 trees:backTo cpos (starEach [e,f] X.env)=[(false,eval e X.env),(false,eval f X.env)]
end L2
namespace HT
open PySem PyProof.Rows
section
variable {prog:Program} {w:World} {A:Around} {E:Value->Shared->Prop} {s:Shared}
def sIx(n d:Nat):Option Int->Nat
 | none=>d
 | some v=>if v < 0 then (v+(n:Int)).toNat else min v.toNat n
theorem sIx_none(n d:Nat):sIx n d none=d:=rfl
theorem sIx_nat(n d k:Nat):sIx n d (some (k:Int))=min k n:=by
 show(if (k:Int) < 0 then ((k:Int)+(n:Int)).toNat else min (k:Int).toNat n)=min k n
 rw[if_neg (by lia),Int.toNat_natCast]
end
end HT
namespace L2
open PySem PySem.Spec PyProof.Rows
abbrev TO:=St->Hp->(Option Int->Hp->Prop)->Prop
def PO(X:Cx)(e:Option Expr)(t:TO):Prop:=
 ∀(pins:List (Addr × Obj)) (s:Shared) (σ:St) (H:Hp) (Q:Option Int->Hp->Prop),Inv X pins σ H s->t σ H Q->
  wpAny (model X.prog X.w) X.A (evalPart e X.env) (fun u s'=>∃o H',Inv X pins σ H' s'/\IsPart u o/\Q o H') X.xe s
def Yo8:TO:=fun _ H Q=>Q none H
def Yw8(t:TE):TO:=fun σ H Q=>t σ H fun x H1=>∃i,x=.int i/\Q (some i) H1
theorem Yei{ns:List Int}:∀{us:List Value},Vals (ns.map V.int) us->IntsAre us ns:=by
 induction ns with
 | nil=>intro us r;rw[List.map_nil]at r;cases r;exact .nil
 | cons n ns ih=>
   intro us r
   rw[qz]at r
   cases r with
   | cons r1 r2=>
     obtain⟨t,e⟩:=r1
     subst e
     exact .cons n t (ih r2)
section
variable {X:Cx} {e:Expr} {te:TE} {lo hi:Option Expr} {tl th:TO} {pos p2:Pos}
theorem Yt8:PO X none Yo8:=by
 intro pins s σ H Q I h
 rw[evalPart_none]
 exact wpAny_pure ⟨none,H,I,.none,h⟩
theorem Yt9(h:PE X e te):PO X (some e) (Yw8 te):=by
 intro pins s σ H Q I hw
 rw[evalPart_some]
 refine thn (h pins s σ H _ I hw) fun u s1 hx_=>?_
 obtain⟨x,H1,I1,r1,q1⟩:=hx_
 obtain⟨i,rfl,q⟩:=q1
 obtain⟨t,rfl⟩:=r1
 exact⟨some i,H1,I1,.int i t,q⟩
def SlR(X:Cx)(r:V->Option Int->Option Int->Hp->VK->Prop):Prop:=
 ∀(pins:List (Addr × Obj)) (s:Shared) (σ:St) (H:Hp) (x:V) (v vl vu:Value) (lo hi:Option Int) (sl:Addr) (Q:VK),Inv X pins σ H s->RelV x v->s.heap.IsSliceOf sl vl vu .none->IsPart vl lo->IsPart vu hi->r x lo hi H Q->
  ∃T id,typeLookup (.type T) "__getitem__"=pure (some (.builtin id))/\s.TypeIs v T/\wpAny (model X.prog X.w) X.A (getItem v (.ref sl)) (EP X pins σ Q) X.xe s
def tSl(r:V->Option Int->Option Int->Hp->VK->Prop)(te:TE)(tl th:TO):TE:=fun σ H Q=>te σ H fun x H1=>tl σ H1 fun l H2=>th σ H2 fun u H3=>r x l u H3 Q
theorem Yrw{r:V->Option Int->Option Int->Hp->VK->Prop}(hr:SlR X r)(he:PE X e te)(hl:PO X lo tl)(hu:PO X hi th):PE X (.Subscript e (.Slice lo hi none p2) pos) (tSl r te tl th):=by
 intro pins s σ H Q I h
 refine Subscript_ (thn (he pins s σ H _ I h) fun v s1 hx_=>?_)
 obtain⟨x,H1,I1,r1,q1⟩:=hx_
 refine wpAny_Slice (thn (hl pins s1 σ H1 _ I1 q1) fun vl s2 hx_=>?_)
 obtain⟨l,H2,I2,pl,q2⟩:=hx_
 refine thn (hu pins s2 σ H2 _ I2 q2) fun vu s3 hx_=>?_
 obtain⟨u,H3,I3,pu,q3⟩:=hx_
 rw[evalPart_none]
 refine wpAny_pure ?_
 have I4:Inv X pins σ H3 { s3 with heap:=s3.heap.push { cls:=.type "slice",data:=.fields #[vl,vu,.none] } }:=I3.kept (t':=s3.toks) fun b ob q=>qd _ q
 obtain⟨T,id,hT,ht,hg⟩:=hr pins { s3 with heap:=s3.heap.push { cls:=.type "slice",data:=.fields #[vl,vu,.none] } } σ H3 x v vl vu l u s3.heap.objs.size Q I4 r1 (Heap.IsSliceOf.new ..) pl pu q3
 show wpAny (model X.prog X.w) X.A (subscriptTail e (.Slice lo hi none p2) v (.ref s3.heap.objs.size)) (EP X pins σ Q) X.xe { s3 with heap:=s3.heap.push { cls:=.type "slice",data:=.fields #[vl,vu,.none] } }
 exact tail_any (ops:=[.ref s3.heap.objs.size,v]) ht hT hg (by with_unfolding_all rfl)
def cutV(xs:List V)(lo hi:Option Int):List V:=(xs.drop (HT.sIx xs.length 0 lo)).take (HT.sIx xs.length xs.length hi - HT.sIx xs.length 0 lo)
theorem Ylv(xs:List V)(lo hi:Option Int):(cutV xs lo hi).length<=xs.length:=by
 unfold cutV
 rw[List.length_take,List.length_drop]
 lia
end
end L2
namespace L2
open PySem PySem.Spec PyProof.Rows
def ixN(n:Nat)(i:Int):Option Nat:=if 0<=i then (if i < n then some i.toNat else none)else if -(n:Int)<=i then some (i+n).toNat else none
def atI{α:Type}(xs:List α)(i:Int):Option α:=(ixN xs.length i).bind fun j=>xs[j]?
theorem Yua{n:Nat}{i:Int}{j:Nat}(h:ixN n i=some j):seqIndex? i n=some j/\j < n/\-(n:Int)<=i/\i < n:=by
 unfold ixN at h
 by_cases h0:0<=i
 ·rw[if_pos h0]at h
  by_cases h1:i < n
  ·rw[if_pos h1]at h
   have e:i.toNat=j:=Option.some.inj h
   exact⟨by rw[seqIndex_of h0 h1,e],by lia,by lia,h1⟩
  ·rw[if_neg h1]at h;cases h
 ·rw[if_neg h0]at h
  by_cases h1:-(n:Int)<=i
  ·rw[if_pos h1]at h
   have e:(i+n).toNat=j:=Option.some.inj h
   exact⟨by rw[seqIndex_neg (by lia) h1,e],by lia,h1,by lia⟩
  ·rw[if_neg h1]at h;cases h
theorem Ylw{α:Type}{xs:List α}{i:Int}{v:α}(h:atI xs i=some v):∃j,seqIndex? i xs.length=some j/\xs[j]?=some v/\j < xs.length/\-(xs.length:Int)<=i/\i < xs.length:=by
 unfold atI at h
 cases e:ixN xs.length i with
 | none=>rw[e]at h;cases h
 | some j=>
   rw[e]at h
   obtain⟨h1,h2,h3,h4⟩:=Yua e
   exact⟨j,h1,h,h2,h3,h4⟩
theorem Yjc{α:Type}{xs:List α}{j:Nat}{v:α}(h:xs[j]?=some v):atI xs (j:Int)=some v:=by
 have hj:j < xs.length:=(qm h).1
 have e:ixN xs.length (j:Int)=some j:=by
  unfold ixN
  rw[if_pos (by lia),if_pos (by lia)];simp
 unfold atI;rw[e];exact h
def Yjd(b:Expr):Prop:=∀o i,subscripted b false o i=operate [o,i] (getItem o i)
def IxR(X:Cx)(r:R2):Prop:=
 ∀(value slice:Expr) (pins:List (Addr × Obj)) (s:Shared) (σ:St) (H:Hp) (x y:V) (v u:Value) (Q:VK),Inv X pins σ H s->RelV x v->RelV y u->r x y H Q->
  subscripted slice false v u=operate [v,u] (getItem v u)->wpAny (model X.prog X.w) X.A (subscriptTail value slice v u) (EP X pins σ Q) X.xe s
def MtR(X:Cx)(id:String)(r:V->List V->Hp->VK->Prop):Prop:=
 ∀(pins:List (Addr × Obj)) (s:Shared) (σ:St) (H:Hp) (x:V) (xs:List V) (v:Value) (us:List Value) (Q:VK),Inv X pins σ H s->RelV x v->Vals xs us->r x xs H Q->
  wpAny (model X.prog X.w) X.A (call (.builtin id) (v::us)) (EP X pins σ Q) X.xe s
section
variable {X:Cx} {a b:Expr} {ta tb:TE} {pos:Pos}
theorem IxR.or{r r':R2}(h:IxR X r)(h':IxR X r'):IxR X (fun x y H Q=>r x y H Q\/r' x y H Q):=by
 intro value slice pins s σ H x y v u Q I rx ry q hs
 rcases q with q | q
 ·exact h value slice pins s σ H x y v u Q I rx ry q hs
 ·exact h' value slice pins s σ H x y v u Q I rx ry q hs
theorem Yzv{r:R2}(hr:IxR X r)(ha:PE X a ta)(hb:PE X b tb)(hs:Yjd b):PE X (.Subscript a b pos) (tOp r ta tb):=by
 intro pins s σ H Q I h
 exact Subscript_ (binT ha hb I h fun v u s2 x y H2 I2 rx ry q=>hr a b pins s2 σ H2 x y v u Q I2 rx ry q (hs _ _))
def rIxL(K:W.Frag):R2:=fun x y H Q=>∃p xs i v,x=.ref p/\y=.int i/\SqL K H p xs/\atI xs i=some v/\Q v H
def rIxT(K:W.Frag):R2:=fun x y H Q=>∃p xs i v,x=.ref p/\y=.int i/\SqT K H p xs/\atI xs i=some v/\Q v H
def rIxS:R2:=fun x y H Q=>∃z i c,x=.str z/\y=.int i/\z.length<=sizeLine/\atI z.cps.toList i=some c/\Q (.str ⟨#[c]⟩) H
theorem ix_list:IxR X (rIxL X.K):=by
 intro value slice pins s σ H x y v u Q I rx ry h hs
 obtain⟨p,xs,i,z,rfl,rfl,hq,he,q⟩:=h
 cases rx
 obtain⟨t,rfl⟩:=ry
 obtain⟨its,r,pl,hz⟩:=I.list hq
 obtain⟨j,h1,h2,h3,h4,h5⟩:=Ylw he
 obtain⟨w,ew,rw'⟩:=r.get h2
 have hl:=r.length
 have hn:=Ykh
 have fin:EP X pins σ Q w s:=⟨z,H,I,rw',q⟩
 by_cases h0:0<=i
 ·have hj:i.toNat=j:=by
   rw[seqIndex_of h0 h5]at h1
   exact Option.some.inj h1
  exact item_listR pl.isList h0 (by lia) (by rw[hj];simpa using ew) fin hs
 ·have hj:(i+(its.toArray.size:Int)).toNat=j:=by
   rw[seqIndex_neg (by lia) h4]at h1
   rw[qj,<-hl]
   exact Option.some.inj h1
  exact subscriptTail_builtinR (x:=w) pl.isList.typeIs slot_list_getitem.lookup
   (wpAny_getItem_list_neg (Q:=fun r s'=>r=w/\EP X pins σ Q r s') pl.isList (by lia) (by rw[qj]<;>lia) (by lia) (by rw[hj];simpa using ew) ⟨rfl,fin⟩) hs
theorem ix_tup:IxR X (rIxT X.K):=by
 intro value slice pins s σ H x y v u Q I rx ry h hs
 obtain⟨p,xs,i,z,rfl,rfl,hq,he,q⟩:=h
 cases rx
 obtain⟨t,rfl⟩:=ry
 obtain⟨its,r,pl,hz⟩:=I.tuple hq
 obtain⟨j,h1,h2,h3,h4,h5⟩:=Ylw he
 obtain⟨w,ew,rw'⟩:=r.get h2
 have hl:=r.length
 have hn:=Ykh
 have fin:EP X pins σ Q w s:=⟨z,H,I,rw',q⟩
 exact subscriptTail_builtinR (x:=w) pl.typeIs slot_tuple_getitem.lookup
  (getItem_tuple (j:=j) (Q:=fun r s'=>r=w/\EP X pins σ Q r s') pl (by lia) (by lia) (by rw[qj,<-hl];exact h1) (by simpa using ew) ⟨rfl,fin⟩) hs
theorem Yw9:IxR X rIxS:=by
 intro value slice pins s σ H x y v u Q I rx ry h hs
 obtain⟨z,i,c,rfl,rfl,hz,he,q⟩:=h
 obtain⟨t,rfl⟩:=rx
 obtain⟨t',rfl⟩:=ry
 obtain⟨j,h1,h2,h3,h4,h5⟩:=Ylw he
 have hl:z.cps.toList.length=z.length:=by simp[Str.length]
 rw[hl]at h1 h4 h5
 have hn:=Ykh
 exact tail_any (typeIs_str s z t) slot_str_getitem.lookup (getItem_str (c:=c) (by
  have e1:decide (i < -(2 ^ 63:Int))=false:=decide_eq_false (by lia)
  have e2:decide (i≥2 ^ 63)=false:=decide_eq_false (by lia)
  rw[e1,e2,Bool.or_false]) (by rw[h1];simpa using h2) ⟨.str ⟨#[c]⟩,H,I.tok _,⟨_,rfl⟩,q⟩) hs
def rIx(K:W.Frag):R2:=fun x y H Q=>rIxL K x y H Q\/rIxT K x y H Q\/rIxS x y H Q
theorem Yxa:IxR X (rIx X.K):=ix_list.or (ix_tup.or Yw9)
theorem Ykm(lo hi:Option Int)(n:Nat):(sliceBounds lo hi none n).1=((HT.sIx n 0 lo:Nat):Int)/\(sliceBounds lo hi none n).2.1=((HT.sIx n n hi:Nat):Int)/\(sliceBounds lo hi none n).2.2=1:=by
 refine⟨?_,?_,rfl⟩
 ·cases lo with
  | none=>simp[sliceBounds,HT.sIx]
  | some i=>
    simp only[sliceBounds,HT.sIx,Option.getD_none,show(1:Int) > 0 by decide,if_true]
    by_cases h:i < 0
    ·simp only[h,if_true]<;>lia
    ·simp only[h,if_false]<;>lia
 ·cases hi with
  | none=>simp[sliceBounds,HT.sIx]
  | some i=>
    simp only[sliceBounds,HT.sIx,Option.getD_none,show(1:Int) > 0 by decide,if_true]
    by_cases h:i < 0
    ·simp only[h,if_true]<;>lia
    ·simp only[h,if_false]<;>lia
theorem Yje(its:List Value)(lo hi:Option Int):slicePick its.toArray lo hi none=((its.drop (HT.sIx its.length 0 lo)).take (HT.sIx its.length its.length hi - HT.sIx its.length 0 lo)).toArray:=by
 obtain⟨h1,h2,h3⟩:=Ykm lo hi its.toArray.size
 unfold slicePick
 rw[h1,h2,h3]
 simp only[sliceRange_one,pick_run,qj]<;>rfl
def rSlL(K:W.Frag):V->Option Int->Option Int->Hp->VK->Prop:=fun x lo hi H Q=>∃a xs,x=.ref a/\SqL K H a xs/\∀p,H p=none->Q (.ref p) (upd H p (.lst (cutV xs lo hi)))
theorem Yub:SlR X (rSlL X.K):=by
 intro pins s σ H x v vl vu lo hi sl Q I rx hs pl pu h
 obtain⟨a,xs,rfl,hx,q⟩:=h
 cases rx
 obtain⟨its,r,ht,hz⟩:=I.list hx
 have hlen:=r.length
 refine⟨"list",_,slot_list_getitem.lookup,ht.isList.typeIs,?_⟩
 refine wpAny_getItem_list_slice ht.isList hs pl pu .none (by simp) ?_ (by rw[qj]<;>lia)
 rw[Yje,<-hlen]
 refine⟨.ref s.heap.objs.size,_,I.laid (t':=s.toks) (o:=.lst (cutV xs lo hi)) (fun b ob q=>qd _ q) (qs _) ?_,rfl,q _ (I.hok.fresh (qs _))⟩
 exact⟨Qb (Ylv xs lo hi) hz,_,0,(r.drop (HT.sIx xs.length 0 lo)).take (HT.sIx xs.length xs.length hi - HT.sIx xs.length 0 lo),qo _ rfl⟩
theorem Yab:Yb9 X (.builtin "len") (fun xs H Q=>∃p ys,xs=[.ref p]/\(SqL X.K H p ys\/SqT X.K H p ys)/\Q (.int ys.length) H):=by
 intro pins s σ H xs us Q I r h
 obtain⟨p,ys,rfl,hq,q⟩:=h
 obtain⟨u,rfl,rx⟩:=Yfu r
 cases rx
 have hn:=Ykh
 rcases hq with hq | hq
 ·obtain⟨its,r',pl,hz⟩:=I.list hq
  have hlen:=r'.length
  exact Calls.call_len_list pl.isList (by simp only[qj]<;>lia) ⟨.int ys.length,H,I.tok _,⟨s.toks+1,by rw[qj,hlen]⟩,q⟩
 ·obtain⟨its,r',pl,hz⟩:=I.tuple hq
  have hlen:=r'.length
  exact len_tuple pl (by simp only[qj]<;>lia) ⟨.int ys.length,H,I.tok _,⟨s.toks+1,by rw[qj,hlen]⟩,q⟩
theorem Ycw:Yb9 X (.type "list") (fun xs H Q=>∃p ys,xs=[.ref p]/\(SqL X.K H p ys\/SqT X.K H p ys)/\∀l,H l=none->Q (.ref l) (upd H l (.lst ys))):=by
 intro pins s σ H xs us Q I r h
 obtain⟨p,ys,rfl,hq,q⟩:=h
 obtain⟨u,rfl,rx⟩:=Yfu r
 cases rx
 have fin:∀(its:List Value),Vals ys its->ys.length<=sizeLine->∀(h':Heap) (c':Nat),(∀b o',s.heap.get? b=some o'->h'.get? b=some o')->
  h'.get? s.heap.objs.size=some { cls:=.type "list",dict:=none,data:=.seq its.toArray c',slots:=#[] }->EP X pins σ Q (.ref s.heap.objs.size) { s with heap:=h' }:=fun its r' hz h' c' kp e=>
  ⟨.ref s.heap.objs.size,_,I.laid (t':=s.toks) kp (qs _) (show ObjOk X.prog X.w _ h' _ (.lst ys) from⟨hz,its,c',r',e⟩),rfl,q _ (I.hok.fresh (qs _))⟩
 rcases hq with hq | hq
 ·obtain⟨its,r',pl,hz⟩:=I.list hq
  have hlen:=r'.length
  obtain⟨o,ho,hc,n,hd⟩:=pl.isList
  exact call_list_seq p (.inl rfl) ho hc hd (fun h' c' kp e=>fin its r' hz h' c' kp e) (by simp only[qj]<;>lia)
 ·obtain⟨its,r',pl,hz⟩:=I.tuple hq
  have hlen:=r'.length
  obtain⟨o,ho,hc,n,hd⟩:=pl
  exact call_list_seq p (.inr rfl) ho hc hd (fun h' c' kp e=>fin its r' hz h' c' kp e) (by simp only[qj]<;>lia)
theorem Yao:Yb9 X (.type "tuple") (fun xs H Q=>∃p ys,xs=[.ref p]/\((SqL X.K H p ys/\∀l,H l=none->Q (.ref l) (upd H l (.tup ys)))\/(SqT X.K H p ys/\Q (.ref p) H))):=by
 intro pins s σ H xs us Q I r h
 obtain⟨p,ys,rfl,h⟩:=h
 obtain⟨u,rfl,rx⟩:=Yfu r
 cases rx
 rcases h with⟨hq,q⟩ | ⟨hq,q⟩
 ·obtain⟨its,r',pl,hz⟩:=I.list hq
  have hlen:=r'.length
  refine call_tuple_list pl.isList (fun h' kp=>?_) (by simp only[qj]<;>lia)
  have I1:Inv X pins σ H { s with heap:=h' }:=I.kept (t':=s.toks) kp
  have I2:Inv X pins σ (upd H h'.objs.size (.tup ys)) { s with heap:=h'.push { cls:=.type "tuple",data:=.seq its.toArray } }:=
   I1.laid (t':=s.toks) (fun b o e=>qd _ e) (qs _) (show ObjOk X.prog X.w _ _ _ (.tup ys) from⟨hz,its,r',IsTup.new _ _⟩)
  exact⟨.ref h'.objs.size,_,I2,rfl,q _ (I1.hok.fresh (qs _))⟩
 ·obtain⟨its,r',pl,hz⟩:=I.tuple hq
  exact call_tuple_same pl ⟨.ref p,H,I,rfl,q⟩
def tyV(K:W.Frag)(T:String)(x:V)(H:Hp):Prop:=match x with
 | .str _=>T="str"
 | .int _=>T="int"
 | .ref p=>(T="list"/\∃xs,SqL K H p xs)\/(T="tuple"/\∃o,K.lookup p=some o/\o.cls=.type "tuple"/\o.dict=none)\/
  (T="dict"/\((∃kvs,H p=some (.dK kvs))\/∃kvs,H p=some (.dT kvs)))\/(T="set"/\∃S n,H p=some (.set S n))
 | _=>False
theorem Yxb{pins:List (Addr × Obj)}{σ:St}{H:Hp}{s:Shared}{T:String}{x:V}{v:Value}(I:Inv X pins σ H s)(r:RelV x v)(ty:tyV X.K T x H) :
 s.TypeIs v T/\∀a,v=.ref a->∃ob,s.heap.get? a=some ob/\ob.dict=none:=by
 cases x with
 | str z=>
   obtain⟨t,rfl⟩:=r
   cases (show T="str" from ty)
   exact⟨typeIs_str s z t,fun _ e=>nomatch e⟩
 | int i=>
   obtain⟨t,rfl⟩:=r
   cases (show T="int" from ty)
   exact⟨typeIs_int s i t,fun _ e=>nomatch e⟩
 | ref p=>
   cases r
   rcases ty with⟨rfl,xs,hq⟩ | ⟨rfl,o,hk,hc,hd⟩ | ⟨rfl,hk⟩ | ⟨rfl,S,n,hk⟩
   ·obtain⟨its,_,pl,_⟩:=I.list hq
    refine⟨pl.isList.typeIs,fun a e=>?_⟩
    cases e
    obtain⟨o,n,e,c,hd,_⟩:=pl
    exact⟨o,e,hd⟩
   ·refine⟨⟨o,I.kIn p o hk,hc⟩,fun a e=>?_⟩
    cases e
    exact⟨o,I.kIn _ o hk,hd⟩
   ·have z:∃o,s.heap.get? p=some o/\o.ExactDict:=by
     rcases hk with⟨kvs,hk⟩ | ⟨kvs,hk⟩
     ·obtain⟨_,_,_,_,o,_,_,e,ex,_⟩:=I.hok p _ hk
      exact⟨o,e,ex⟩
     ·obtain⟨_,_,_,_,o,_,_,e,ex,_⟩:=I.hok p _ hk
      exact⟨o,e,ex⟩
    obtain⟨o,e,ex⟩:=z
    refine⟨⟨o,e,ex.1⟩,fun a e2=>?_⟩
    cases e2
    exact⟨o,e,ex.2.1⟩
   ·obtain⟨o,_,_,_,e,ex,_⟩:=I.hok p _ hk
    refine⟨⟨o,e,ex.1⟩,fun a e2=>?_⟩
    cases e2
    exact⟨o,e,ex.2.1⟩
 | _=>exact False.elim ty
def tBM(K:W.Frag)(T:String)(r:V->List V->Hp->VK->Prop)(to:TE)(t:TA):TE:=fun σ H Q=>to σ H fun x H1=>tyV K T x H1/\t σ H1 fun xs H2=>r x xs H2 Q
variable {o e:Expr} {es:List Expr} {to:TE} {t:TA} {name:Str} {apos cpos:Pos} {T id:String} {r:V->List V->Hp->VK->Prop}
theorem Yuc(pa:PlainAttrs T)(slot:Slot T name id)(hty:typeOf (.builtin id)=pure (.type "method_descriptor"))(hm:MtR X id r)(ho:PE X o to)(ha:PA X (e::es) t)
 (hbase:attributeBase o name X.env (eval o X.env)=eval o X.env:=by rfl)
 (hfew:((backTo cpos (starEach (e::es) X.env)).all (fun x=>!x.1)&&(backToKw cpos (keywordEach [] X.env)).all (fun x=>x.1.isSome)
  &&decide ((e::es).length+([]:List Keyword).length+(if ([]:List Keyword).isEmpty then 0 else 1) < 30))=true:=by rfl)
 (hline:(apos.endLine==cpos.line)=true:=by rfl) (hs:starEach (e::es) X.env=(false,eval e X.env)::starEach es X.env:=by rfl) (hplain:(backTo cpos (starEach es X.env)).any (·.1)=false:=by rfl) :
 PE X (.Call (.Attribute o name apos) (e::es) [] cpos) (tBM X.K T r to t):=by
 intro pins s σ H Q I h
 refine wpAny_Call_method_late hbase hfew hline rfl (thn (ho pins s σ H _ I h) fun v s1 hx_=>?_)
 obtain⟨x,H1,I1,r1,ty,q1⟩:=hx_
 obtain⟨h1,h2⟩:=Yxb I1 r1 ty
 refine⟨T,id,pa,slot,hty,h1,h2,?_⟩
 have hA:=ha cpos pins s1 σ H1 _ I1 q1
 rw[hs]at hA ⊢
 refine Calls.callWith_builtin (by show(false||(backTo cpos (starEach es X.env)).any (·.1))=false;rw[hplain]<;>rfl) (Calls.evalArgs_plain ?_)
 refine thn hA fun us s2 hx_=>?_
 obtain⟨vs,H2,I2,r2,q2⟩:=hx_
 exact hm pins s2 σ H2 x vs v us Q I2 r1 r2 q2
end
end L2
namespace L2
open PySem PySem.Spec PyProof.Rows
def MtM(X:Cx)(id:String)(r:V->List V->Hp->VK->Prop):Prop:=
 ∀(pins:List (Addr × Obj)) (s:Shared) (σ:St) (H:Hp) (x:V) (xs:List V) (v:Value) (us:List Value) (Q:VK),Inv X pins σ H s->RelV x v->Vals xs us->r x xs H Q->
  wpAny (model X.prog X.w) X.A (call (.builtin id) (v::us)) (EP X pins σ Q) X.xe s
theorem Vals.one:∀{x:V} {us:List Value},Vals [x] us->∃u,us=[u]/\RelV x u
 :=by
  intro x us h
  cases h with
  | cons r t=>
    cases t
    exact⟨_,rfl,r⟩
section
variable {X:Cx} {pins:List (Addr × Obj)} {σ:St} {H:Hp} {s:Shared} {l b:Addr} {xs ys zs:List V}
theorem Inv.lset{its its':List Value}{n:Nat}{f:Array Value->Array Value}{t':Nat}(I:Inv X pins σ H s)(hH:H l=some (.lst xs))
 (e:s.heap.get? l=some { cls:=.type "list",data:=.seq its.toArray n }) (hf:f its.toArray=its'.toArray) (hv:Vals ys its') (hz:ys.length<=sizeLine) :
 Inv X pins σ (upd H l (.lst ys)) { s with heap:=s.heap.update l (Obj.mapSeq f),toks:=t' }:=by
 have q:=PySem.IsL.update e f
 rw[hf]at q
 refine I.write (x:=l) (e:=l) (by rw[hH];exact trivial) (.inl rfl) (fun b' u hb hu=>(Heap.get?_update_other s.heap (Obj.mapSeq f) (Ne.symm hb)).trans hu) ⟨_,q⟩ ?_
 exact⟨hz,its',_,hv,q⟩
theorem Inv.lnew{its:List Value}{t':Nat}(I:Inv X pins σ H s)(hv:Vals ys its)(hz:ys.length<=sizeLine) :
 Inv X pins σ (upd H s.heap.objs.size (.lst ys)) { s with heap:=s.heap.push { cls:=.type "list",data:=.seq its.toArray },toks:=t' }:=
 I.laid (fun _ _ q=>qd _ q) (qs _) ⟨hz,its,0,hv,qo _ rfl⟩
theorem Inv.fresh(I:Inv X pins σ H s):H s.heap.objs.size=none:=I.hok.fresh (qs _)
theorem Inv.lstM(I:Inv X pins σ H s)(hH:H l=some (.lst xs)):xs.length<=sizeLine/\∃(its:List Value) (n:Nat),Vals xs its/\xs.length=its.length/\s.heap.get? l=some { cls:=.type "list",data:=.seq its.toArray n }:=by
 obtain⟨z,its,n,r,e⟩:=I.hok l _ hH
 exact⟨z,its,n,r,r.length,e⟩
theorem Yrx{n:Nat}(h:n<=sizeLine):Builtin.List.listTooLong n=false:=by
 unfold Builtin.List.listTooLong
 exact decide_eq_false (by lia)
def Yud:V->List V->Hp->VK->Prop:=fun x vs H Q=>∃l xs y,x=.ref l/\vs=[y]/\H l=some (.lst xs)/\xs.length < sizeLine/\Q .non (upd H l (.lst (xs++[y])))
theorem Yg0:MtM X "list.append" Yud:=by
 intro pins s σ H x vs v us Q I rx rv h
 obtain⟨l,xs,y,rfl,rfl,hH,hz,q⟩:=h
 cases rx
 obtain⟨u,rfl,ru⟩:=rv.one
 obtain⟨z,its,n,r,hl,e⟩:=I.lstM hH
 refine call_meets F.slot_list_append ⟨_,e,rfl⟩ F.entry_list_append (F.args_list_append_2 _ _) (PySem.list_append l its.toArray n u (by rw[qj];lia)) ⟨e,?_⟩
 refine⟨.non,_,I.lset (its':=its++[u]) hH e (by simp) (r.append (.cons ru .nil)) ?_,rfl,q⟩
 rw[qw,List.length_singleton]
 lia
end
end L2
namespace Att
open PySem PySem.W PySem.Calls PyProof.Rows
theorem Yg1{P:Params}{h:Heap}:∀(ns:List Int) (vs:List Value),WellAll P h vs (ns.map WData.int)->IntsAre vs ns:=by
 intro ns
 induction ns with
 | nil=>
   intro vs w
   rw[List.map_nil]at w
   cases w
   exact .nil
 | cons n ns ih=>
   intro vs w
   rw[qz]at w
   cases w with
   | cons a b=>
     cases a
     exact .cons _ _ (ih _ b)
theorem Yo9{l:OpenLaw}{n:Nat}(hn:l.most=some n){P:Params}{h:Heap}{args:List WData}{vals:List Value}
 (hpre:l.row.toRowW.claim.pre args=true) (hwl:WellAll P h vals args) :
 ∃a vs ns,vals=[Value.ref a]/\args=[WData.list (ns.map WData.int)]/\h.get? a=some { cls:=.type "list",data:=.seq vs.toArray }/\IntsAre vs ns/\ns.length<=n:=by
 have hsh:WShape.hasAll [] args [.list .int]=true:=(pre_splitW hpre).1
 have hc:l.pre.holds [] { args:=args }=true:=(pre_splitW hpre).2
 obtain⟨d,r,rfl,h1,h2⟩:=hasAllW_cons hsh
 obtain rfl:=hasAllW_nil h2
 obtain⟨xs,rfl,h3⟩:=hasW_list h1
 obtain⟨ns,rfl⟩:=items_int h3
 have hlen:ns.length<=n:=by
  unfold OpenLaw.pre at hc
  have h4:(WTm.not (.lt (.lit (.int (n:Int))) (.len (.arg 0)))).holds [] { args:=[.list (ns.map .int)] }=true:=by
   have h4:=(holds_andW hc).1
   rw[hn]at h4
   exact h4
  have h5:=condW_of h4 (w_not (w_lt w_lit (w_len_list (w_arg rfl))))
  rw[qe]at h5
  refine Nat.le_of_not_lt fun q=>?_
  have q':(n:Int) < ((ns.length:Nat):Int):=by lia
  first
   | (rw[decide_eq_true q']at h5;exact absurd h5 (by decide))
   | (simp at h5;lia)
 cases hwl with
 | cons w1 w2=>
   cases w2
   cases w1 with
   | list ho hall=>exact⟨_,_,ns,rfl,rfl,ho,Yg1 ns _ hall,hlen⟩
theorem Ypa(l:OpenLaw)(args:List WData):l.row.toRowW.claim.post args (.bool true) args=true:=
 postW_of (r:=l.row.toRowW) (X:=(true==true))
  (show WShape.has [] (.bool true) .bool=true by first | rfl | decide | simp[WShape.has,WShape.arms,WShape.armsAll])
  (show(WTm.eq .res (.lit (.bool true))).value [] { args:=args,res:=some (.bool true),after:=args }=some (.bool (true==true)) from w_eq_bool (w_res rfl) w_lit) rfl
theorem attach_call{l:OpenLaw}{n:Nat}{q:Program}{loose:List Str}{XP:(Str->Option Value)->Heap->Prop}{YP:World->Heap->Prop}{d:DefRec}
 (hn:l.most=some n) (hdf:d.params.defaults=[])
 (call:∀(w:World) (s₀ s₁:Shared) (mg mb:Str->Option Value) (fa:Addr) (o:Obj) (pm cd doc:Value) (a:Addr) (vs:List Value) (ns:List Int),
  Ground q loose [] XP w s₀ mg mb s₁.heap->YP w s₁.heap->
  s₁.heap.get? fa=some o->o.data=.func (docDef d.name d.params d.body d.scope pm cd doc)->s₁.heap.CodeRec cd d.name->mg d.name=some (.ref fa)->
  s₁.heap.get? a=some { cls:=.type "list",data:=.seq vs.toArray }->IntsAre vs ns->ns.length<=n->s₁.gens=#[]->
  codeAny (model l.prog w) callerA (.call (.ref fa) ⟨[.ref a],[]⟩) (fun r s'=>r=.ok (.ret (.bool true))/\OldK s₁.heap s'.heap/\s'.os=s₁.os/\AllBare s'.gens) s₁) :
 WalkO q loose XP YP l.row.toRowW d [] (fun f vs=>PySem.call f vs):=by
 intro w s₀ s₁ mg mb G Y fa o pm cd doc dV kV ho hd hcd hD hmg hg args vals as hpre hlay hrd hwl hlo
 obtain rfl:dV=.none:=Dflts.none hD hdf
 obtain rfl:kV=.none:=Dflts.noKw hD
 obtain⟨a,vs,ns,rfl,rfl,hobj,hints,hlen⟩:=Yo9 hn hpre hwl
 refine enter_call (codeAny_mono (call w s₀ s₁ mg mb fa o pm cd doc a vs ns G Y ho (fd_plain hd) hcd hmg hobj hints hlen hg) fun r s' hq=>?_)
 obtain⟨rfl,h2,h3,h4⟩:=hq
 exact⟨.inl ⟨.bool true,.bool true,[],rfl,fun _=>rfl,.bool true,Ypa l _,fun _=>⟨List.Pairwise.nil,fun _ hm=>(nomatch hm)⟩⟩,h2,h3,h4⟩
end Att
namespace L2
open PySem PySem.Spec PyProof.Rows
theorem Yfb:∀{vs:List Value} {ns:List Int},IntsAre vs ns->Vals (ns.map V.int) vs
 | _,_,.nil=>.nil
 | _,_,.cons n t h=>.cons ⟨t,rfl⟩ (Yfb h)
def Only(H:Hp):Prop:=∀b,H b=none\/∃o xs,H b=some (.frz o (.lst xs))
theorem Yry{P:Program}{w:World}{K:W.Frag}{mg mb:Str->Option Value}{CX:CXT}{k:Nat}{fa a:Addr}{fd:FuncData}{x:Str}{sp:Sp}{s₁:Shared}{vs:List Value}{ns:List Int}
 (KX:K.In s₁.heap) (hns:s₁.heap.Ns mainGlobals mg) (hb:s₁.heap.Ns builtinsNs mb) (hbb:∀x:Str,x≠"__name__"->mb x=bootBuiltins x) (hlim:s₁.heap.NoLimit) (hg:s₁.gens=#[])
 (ha:s₁.heap.get? a=some { cls:=.type "list",data:=.seq vs.toArray }) (hi:IntsAre vs ns) (hl:ns.length<=sizeLine) (hr:Room k callerA)
 (F:∀base:Heap,K.In base->base.Ns mainGlobals mg->FnOk P w K mg base CX k fa fd [x] sp) (hbind:∀(s:Shared) (u:Value),BindsTo s fd ⟨[u],[]⟩ [(x,u)])
 (hsp:∀H:Hp,Only H->SqL K H a (ns.map V.int)->sp [.ref a] H (fun v _=>v=.bl true) fun _ _ _=>False)
 (hCX:∀H e s',CX [] H s₁ (fun _ _ _=>False) e s'->False) :
 codeAny (model P w) callerA (.call (.ref fa) ⟨[.ref a],[]⟩) (fun r s'=>r=.ok (.ret (.bool true))/\OldK s₁.heap s'.heap/\s'.os=s₁.os/\AllBare s'.gens) s₁:=by
 have rv:=Yfb hi
 have lenV:=hi.length
 have core:∀H:Hp,Only H->SqL K H a (ns.map V.int)->HOk P w H s₁.heap->(∀b,H b≠none->b=a)->(H a≠none->K.lookup a=none)->
  codeAny (model P w) callerA (.call (.ref fa) ⟨[.ref a],[]⟩) (fun r s'=>r=.ok (.ret (.bool true))/\OldK s₁.heap s'.heap/\s'.os=s₁.os/\AllBare s'.gens) s₁:=by
  intro H hO hS hok hA hK
  have base_of:∀{b:Addr} {o:Obj},s₁.heap.get? b=some o->H b=none->(hidT s₁.heap H).get? b=some o:=fun e n=>Yrp e n
  have noA:∀{b:Addr} {o:Obj} {es:Array DictEntry} {ep:Nat},s₁.heap.get? b=some o->o.data=.dict es ep->H b=none:=fun {b o es ep} e d=>by
   cases q:H b with
   | none=>rfl
   | some u=>
     have e':b=a:=hA b (by rw[q];simp)
     subst e'
     rw[ha]at e;cases e
     have d':Data.seq vs.toArray _=Data.dict es ep:=d
     cases d'
  have nsK:∀{b:Addr} {m:Str->Option Value},s₁.heap.Ns b m->(hidT s₁.heap H).Ns b m:=fun {b m} ⟨o,es,ep,e,d,r⟩=>⟨o,es,ep,base_of e (noA e d),d,r⟩
  have hKb:K.In (hidT s₁.heap H):=fun b o e=>base_of (KX b o e) (by
   cases q:H b with
   | none=>rfl
   | some u=>
     have e':b=a:=hA b (by rw[q];simp)
     subst e'
     rw[hK (by rw[q];simp)]at e;cases e)
  have hM:Mod K mg (hidT s₁.heap H):=⟨hKb,nsK hns,⟨mb,nsK hb,hbb⟩,let ⟨mc,h1,h2⟩:=hlim;⟨mc,nsK h1,h2⟩⟩
  have e0:Env0 P w K mg (hidT s₁.heap H) callerA [] s₁ H:=⟨rfl,hM,fun b o e=>Ytw e,Nat.le_of_eq (Yot _ _),trivial,fun b hb=>absurd (show b∈([]:List Addr) from hb) (by simp),hok,.of_eq hg⟩
  refine codeAny_mono ((F _ hKb (nsK hns)).run callerA [] s₁ H ⟨[.ref a],[]⟩ [.ref a] [.ref a] _ _ hr e0 (hbind s₁ (.ref a)) (.cons rfl .nil) (hsp H hO hS)) fun r s' h=>?_
  cases r with
  | error e=>exact(hCX H e s' h).elim
  | ok fl=>
    cases fl with
    | next=>exact False.elim h
    | brk=>exact False.elim h
    | cont=>exact False.elim h
    | ret u=>
      obtain⟨v,H',os,bare,un,hok',r',q⟩:=h
      have q':v=.bl true:=q
      subst q'
      obtain rfl:u=Value.bool true:=r'
      refine⟨rfl,OldK.of_keep fun b o e=>?_,os,bare⟩
      cases q:H b with
      | none=>exact un.keep b o e q (by intro z;exact absurd (show b∈([]:List Addr) from z) (by simp)) (by simp)
      | some u=>
        rcases hO b with z | ⟨ob,xs,z⟩
        ·rw[q]at z;cases z
        ·have z2:=un.frzs b ob _ z
         obtain⟨e1,_⟩:=hok b _ z
         obtain⟨e2,_⟩:=hok' b _ z2
         rw[e]at e1;cases e1
         exact e2
 cases hk:K.lookup a with
 | some o=>
   have e:=KX a o hk
   rw[ha]at e
   cases e
   refine core (fun _=>none) (fun _=>.inl rfl) (.inr ⟨_,vs.toArray,_,hk,rfl,rfl,rfl,by rw[qj,lenV];exact hl,by simpa using rv⟩) (fun b u z=>by have z':(none:Option HO)=some u:=z;cases z') (fun b z=>absurd rfl z) fun z=>absurd rfl z
 | none=>
   refine core (fun b=>if b=a then some (.frz { cls:=.type "list",data:=.seq vs.toArray } (.lst (ns.map V.int)))else none) (fun b=>?_) (.inl (.inr ⟨{ cls:=.type "list",data:=.seq vs.toArray },if_pos rfl⟩)) (fun b u z=>?_) (fun b z=>?_) fun _=>hk
   ·by_cases hb:b=a
    ·exact .inr ⟨_,_,if_pos hb⟩
    ·exact .inl (if_neg hb)
   ·by_cases hb:b=a
    ·have z':=(if_pos hb).symm.trans z
     cases z'
     subst hb
     exact⟨ha,by rw[qe];exact hl,vs,_,rv,ha⟩
    ·have z':=(if_neg hb).symm.trans z
     cases z'
   ·by_cases hb:b=a
    ·exact hb
    ·exact absurd (if_neg hb) z
end L2
namespace L2
open PySem PySem.Spec PyProof.Rows
theorem walk_of{l:W.OpenLaw}{n k:Nat}{q:Program}{loose:List Str}{XP:(Str->Option Value)->Heap->Prop}{YP:World->Heap->Prop}{d:DefRec}{K:Params->W.Frag}{CX:World->CXT}{sp:World->Sp}{x:Str}
 (hn:l.most=some n) (hn2:n<=sizeLine) (hdf:d.params.defaults=[]) (hr:Room k callerA)
 (hY:∀(w:World) (h:Heap),YP w h->(K w.params).In h)
 (F:∀(w:World) (mg:Str->Option Value) (fa:Addr) (h:Heap),(K w.params).In h->h.Ns mainGlobals mg->mg d.name=some (.ref fa)->
  ∃fd:FuncData,(∀(s:Shared) (u:Value),BindsTo s fd ⟨[u],[]⟩ [(x,u)])/\
   ∀base:Heap,(K w.params).In base->base.Ns mainGlobals mg->FnOk l.prog w (K w.params) mg base (CX w) k fa fd [x] (sp w))
 (hsp:∀(w:World) (H:Hp) (a:Addr) (ns:List Int),ns.length<=n->Only H->SqL (K w.params) H a (ns.map V.int)->sp w [.ref a] H (fun v _=>v=.bl true) fun _ _ _=>False)
 (hCX:∀(w:World) (H:Hp) (s:Shared) (e:Value) (s':Shared),CX w [] H s (fun _ _ _=>False) e s'->False) :
 W.WalkO q loose XP YP l.row.toRowW d [] (fun f vs=>PySem.call f vs):=by
 refine Att.attach_call hn hdf fun w s₀ s₁ mg mb fa o pm cd doc a vs ns G Y ho hd hcd hmg hobj hints hlen hg=>?_
 have KX:=hY w _ Y
 obtain⟨fd,hb,hF⟩:=F w mg fa _ KX G.T.g hmg
 exact Yry KX G.T.g G.T.b G.T.builtins G.T.nolimit hg hobj hints (Qb hlen hn2) hr hF hb (fun H hO hS=>hsp w H a ns hlen hO hS) fun H e s'=>hCX w H s₁ e s'
end L2
namespace L2
open PySem PySem.Spec PyProof.Rows
def inClass(s:Stmt)(j:Nat):Stmt:=match s with
 | .ClassDef _ _ _ body _ _ _ _ _ _ _=>body.getD j (.Pass ⟨0,0,0,0⟩)
 | _=>.Pass ⟨0,0,0,0⟩
def defArgs(s:Stmt):Arguments:=match s with
 | .FunctionDef _ a _ _ _ _ _ _ _ _=>a
 | _=>{ posonlyargs:=[],args:=[],vararg:=none,kwonlyargs:=[],kw_defaults:=[],kwarg:=none,defaults:=[] }
def defBody(s:Stmt):List Stmt:=match s with
 | .FunctionDef _ _ b _ _ _ _ _ _ _=>b
 | _=>[]
def defScope(s:Stmt):Scope:=match s with
 | .FunctionDef _ _ _ _ _ _ sc _ _ _=>sc
 | _=>{ kind:=.function,names:=[],isGenerator:=false,isCoroutine:=false }
abbrev CX0:CXT:=fun _ _ _ _ _ _=>False
abbrev E0:XK:=fun _ _ _=>False
theorem Yrz{X:Cx}:Yf7 CX0 X E0:=fun _ _ _ _ _ _ _ h=>h.elim
structure Fun(K:W.Frag)(x qual:Str)(st:Stmt)(f:Addr)(fd:FuncData):Prop where
 ex:∃(oc:Value) (od:Option Addr) (kV doc pm:Value) (an:Option Addr) (cdv ct:Value) (osl:Array (Option Value)),
  fd=W.fnOf x qual (defArgs st) (defBody st) (defScope st) .none kV doc pm an cdv ct/\K.lookup f=some ⟨oc,od,.func fd,osl⟩/\W.codeIn K cdv qual=true
 kp:W.keepIn K (.ref f)=true
section
variable {P:Program} {w:World} {K:W.Frag} {mg:Str->Option Value} {base:Heap} {X:Cx}
theorem Fun.ok{x qual:Str}{st:Stmt}{f:Addr}{fd:FuncData}{N ps:List Str}{k:Nat}{sp:Sp}(F:Fun K x qual st f fd)(S:FnScope N ps (defScope st))(len:∀vs H Q E,sp vs H Q E->vs.length=ps.length)
 (hbody:∀(cdv:Value) (A:Around) (outer:List Env) (s:Shared) (H:Hp) (vs:List V) (Q:VK) (E:XK),Room k (A.deeper (envOfC qual (defScope st) s.heap.objs.size f cdv))->sp vs H Q E->
  ∃t,PSs (cxOf CX0 P w K mg base N qual (defScope st) f cdv A outer s H E).nox (defBody st) t/\t { nx:=fun _ H'=>Q .non H',rt:=Q } (start N vs) H):FnOk P w K mg base CX0 (k+1) f fd ps sp:=by
 obtain⟨oc,od,kV,doc,pm,an,cdv,ct,osl,rfl,lk,hcd⟩:=F.ex
 refine Yw7 lk hcd S len fun A outer s H vs Q E hr hsp=>?_
 obtain⟨t,h,q⟩:=hbody cdv A outer s H vs Q E hr hsp
 exact⟨t,h.nox,q⟩
theorem Fun.binds{x qual:Str}{st:Stmt}{f:Addr}{fd:FuncData}{ps:List Str}(F:Fun K x qual st f fd)
 (h:∀(kV doc pm:Value) (an:Option Addr) (cdv ct:Value) (us:List Value),us.length=ps.length->bindArgs (W.fnOf x qual (defArgs st) (defBody st) (defScope st) .none kV doc pm an cdv ct) ⟨us,[]⟩=pure (ps.zip us)):Binds K fd ps []:=by
 obtain⟨oc,od,kV,doc,pm,an,cdv,ct,osl,rfl,lk,hcd⟩:=F.ex
 exact .all (h kV doc pm an cdv ct)
theorem Ymy{x qual:Str}{st:Stmt}{f:Addr}{oc:Value}{od an:Option Addr}{osl:Array (Option Value)}{kV doc pm cdv ct:Value}(l:K.lookup f=some ⟨oc,od,.func (W.fnOf x qual (defArgs st) (defBody st) (defScope st) .none kV doc pm an cdv ct),osl⟩)
 (c:W.codeIn K cdv qual=true) (k:W.keepIn K (.ref f)=true):Fun K x qual st f (W.fnOf x qual (defArgs st) (defBody st) (defScope st) .none kV doc pm an cdv ct):=⟨⟨oc,od,kV,doc,pm,an,cdv,ct,osl,rfl,l,c⟩,k⟩
theorem pv(i:Nat){x:Str}{pos:Pos}(hN:X.N[i]?=some x:=by rfl)(hv:Vis X.env.scope x:=by first | exact Or.inl rfl | exact Or.inr (Or.inl rfl) | exact Or.inr (Or.inr rfl))(hd:(x==("__debug__":Str))=false:=by decide)
 (hcd:(x==("__classdict__":Str))=false:=by decide):PE X (.Name x pos) (tVar i):=Yfa hN hv hd hcd
end
theorem iteF{A B:Prop}(h:B):if false=true then A else B:=by
 rw[if_neg qh]
 exact h
theorem iteT{A B:Prop}(h:A):if true=true then A else B:=by
 rw[if_pos rfl]
 exact h
def Same(H H':Hp):Prop:=∀b o,H b=some o->H' b=some o
theorem Same.refl(H:Hp):Same H H:=fun _ _ h=>h
theorem Same.trans{H H1 H2:Hp}(a:Same H H1)(b:Same H1 H2):Same H H2:=fun c o h=>b c o (a c o h)
theorem Same.free{H H':Hp}(e:Same H H'){l:Addr}(h:H' l=Option.none):H l=Option.none:=by
 cases q:H l with
 | none=>rfl
 | some o=>
   rw[e l o q]at h
   cases h
theorem Same.seq{K:W.Frag}{H H':Hp}{a:Addr}{xs:List V}(e:Same H H')(h:SqL K H a xs):SqL K H' a xs:=by
 rcases h with(h | ⟨o,h⟩) | h
 ·exact .inl (.inl (e _ _ h))
 ·exact .inl (.inr ⟨o,e _ _ h⟩)
 ·exact .inr h
end L2
namespace L2
open PySem PySem.Spec PyProof.Rows
def clOf(env:Env):List (Str × NameKind)->List (Str × Addr)->List (Str × Addr)
 | [],cs=>cs
 | (n,k)::r,cs=>if (k==NameKind.free)=true then (match env.cells.lookup n with | some c=>clOf env r ((n,c)::cs) | none=>clOf env r cs)else clOf env r cs
theorem Ydu{scope:Scope}{env:Env}(h:∀x∈scope.names,x.2=NameKind.free->∃c,env.cells.lookup x.1=some c):closureFor scope env=pure (clOf env scope.names []):=by
 have key:∀(l:List (Str × NameKind)) (cs:List (Str × Addr)),(∀x∈l,x.2=NameKind.free->∃c,env.cells.lookup x.1=some c)->
  (forIn l cs fun(x:Str × NameKind) (r:List (Str × Addr))=>if (x.2==NameKind.free)=true then (do let c <-cellOf env x.1;pure (ForInStep.yield ((x.1,c)::r)))else pure (ForInStep.yield r))=(pure (clOf env l cs):Sem (List (Str × Addr))):=by
  intro l
  induction l with
  | nil=>intro cs _;rfl
  | cons x l ih=>
    intro cs hl
    obtain⟨n,k⟩:=x
    have ht:=fun y hy=>hl y (qf _ hy)
    rw[List.forIn_cons]
    by_cases hk:k=NameKind.free
    ·subst hk
     obtain⟨c,hc⟩:=hl (n,NameKind.free) qg rfl
     have hc':env.cells.lookup n=some c:=hc
     have e1:cellOf env n=pure c:=by unfold cellOf;rw[hc']
     have hff:(NameKind.free==NameKind.free)=true:=rfl
     show(if (NameKind.free==NameKind.free)=true then (do let c <-cellOf env n;pure (ForInStep.yield ((n,c)::cs)))else pure (ForInStep.yield cs)) >>= _=_
     rw[if_pos hff,e1,pure_bind,pure_bind]
     show forIn l ((n,c)::cs) _=_
     rw[ih _ ht]
     show _=pure (if (NameKind.free==NameKind.free)=true then (match env.cells.lookup n with | some c=>clOf env l ((n,c)::cs) | none=>clOf env l cs)else clOf env l cs)
     rw[if_pos hff,hc']
    ·have hb:(k==NameKind.free)=false:=by simpa using hk
     show(if (k==NameKind.free)=true then _ else pure (ForInStep.yield cs)) >>= _=_
     rw[if_neg (by rw[hb];exact qh),pure_bind]
     show forIn l cs _=_
     rw[ih _ ht]
     show _=pure (if (k==NameKind.free)=true then (match env.cells.lookup n with | some c=>clOf env l ((n,c)::cs) | none=>clOf env l cs)else clOf env l cs)
     rw[if_neg (by rw[hb];exact qh)]
 have:=key scope.names [] h
 unfold closureFor
 simpa using this
theorem Ygj{env:Env}:∀(l:List (Str × NameKind)) (cs:List (Str × Addr)),(∀x c,(x,c)∈cs->env.cells.lookup x=some c)->∀x c,(x,c)∈clOf env l cs->env.cells.lookup x=some c
 | [],cs,h,x,c,e=>h x c e
 | (n,k)::r,cs,h,x,c,e=>by
   unfold clOf at e
   split at e
   ·split at e
    ·rename_i d hd
     refine Ygj r _ (fun y b hy=>?_) x c e
     rcases qr hy with q | q
     ·cases q;exact hd
     ·exact h y b q
    ·exact Ygj r cs h x c e
   ·exact Ygj r cs h x c e
theorem Yej{env:Env}:∀(l:List (Str × NameKind)) (cs:List (Str × Addr)) (p:Str × Addr),p∈cs->p∈clOf env l cs
 | [],_,_,h=>h
 | (n,k)::r,cs,p,h=>by
   unfold clOf
   split
   ·split
    ·exact Yej r _ p (qf _ h)
    ·exact Yej r _ p h
   ·exact Yej r _ p h
theorem Yfc{env:Env}:∀(l:List (Str × NameKind)) (cs:List (Str × Addr)) (x:Str) (c:Addr),(x,NameKind.free)∈l->env.cells.lookup x=some c->(x,c)∈clOf env l cs
 | (n,k)::r,cs,x,c,h,hc=>by
   rcases qr h with q | q
   ·cases q
    unfold clOf
    rw[if_pos (show(NameKind.free==NameKind.free)=true from rfl),hc]
    exact Yej r _ _ qg
   ·unfold clOf
    split
    ·split
     ·exact Yfc r _ x c q hc
     ·exact Yfc r _ x c q hc
    ·exact Yfc r _ x c q hc
theorem Yfd{x:Str}{c:Addr}{cl:List (Str × Addr)}(h:(x,c)∈cl):∃d,cl.lookup x=some d:=by
 induction cl with
 | nil=>cases h
 | cons p r ih=>
   obtain⟨n,b⟩:=p
   rw[List.lookup_cons]
   cases e:(x==n)with
   | true=>exact⟨b,rfl⟩
   | false=>
     rcases qr h with q | q
     ·cases q;simp at e
     ·exact ih q
structure CompSc(XN:List Str)(xsc:Scope)(N:List Str)(src:List (Option Nat))(sc:Scope):Prop where
 kind:sc.kind=.function
 xkind:xsc.kind=.function
 cellU:∀y∈sc.names,y.2=NameKind.cell->sc.names.lookup y.1=some NameKind.cell
 names:∀y∈sc.names,y.2=NameKind.local->sc.names.lookup y.1=some NameKind.local
 len:src.length=N.length
 nd:N.Nodup
 cap:∀(i j:Nat) (x:Str),N[i]?=some x->src[i]?=some (some j)->XN[j]?=some x/\sc.names.lookup x=some NameKind.free
 fr:∀y∈sc.names,y.2=NameKind.free->xsc.names.lookup y.1=some NameKind.cell\/xsc.names.lookup y.1=some NameKind.free
def capB(XN:List Str)(sc:Scope):List Str->List (Option Nat)->Bool
 | [],[]=>true
 | x::N,none::src=>capB XN sc N src
 | x::N,some j::src=>decide (XN[j]?=some x)&&decide (sc.names.lookup x=some NameKind.free)&&capB XN sc N src
 | _,_=>false
theorem Yjf{XN:List Str}{sc:Scope}:∀{N:List Str} {src:List (Option Nat)},capB XN sc N src=true->src.length=N.length
 | [],[],_=>rfl
 | _::N,none::src,h=>by
   have:=Yjf (N:=N) (src:=src) h
   simp[this]
 | _::N,some j::src,h=>by
   replace h:(decide (XN[j]?=some _)&&decide (sc.names.lookup _=some NameKind.free)&&capB XN sc N src)=true:=h
   simp only[Bool.and_eq_true]at h
   have:=Yjf (N:=N) (src:=src) h.2
   simp[this]
 | [],_::_,h=>Bool.noConfusion h
 | _::_,[],h=>Bool.noConfusion h
theorem Yjg{XN:List Str}{sc:Scope}:∀{N:List Str} {src:List (Option Nat)},capB XN sc N src=true->∀(i j:Nat) (x:Str),N[i]?=some x->src[i]?=some (some j)->XN[j]?=some x/\sc.names.lookup x=some NameKind.free
 | [],[],_,i,j,x,h,_=>by simp at h
 | _::N,none::src,h,i,j,x,h1,h2=>by
   cases i with
   | zero=>simp at h2
   | succ i=>exact Yjg (N:=N) (src:=src) h i j x (by simpa using h1) (by simpa using h2)
 | y::N,some k::src,h,i,j,x,h1,h2=>by
   replace h:(decide (XN[k]?=some y)&&decide (sc.names.lookup y=some NameKind.free)&&capB XN sc N src)=true:=h
   simp only[Bool.and_eq_true,decide_eq_true_eq]at h
   cases i with
   | zero=>
     simp at h1 h2
     subst h1;subst h2
     exact h.1
   | succ i=>exact Yjg (N:=N) (src:=src) h.2 i j x (by simpa using h1) (by simpa using h2)
 | [],_::_,h,_,_,_,_,_=>Bool.noConfusion h
 | _::_,[],h,_,_,_,_,_=>Bool.noConfusion h
def Yxc(XN:List Str)(xsc:Scope)(N:List Str)(src:List (Option Nat))(sc:Scope):Bool:=
 decide (sc.kind=.function)&&decide (xsc.kind=.function)&&sc.names.all (fun y=>decide (y.2=NameKind.cell->sc.names.lookup y.1=some NameKind.cell))&&sc.names.all (fun y=>decide (y.2=NameKind.local->sc.names.lookup y.1=some NameKind.local))&&
  decide N.Nodup&&capB XN sc N src&&sc.names.all (fun y=>decide (y.2=NameKind.free->xsc.names.lookup y.1=some NameKind.cell\/xsc.names.lookup y.1=some NameKind.free))
theorem Yap{XN:List Str}{xsc:Scope}{N:List Str}{src:List (Option Nat)}{sc:Scope}(h:Yxc XN xsc N src sc=true):CompSc XN xsc N src sc:=by
 unfold Yxc at h
 simp only[Bool.and_eq_true,decide_eq_true_eq,List.all_eq_true]at h
 obtain⟨⟨⟨⟨⟨⟨h1,h2⟩,h3⟩,h4⟩,h5⟩,h6⟩,h7⟩:=h
 exact⟨h1,h2,h3,h4,Yjf h6,h5,Yjg h6,h7⟩
abbrev Yal(X:Cx)(scope:Scope)(N:List Str)(cl:List (Str × Addr))(C:Addr)(fp:List Addr)(s:Shared)(H:Hp):Cx where
 prog:=X.prog
 w:=X.w
 K:=X.K
 mg:=X.mg
 base:=X.base
 A:=X.A
 N:=N
 s₀:=s
 H₀:=H
 env:=compEnvC scope cl C X.env
 outer:=X.stack
 stack:=X.stack
 ex:=fp
 fn:=fun x=>scope.names.lookup x==some NameKind.cell
 calm:=X.calm
 pn:=[]
 xe:=fun _ _=>False
def capσ(src:List (Option Nat))(σ:St):St:=src.map fun o=>o.bind fun j=>(σ[j]?).join
def PIfs(X:Cx)(ifs:List Expr)(t:TT):Prop:=
 ∀(pins:List (Addr × Obj)) (s:Shared) (σ:St) (H:Hp) (Q:Bool->Hp->Prop),Inv X pins σ H s->t σ H Q->
  wpAny (model X.prog X.w) X.A (forIn ifs true fun c r=>if r=true then do let ok <-isTrue c X.env (eval c X.env);pure (ForInStep.yield ok)else pure (ForInStep.yield r)) (TP X pins σ Q) X.xe s
def tYes:TT:=fun _ H Q=>Q true H
theorem Yue{X:Cx}:PIfs X [] tYes:=fun _ _ _ H _ I h=>wpAny_tests_nil ⟨H,I,h⟩
theorem Yuf{X:Cx}{c:Expr}{t:TT}(h:PT X c t):PIfs X [c] t:=fun pins s σ H Q I hq=>wpAny_tests_one (h pins s σ H Q I hq)
def tLC(wi:TI)(src:List (Option Nat))(g:TG)(ti:TT)(te:TE):TE:=fun σ H Q=>wi σ H fun J H1=>∀p,H1 p=none->
 ∃W:Nat->Nat->St->Hp->Prop,(∃m,W 0 m (capσ src σ) (upd H1 p (.lst [])))/\∀i m σ1 H2,W i m σ1 H2->
  (J.stop i H2/\Q (.ref p) H2)\/
  (J.go i H2/\∀x H3,J.yld i H2 x H3->g x σ1 H3 fun σ4 H4=>ti σ4 H4 fun b H5=>if b=true then te σ4 H5 fun v H6=>∃xs,H6 p=some (.lst xs)/\xs.length < sizeLine/\∃m',m' < m/\W (i+1) m' σ4 (upd H6 p (.lst (xs++[v])))else ∃m',m' < m/\W (i+1) m' σ4 H5)
section
variable {prog:Program} {w:World} {A:Around} {R:Result->Shared->Prop} {s:Shared} {X:Cx} {elt tg iter:Expr} {ifs:List Expr} {scope:Scope} {pos:Pos} {wi:TI} {g:TG} {ti:TT} {te:TE} {N:List Str} {src:List (Option Nat)}
theorem Yev{elt target iter:Expr}{ifs:List Expr}{scope:Scope}{pos:Pos}{it acc:Value}{env:Env}(I:Nat->Shared->Prop)
 (turn:∀n s,I n s->wpAny (model prog w) A (pyNext it) (fun r s₁=>match r with
  | none=>R (.ok .next) s₁
  | some v=>wpAny (model prog w) A (letOwnedTupleGo target it v) (fun _ s₁=>wpAny (model prog w) A (assign target env v) (fun _ s₂=>
   wpAny (model prog w) A (forIn ifs true fun c r=>if r=true then do let ok <-isTrue c env (eval c env);pure (ForInStep.yield ok)else pure (ForInStep.yield r)) (fun ok s₃=>
    if ok=true then wpAny (model prog w) A (eval elt env) (fun x s₄=>
     wpAny (model prog w) A (call (.builtin "list.append") [acc,x]) (fun _ s₅=>∃m,m < n/\I m s₅) (notedBy (model prog w) A env fun e s'=>R (.error e) s') s₄) (notedBy (model prog w) A env fun e s'=>R (.error e) s') s₃
    else ∃m,m < n/\I m s₃) (notedBy (model prog w) A env fun e s'=>R (.error e) s') s₂) (notedBy (model prog w) A env fun e s'=>R (.error e) s') s₁) (notedBy (model prog w) A env fun e s'=>R (.error e) s') s₁) (notedBy (model prog w) A env fun e s'=>R (.error e) s') s)
 (n:Nat) (h:I n s) :
 codeAny (model prog w) A (.compLoop (.ListComp elt [⟨target,iter,ifs,0⟩] scope pos) 0 it acc env) R s:=by
 refine codeAny_loop rfl I (fun n s hI=>?_) n h
 show wpAny _ A ((compTurn (.ListComp elt [⟨target,iter,ifs,0⟩] scope pos) 0 it acc env).onRaise (fun x=>do noteFrame x env;theTreesLotGoes x)) _ _ s
 refine wpAny_noted ?_
 rw[compTurn_list]
 refine wpAny_bind (wpAny_standAt (wpAny_bind (wpAny_mono (turn n s hI) (fun r s₁ h₁=>?_) fun _ _ h'=>h')))
 cases r with
 | none=>exact wpAny_pure h₁
 | some v=>
   refine wpAny_bind (wpAny_mono h₁ (fun _ s₁ h₁=>?_) fun _ _ h'=>h')
   refine wpAny_bind (wpAny_mono h₁ (fun _ s₂ h₂=>wpAny_bind (wpAny_mono h₂ (fun ok s₃ h₃=>?_) fun _ _ h'=>h')) fun _ _ h'=>h')
   cases ok with
   | false=>exact wpAny_pure ⟨rfl,h₃⟩
   | true=>
     exact wpAny_bind (wpAny_bind (wpAny_mono h₃ (fun x s₄ h₄=>wpAny_bind (wpAny_mono h₄ (fun _ s₅ h₅=>wpAny_pure (wpAny_pure ⟨rfl,h₅⟩)) fun _ _ h'=>h')) fun _ _ h'=>h'))
theorem Ye1{scope:Scope}{env:Env}{x:Str}(h:scope.names.lookup x=some NameKind.free)(hk:env.kindOf x=some NameKind.cell\/env.kindOf x=some NameKind.free) :
 (relabel scope env).names.lookup x=some NameKind.cell\/(relabel scope env).names.lookup x=some NameKind.free:=by
 unfold relabel
 show List.lookup x (scope.names.map _)=_\/List.lookup x (scope.names.map _)=_
 generalize scope.names=l at h
 induction l with
 | nil=>cases h
 | cons p r ih=>
   obtain⟨n,k⟩:=p
   rw[List.lookup_cons]at h
   rw[qz]
   cases e:(x==n)with
   | true=>
     rw[e]at h
     cases h
     by_cases hc:(NameKind.free==NameKind.free&&env.scope.kind==ScopeKind.function&&env.kindOf n==some NameKind.cell)=true
     ·left;simp only[hc,if_true];rw[List.lookup_cons,e]
     ·right;simp only[hc];rw[if_neg qh,List.lookup_cons,e]
   | false=>
     rw[e]at h
     have q:=ih h
     by_cases hc:(k==NameKind.free&&env.scope.kind==ScopeKind.function&&env.kindOf n==some NameKind.cell)=true
     ·simp only[hc,if_true];rw[List.lookup_cons,e];exact q
     ·simp only[hc];rw[if_neg qh,List.lookup_cons,e];exact q
theorem Yg2{scope:Scope}{env:Env}{x:Str}(h:(relabel scope env).names.lookup x=some NameKind.cell\/(relabel scope env).names.lookup x=some NameKind.free) :
 (x,NameKind.free)∈scope.names\/(x,NameKind.cell)∈scope.names:=by
 unfold relabel at h
 change List.lookup x (scope.names.map _)=_\/List.lookup x (scope.names.map _)=_ at h
 revert h
 generalize scope.names=l
 intro h
 induction l with
 | nil=>rcases h with h | h<;>cases h
 | cons p r ih=>
   obtain⟨n,k⟩:=p
   rw[qz]at h
   have hr:=fun z=>ih z
   cases e:(x==n)with
   | true=>
     have en:x=n:=by simpa using e
     subst en
     by_cases hk:k=NameKind.free
     ·subst hk;exact .inl qg
     ·have hb:(k==NameKind.free)=false:=by simpa using hk
      simp only[hb,Bool.false_and,Bool.false_eq_true,if_false]at h
      rw[List.lookup_cons,e]at h
      rcases h with h | h
      ·cases h;exact .inr qg
      ·cases h;exact absurd rfl hk
   | false=>
     refine(hr ?_).imp (qf _) (qf _)
     by_cases hk:(k==NameKind.free&&env.scope.kind==ScopeKind.function&&env.kindOf n==some NameKind.cell)=true
     ·simp only[hk,if_true]at h;rw[List.lookup_cons,e]at h;exact h
     ·simp only[hk]at h;rw[if_neg qh,List.lookup_cons,e]at h;exact h
theorem Ybh:∀(names:List (Str × NameKind)) (n:Nat) (acc:List (Str × Addr)),cellsFrom n names acc=cellsFrom n names []++acc
 | [],_,_=>rfl
 | (x,k)::r,n,acc=>by
   unfold cellsFrom
   split
   ·rw[Ybh r (n+1) ((x,n)::acc),Ybh r (n+1) [(x,n)],List.append_assoc];rfl
   ·exact Ybh r n acc
theorem Ydg:∀(names:List (Str × NameKind)) (n:Nat) (x:Str) (c:Addr),(x,c)∈cellsFrom n names []->(x,NameKind.cell)∈names
 | [],_,_,_,h=>(nomatch h)
 | (y,k)::r,n,x,c,h=>by
   unfold cellsFrom at h
   split at h
   ·rename_i hk
    rw[Ybh]at h
    rcases qt h with h | h
    ·exact qf _ (Ydg r _ x c h)
    ·rw[List.mem_singleton]at h
     cases h
     have:k=NameKind.cell:=by simpa using hk
     rw[this];exact qg
   ·exact qf _ (Ydg r n x c h)
theorem Yfv{own cl:List (Str × Addr)}{x:Str}:(own++cl).lookup x=(own.lookup x).or (cl.lookup x):=by
 induction own with
 | nil=>rfl
 | cons p r ih=>
   obtain⟨y,b⟩:=p
   rw[List.cons_append,List.lookup_cons,List.lookup_cons]
   cases (x==y)with
   | true=>rfl
   | false=>exact ih
theorem Yau{own cl:List (Str × Addr)}{x:Str}{c:Addr}(h:(own++cl).lookup x=some c):own.lookup x=some c\/(own.lookup x=none/\cl.lookup x=some c):=by
 rw[Yfv]at h
 cases e:own.lookup x with
 | none=>rw[e]at h;exact .inr ⟨rfl,h⟩
 | some d=>rw[e]at h;exact .inl h
theorem Ylx{M:Model}{A:Around}{E:Value->Shared->Prop}{scope:Scope}{globals:Addr}{cl:List (Str × Addr)}{qual:Str}{outer:Env}{Q:Env->Shared->Prop}{s:Shared}{bt:Addr}
 (h:Q (newEnv scope s.heap.objs.size globals (cellsFrom (s.heap.objs.size+1) scope.names []++cl) qual none .none (some outer) bt) { s with heap:=pushCells (s.heap.push { cls:=.type "dict",data:=.dict #[] }) scope.names }) :
 wpAny M A (newFunctionEnv scope globals cl [] qual none .none (some outer) bt) Q E s:=by
 simp only[newFunctionEnv,Option.isSome_some,if_true]
 refine wpAny_bind (wpAny_alloc ?_)
 refine wpAny_bind (wpAny_layCells _ (fun name kind cells=>by cases hkc:kind==NameKind.cell<;>simp[hkc]) _ _ _ _ ?_)
 rw[show({ s with heap:=s.heap.push { cls:=.type "dict",data:=.dict #[] } }:Shared).heap.objs.size=s.heap.objs.size+1 from Heap.size_push ..,Ybh]
 rw[List.forIn_nil]
 exact wpAny_bind (wpAny_pure (wpAny_pure h))
theorem Yn5{pins:List (Addr × Obj)}{σ:St}{H:Hp}{s:Shared}{fp:List Addr}{h₁:Heap}{tk:Nat}{own:List (Str × Addr)}(S:CompSc X.N X.env.scope N src scope)(I:Inv X pins σ H s)(hf:∀b∈fp,FpOk X pins H b)(ho:∀b∈fp,∃o,s.heap.get? b=some o)
 (hn:h₁.Ns s.heap.objs.size fun _=>none) (hk:∀b o,s.heap.get? b=some o->h₁.get? b=some o) (hc:CellsOk h₁ (s.heap.objs.size+1) own) (ow:∀x c,(x,c)∈own->(x,NameKind.cell)∈scope.names) (has:∀x,scope.names.lookup x=some NameKind.cell->∃c,own.lookup x=some c) :
 Inv (Yal X scope N (own++clOf X.env scope.names []) s.heap.objs.size fp s H) [] (capσ src σ) H { s with heap:=h₁,toks:=tk }:=by
 have sub:∀x c,(clOf X.env scope.names []).lookup x=some c->X.env.cells.lookup x=some c:=fun x c e=>Ygj scope.names [] (fun _ _ z=>nomatch z) x c (PySem.mem_of_lookup e)
 have clt:∀x c,(clOf X.env scope.names []).lookup x=some c->c < s.heap.objs.size:=fun x c e=>by
  obtain⟨v,q⟩:=I.cell x c (sub x c e)
  exact q.lt
 have owl:∀x c,own.lookup x=some c->s.heap.objs.size < c:=fun x c e=>(hc.empty x c (PySem.mem_of_lookup e)).2
 have nofree:∀x,scope.names.lookup x=some NameKind.free->own.lookup x=none:=fun x hx=>by
  cases e:own.lookup x with
  | none=>rfl
  | some c=>
    have:=S.cellU _ (ow x c (PySem.mem_of_lookup e)) rfl
    rw[hx]at this
    cases this
 have fpl:∀b∈fp,b < s.heap.objs.size:=fun b hb=>by
  obtain⟨o,e⟩:=ho b hb
  exact qk e
 have nfs:∀b∈fp,b∉frs X.stack:=fun b hb z=>by
  rcases qr (I.stkSub b z)with e | e
  ·exact(hf b hb).2.1 e
  ·exact(hf b hb).2.2.1 e
 refine⟨⟨I.ok.mod,S.kind,I.ok.glob,I.ok.blt,qs _,fun x y c h1 h2=>?_,fun x hx=>?_,fun x c z e=>?_,I.ok.hd,I.ok.frames,.inl rfl,fun b hb=>⟨ql (fpl b hb),fun x c e=>?_⟩,
  I.bs,Qb I.ok.bsz I.sz,fun b o e hb=>?_,nfs,I.stack,I.stkFree⟩,rfl,I.bare,Un.kept hk,⟨_,hn,fun i x v h1 h2 h3=>?_⟩,fun x c e=>?_,I.fresh,fun x c e=>?_,fun p hp=>(nomatch hp),I.hok.kept hk,?_⟩
 ·rcases Yau h1 with h1 | ⟨_,h1⟩
  ·rcases Yau h2 with h2 | ⟨_,h2⟩
   ·exact name_of_addr hc.apart (PySem.mem_of_lookup h1) (PySem.mem_of_lookup h2)
   ·exact absurd (Nat.lt_trans (owl x c h1) (clt y c h2)) (Nat.lt_irrefl _)
  ·rcases Yau h2 with h2 | ⟨_,h2⟩
   ·exact absurd (Nat.lt_trans (owl y c h2) (clt x c h1)) (Nat.lt_irrefl _)
   ·exact I.ok.inj x y c (sub x c h1) (sub y c h2)
 ·show ∃c,(own++clOf X.env scope.names []).lookup x=some c
  rw[Yfv]
  cases e:own.lookup x with
  | some c=>exact⟨c,rfl⟩
  | none=>
    rcases Yg2 hx with hm | hm
    ·obtain⟨c,hc⟩:=I.ok.has x (S.fr _ hm rfl)
     exact Yfd (Yfc scope.names [] x c hm hc)
    ·obtain⟨c,hc⟩:=has x (S.cellU _ hm rfl)
     rw[e]at hc
     cases hc
 ·have z':scope.names.lookup x=some NameKind.cell:=by simpa using z
  obtain⟨d,hd⟩:=has x z'
  rcases Yau e with e | ⟨e,_⟩
  ·exact Nat.le_of_lt (owl x c e)
  ·rw[hd]at e;cases e
 ·rcases Yau e with e | ⟨_,e⟩
  ·exact Nat.ne_of_gt (Nat.lt_trans (fpl b hb) (owl x c e))
  ·exact(hf b hb).2.2.2.2.1 x c (sub x c e)
 ·rcases(hf b hb).2.2.2.1 with z | z
  ·exact I.ok.noex b o e z
  ·exact absurd (Qa (qk e) (Qb I.ok.bsz z)) (Nat.lt_irrefl _)
 ·have hi:i < src.length:=by
   have:=(qm h2).1
   unfold capσ at this
   simpa using this
  have hs:src[i]?=some src[i]:=qp hi
  unfold capσ at h2
  rw[Qc,hs]at h2
  have h2':(src[i].bind fun j=>(σ[j]?).join)=some v:=Option.some.inj h2
  cases q:src[i]with
  | none=>rw[q]at h2';cases h2'
  | some j=>
    rw[q]at h2' hs
    have h2'':(σ[j]?).join=some v:=h2'
    obtain⟨hx,hfr⟩:=S.cap i j x h1 hs
    obtain⟨m,_,hl⟩:=I.loc
    have hk2:X.env.kindOf x=some NameKind.cell\/X.env.kindOf x=some NameKind.free:=S.fr (x,NameKind.free) (PySem.mem_of_lookup hfr) rfl
    have hσ:σ[j]?=some (some v):=by
     cases z:σ[j]? with
     | none=>rw[z]at h2'';cases h2''
     | some o=>
       rw[z]at h2''
       have:o=some v:=h2''
       rw[this]
    obtain⟨u,r,l⟩:=hl j x v hx hσ (.inr hk2)
    refine⟨u,r,.inr ⟨Ye1 hfr hk2,?_⟩⟩
    rcases l with⟨z,_⟩ | ⟨_,c,hc,hcell⟩
    ·rcases hk2 with q2 | q2
     ·rw[q2]at z;cases z
     ·rw[q2]at z;cases z
    ·obtain⟨d,hd⟩:=Yfd (Yfc (env:=X.env) scope.names [] x c (PySem.mem_of_lookup hfr) hc)
     have e2:=sub x d hd
     rw[hc]at e2
     cases e2
     refine⟨c,?_,hcell.keeps hk⟩
     show(own++clOf X.env scope.names []).lookup x=some c
     rw[Yfv,nofree x hfr]
     exact hd
 ·rcases Yau e with e | ⟨_,e⟩
  ·exact⟨_,(hc.empty x c (PySem.mem_of_lookup e)).1⟩
  ·obtain⟨v,q⟩:=I.cell x c (sub x c e)
   exact⟨v,q.keeps hk⟩
 ·rcases Yau e with e | ⟨_,e⟩
  ·exact I.hok.fresh (Nat.le_of_lt (owl x c e))
  ·exact I.freeC x c (sub x c e)
 ·unfold capσ
  rw[qe]
  exact S.len
theorem Yr0{pins:List (Addr × Obj)}{σ σ1:St}{H H':Hp}{s s':Shared}{fp:List Addr}{cl:List (Str × Addr)}{C:Addr}{pn:List (Addr × Obj)}(I:Inv X pins σ H s)(hf:∀b∈fp,FpOk X pins H b)(J:Inv (Yal X scope N cl C fp s H) pn σ1 H' s'):Inv X pins σ H' s':=
 I.call' J.os J.base J.hok J.bare fun b hb=>⟨(hf b hb).2.2.2.1,(hf b hb).2.1,(hf b hb).2.2.2.2.1,(hf b hb).2.2.2.2.2⟩
theorem Ykn{pins:List (Addr × Obj)}{σ:St}{H:Hp}{s:Shared}{Q:VK}{it:Addr}{fp:List Addr}{tn:Nat->Heap->Prop}{J:It}{R:Value->Addr->Result->Shared->Prop}{E:Value->Shared->Prop}
 (S:CompSc X.N X.env.scope N src scope) (hc:X.calm=true) (hg:∀cl C fp s H,PG (Yal X scope N cl C fp s H) tg g) (hi:∀cl C fp s H,PIfs (Yal X scope N cl C fp s H) ifs ti) (he:∀cl C fp s H,PE (Yal X scope N cl C fp s H) elt te)
 (I:Inv X pins σ H s) (T:Turn X.prog X.w X.K tg J fp it tn) (st:tn 0 s.heap) (hf:∀b∈fp,FpOk X pins H b)
 (h:∀p,H p=none->∃W:Nat->Nat->St->Hp->Prop,(∃m,W 0 m (capσ src σ) (upd H p (.lst [])))/\∀i m σ1 H2,W i m σ1 H2->
  (J.stop i H2/\Q (.ref p) H2)\/
  (J.go i H2/\∀x H3,J.yld i H2 x H3->g x σ1 H3 fun σ4 H4=>ti σ4 H4 fun b H5=>if b=true then te σ4 H5 fun v H6=>∃xs,H6 p=some (.lst xs)/\xs.length < sizeLine/\∃m',m' < m/\W (i+1) m' σ4 (upd H6 p (.lst (xs++[v])))else ∃m',m' < m/\W (i+1) m' σ4 H5))
 (hR:∀(D C:Addr) (s':Shared) (H':Hp) (m:Str->Option Value),Inv X pins σ H' s'->s'.heap.Ns C m->H' C=none->C≠X.env.locals->X.s₀.heap.objs.size<=C->(∀x c,X.env.cells.lookup x=some c->c≠C)->(∀p∈X.pn++pins,p.1≠C)->Q (.ref D) H'->R (.ref D) C (.ok .next) s') :
 wpAny (model X.prog X.w) X.A (newList []) (fun acc s₃=>wpAny (model X.prog X.w) X.A (newFunctionEnv scope X.env.globals (clOf X.env scope.names []) [] X.env.qual none .none (some X.env)) (fun cenv s₄=>
  codeAny (model X.prog X.w) X.A (.compStart (.ListComp elt [⟨tg,iter,ifs,0⟩] scope pos) 0 (.ref it) acc { cenv with scope:=relabel scope X.env }) (R acc cenv.locals) s₄) E s₃) E s:=by
 refine wpAny_newObj_type (Ylx ?_)
 have hfree:H s.heap.objs.size=none:=I.fresh
 obtain⟨W,⟨m0,w0⟩,turn⟩:=h s.heap.objs.size hfree
 have I3:Inv X pins σ (upd H s.heap.objs.size (.lst [])) { s with heap:=s.heap.push { cls:=.type "list",dict:=none,data:=.seq ([]:List Value).toArray },toks:=s.toks }:=I.lnew (ys:=[]) (its:=[]) .nil (Nat.zero_le _)
 generalize hD:s.heap.objs.size=Dd at *
 generalize hH3:upd H Dd (.lst [])=H3 at *
 have kp0:∀b o,s.heap.get? b=some o->(s.heap.push { cls:=.type "list",dict:=none,data:=.seq ([]:List Value).toArray }).get? b=some o:=fun b o e=>qd _ e
 have lt0:∀b o,s.heap.get? b=some o->b≠Dd:=fun b o e=>by rw[<-hD];exact ql (qk e)
 generalize hs3:s.heap.push { cls:=.type "list",dict:=none,data:=.seq ([]:List Value).toArray }=hp3 at *
 have f3:∀b∈fp,FpOk X pins H3 b:=fun b hb=>by
  obtain⟨o,e,_⟩:=T.obj _ _ st b hb
  refine⟨?_,(hf b hb).2⟩
  rw[<-hH3,Yk (lt0 b o e)]
  exact(hf b hb).1
 have ob3:∀b∈fp,∃o,hp3.get? b=some o:=fun b hb=>by
  obtain⟨o,e,_⟩:=T.obj _ _ st b hb
  exact⟨o,kp0 b o e⟩
 dsimp only
 have hns₁:(pushCells (hp3.push { cls:=.type "dict",data:=.dict #[] }) scope.names).Ns hp3.objs.size (fun _=>none):=(Heap.Ns.new hp3 (.type "dict")).keeps (pushCells_keeps _ _)
 have old:∀b o,hp3.get? b=some o->(pushCells (hp3.push { cls:=.type "dict",data:=.dict #[] }) scope.names).get? b=some o:=fun b o e=>pushCells_keeps _ _ b o (qd _ e)
 have cok:=cellsFrom_ok scope.names (hp3.push { cls:=.type "dict",data:=.dict #[] }) (hp3.objs.size+1) [] ⟨fun _ _ hm=>(nomatch hm),List.Pairwise.nil⟩ (by rw[Heap.size_push];exact qs _)
 rw[Heap.size_push]at cok
 have chas:∀x,scope.names.lookup x=some NameKind.cell->∃c,(cellsFrom (hp3.objs.size+1) scope.names []).lookup x=some c:=fun x hx=>Option.isSome_iff_exists.mp (PySem.W.cellsFrom_some _ _ _ (.inl hx))
 have cmem:∀x c,(x,c)∈cellsFrom (hp3.objs.size+1) scope.names []->(x,NameKind.cell)∈scope.names:=fun x c h=>Ydg _ _ x c h
 generalize cellsFrom (hp3.objs.size+1) scope.names []=own at *
 generalize pushCells (hp3.push { cls:=.type "dict",data:=.dict #[] }) scope.names=h₁ at *
 have I4:Inv (Yal X scope N (own++clOf X.env scope.names []) hp3.objs.size fp { s with heap:=hp3,toks:=s.toks } H3) [] (capσ src σ) H3 { s with heap:=h₁,toks:=s.toks }:=
  Yn5 (s:={ s with heap:=hp3,toks:=s.toks }) (tk:=s.toks) S I3 f3 ob3 hns₁ old cok cmem chas
 have st4:tn 0 h₁:=T.keep _ _ _ st fun b _ o e=>old b o (kp0 b o e)
 have hCl:hp3.objs.size≠X.env.locals:=Nat.ne_of_gt I3.lt
 have hCc:∀x c,X.env.cells.lookup x=some c->c≠hp3.objs.size:=fun x c e=>by
  obtain⟨v,q⟩:=I3.cell x c e
  exact ql q.lt
 have hCp:∀p∈X.pn++pins,p.1≠hp3.objs.size:=fun p hp=>ql (qk (I3.pin p hp).1)
 have stat:∀{H':Hp},(∀b∈fp,H' b=none)->∀b∈fp,FpOk (Yal X scope N (own++clOf X.env scope.names []) hp3.objs.size fp { s with heap:=hp3,toks:=s.toks } H3) [] H' b:=fun {H'} hn b hb=>by
  obtain⟨e1,e2⟩:=I4.ok.exf b hb
  exact⟨hn b hb,e1,I4.ok.exfs b hb,.inl hb,e2,fun p hp=>nomatch hp⟩
 have loop:codeAny (model X.prog X.w) X.A (.compLoop (.ListComp elt [⟨tg,iter,ifs,0⟩] scope pos) 0 (.ref it) (.ref Dd) (compEnvC scope (own++clOf X.env scope.names []) hp3.objs.size X.env)) (R (.ref Dd) hp3.objs.size) { s with heap:=h₁,toks:=s.toks }:=by
  refine Yev (fun n s'=>∃i σ' H',Inv (Yal X scope N (own++clOf X.env scope.names []) hp3.objs.size fp { s with heap:=hp3,toks:=s.toks } H3) [] σ' H' s'/\tn i s'.heap/\(∀b∈fp,H' b=none)/\W i n σ' H') ?_ m0 ⟨0,_,H3,I4,st4,fun b hb=>(f3 b hb).1,w0⟩
  rintro n s3 ⟨i,σ3,H3',I3',st3,fr3,w3⟩
  rcases turn i n σ3 H3' w3 with⟨stop,qn⟩ | ⟨go,step⟩
  ·refine thn (T.done (Yal X scope N (own++clOf X.env scope.names []) hp3.objs.size fp { s with heap:=hp3,toks:=s.toks } H3) rfl rfl rfl hc i [] s3 σ3 H3' _ I3' (stat fr3) st3 stop) fun r s4 hx_=>?_
   obtain⟨hr,I5⟩:=hx_
   subst hr
   obtain⟨m,hm,_⟩:=I5.loc
   exact hR Dd hp3.objs.size s4 H3' m (Yr0 I3 f3 I5) hm I5.free hCl (Qb I3.sz (qs _)) hCc hCp qn
  ·refine thn (T.item (Yal X scope N (own++clOf X.env scope.names []) hp3.objs.size fp { s with heap:=hp3,toks:=s.toks } H3) rfl rfl rfl hc i [] s3 σ3 H3' _ I3' (stat fr3) st3 go) fun r s4 hx_=>?_
   obtain⟨u,hr,h4⟩:=hx_
   subst hr
   refine thn h4 fun _ s5 hx_=>?_
   obtain⟨x,H5,I5,r5,y5,st5,fr5⟩:=hx_
   have I5':=I5.pinned (stat fr5) (T.obj _ _ st5)
   have un:∀{α:Type} {t:Sem α} {Q':α->Shared->Prop} {E':Value->Shared->Prop} {s':Shared},wpAny (model X.prog X.w) X.A t Q' (fun _ _=>False) s'->wpAny (model X.prog X.w) X.A t Q' E' s':=fun h=>wpAny_mono h (fun _ _ q=>q) fun _ _ f=>f.elim
   refine un (thn (hg _ _ _ _ _ _ s5 σ3 H5 x u _ I5' r5 (step x H5 y5)) fun _ s6 hx_=>?_)
   obtain⟨σ6,H6,I6,q6⟩:=hx_
   refine un (thn (hi _ _ _ _ _ _ s6 σ6 H6 _ I6 q6) fun ok s7 hx_=>?_)
   obtain⟨H7,I7,q7⟩:=hx_
   have again:∀{H8:Hp} {s8:Shared} {m':Nat},m' < n->Inv (Yal X scope N (own++clOf X.env scope.names []) hp3.objs.size fp { s with heap:=hp3,toks:=s.toks } H3) ([]++Ykg fp s5.heap) σ6 H8 s8->W (i+1) m' σ6 H8->
    ∃m,m < n/\∃i σ' H',Inv (Yal X scope N (own++clOf X.env scope.names []) hp3.objs.size fp { s with heap:=hp3,toks:=s.toks } H3) [] σ' H' s8/\tn i s8.heap/\(∀b∈fp,H' b=none)/\W i m σ' H':=fun {H8 s8 m'} hm I8 w8=>by
    refine⟨m',hm,i+1,σ6,H8,I8.unpinned,T.keep _ _ _ st5 fun b hb o e=>(I8.pin (b,o) (Qd _ (Qd _ (Yef hb e)))).1,fun b hb=>?_,w8⟩
    obtain⟨o,e,d⟩:=T.obj _ _ st5 b hb
    exact(I8.pin (b,o) (Qd _ (Qd _ (Yef hb e)))).2.1
   cases ok with
   | false=>
     rw[if_neg qh]at q7 ⊢
     obtain⟨m',hm,w7⟩:=q7
     exact again hm I7 w7
   | true=>
     rw[if_pos rfl]at q7 ⊢
     refine un (thn (he _ _ _ _ _ _ s7 σ6 H7 _ I7 q7) fun y s8 hx_=>?_)
     obtain⟨v,H8,I8,r8,q8⟩:=hx_
     obtain⟨xs,e8,z8,m',hm,w8⟩:=q8
     refine un (thn (Yg0 _ s8 σ6 H8 (.ref Dd) [v] (.ref Dd) [y] (fun _ H9=>H9=upd H8 Dd (.lst (xs++[v]))) I8 rfl (.cons r8 .nil) ⟨Dd,xs,v,rfl,rfl,e8,z8,rfl⟩) fun _ s9 hx_=>?_)
     obtain⟨_,H9,I9,_,q9⟩:=hx_
     subst q9
     exact again hm I9 w8
 exact codeAny_compStart_list loop (T.self _ _ _ _ _ st4 loop)
theorem Yug(S:CompSc X.N X.env.scope N src scope)(hc:X.calm=true)(hit:PI X tg iter wi)(hg:∀cl C fp s H,PG (Yal X scope N cl C fp s H) tg g)(hi:∀cl C fp s H,PIfs (Yal X scope N cl C fp s H) ifs ti)(he:∀cl C fp s H,PE (Yal X scope N cl C fp s H) elt te)
 (hs:∀x,foldedSetIterable iter X.env x=pure x:=by intro _;rfl):PE X (.ListComp elt [⟨tg,iter,ifs,0⟩] scope pos) (tLC wi src g ti te):=by
 intro pins s σ H Q I h
 rw[eval_ListComp]
 have hcl:closureFor scope X.env=pure (clOf X.env scope.names []):=Ydu fun y hy hf=>I.ok.has y.1 (S.fr y hy hf)
 refine wpAny_comprehension_free (use:=none) rfl hs hcl S.kind S.names ?_
 refine thn (hit pins s σ H _ I h) fun v s1 h1=>thn h1 fun itv s2 hx_=>?_
 obtain⟨it,fp,tn,J,H2,e,I2,T,st2,f2,q⟩:=hx_
 subst e
 refine Ykn (Q:=Q) (R:=fun acc C=>compPost (model X.prog X.w) X.A X.xe none (EP X pins σ Q) acc C) S hc hg hi he I2 T st2 f2 q fun D C s' H' m I' hm hC hCl hCs hCc hCp hq=>?_
 refine⟨m,hm,fun h' sb=>?_⟩
 exact⟨.ref D,H',I'.turned (t':=s'.toks) (fun b o hb e=>(sb.2 b hb).trans e) hC hCl (.inr hCs) hCc hCp,rfl,hq⟩
theorem Yuh{i:Nat}{y:Str}{py spos:Pos}(S:CompSc X.N X.env.scope N src scope)(hc:X.calm=true)(hit:PI X tg iter wi)(hg:∀cl C fp s H,PG (Yal X scope N cl C fp s H) tg g)(hi:∀cl C fp s H,PIfs (Yal X scope N cl C fp s H) ifs ti)(he:∀cl C fp s H,PE (Yal X scope N cl C fp s H) elt te)
 (hN:X.N.Nodup) (hy:X.N[i]?=some y) (hx:Loc X.env.scope y) (hsw:swapsWith (.ListComp elt [⟨tg,iter,ifs,0⟩] scope pos) (some (.Name y py)) spos.line X.env=pure true)
 (hf:X.fn y=true\/X.env.scope.names.lookup y=some .local:=by first | exact .inl rfl | exact .inr rfl | assumption)
 (hs:∀x,foldedSetIterable iter X.env x=pure x:=by intro _;rfl):PS X (.Assign [.Name y py] (.ListComp elt [⟨tg,iter,ifs,0⟩] scope pos) spos) (tAsg (tLC wi src g ti te) (Ynw i)):=by
 intro pins s σ H D I h
 rw[exec_Assign_Name_used _ _ _ _ hsw]
 refine wpAny_bind (wpAny_standAt (wpAny_bind ?_))
 show wpAny _ X.A (do let _ <-comprehension (.ListComp elt [⟨tg,iter,ifs,0⟩] scope pos) scope X.env _ (newList []) false (eval iter X.env) (some (assign (.Name y py) X.env))) _ _ s
 have hcl:closureFor scope X.env=pure (clOf X.env scope.names []):=Ydu fun y hy hf=>I.ok.has y.1 (S.fr y hy hf)
 refine wpAny_bind (wpAny_mono (wpAny_comprehension_free (use:=some (assign (.Name y py) X.env)) (Q:=fun _ s'=>SP X pins D .next s') rfl hs hcl S.kind S.names ?_) (fun _ s' hq=>wpAny_pure (wpAny_pure hq)) fun _ _ e=>e)
 refine thn (hit pins s σ H _ I h) fun v s1 h1=>thn h1 fun itv s2 hx_=>?_
 obtain⟨it,fp,tn,J,H2,e,I2,T,st2,f2,q⟩:=hx_
 subst e
 refine Ykn (Q:=fun x H1=>Ynw i x σ H1 D.nx) (R:=fun acc C=>compPost (model X.prog X.w) X.A X.xe (some (assign (.Name y py) X.env)) (fun _ s'=>SP X pins D .next s') acc C) S hc hg hi he I2 T st2 f2 q fun Dd C s' H' m I' hm hC hCl hCs hCc hCp hq=>?_
 show wpAny _ X.A (assign (.Name y py) X.env (.ref Dd)) _ _ s'
 refine wpAny_assign_Name (Yke I' hN hy hx (v:=.ref Dd) rfl (fun s'' I'' hsb=>?_) hf)
 obtain⟨a,sb,ha⟩:=hsb
 have hCa:C≠a:=by
  rcases ha with e | e
  ·rw[e];exact hCl
  ·exact Ne.symm (hCc y a e)
 refine⟨m,hm.sameBut sb hCa,fun h' sb'=>?_⟩
 exact⟨_,H',I''.turned (t':=s''.toks) (fun b o hb e=>(sb'.2 b hb).trans e) hC hCl (.inr hCs) hCc hCp,hq⟩
end
end L2
namespace M
open PySem PySem.Spec PyProof.Rows L2
section
section
def Rise(xs:Array Nat):Prop:=xs.toList.Pairwise (· < ·)
theorem Yjh{xs:Array Nat}(hr:Rise xs)(j:Nat):∀(fuel lo hi:Nat),lo<=hi->hi<=xs.size->hi - lo<=fuel->
 (∀(i:Nat) (h:i < xs.size),i < lo->xs[i] < j)->(∀(i:Nat) (h:i < xs.size),hi<=i->j<=xs[i])->
 SetTable.below.go xs j fuel lo hi<=xs.size/\(∀(i:Nat) (h:i < xs.size),i < SetTable.below.go xs j fuel lo hi->xs[i] < j)/\(∀(i:Nat) (h:i < xs.size),SetTable.below.go xs j fuel lo hi<=i->j<=xs[i])
 | 0,lo,hi,h1,h2,h3,h4,h5=>by
   have e:lo=hi:=by lia
   subst e
   rw[SetTable.below.go]
   exact⟨h2,h4,h5⟩
 | fuel+1,lo,hi,h1,h2,h3,h4,h5=>by
   have mono:∀(i k:Nat) (hi:i < xs.size) (hk:k < xs.size),i < k->xs[i] < xs[k]:=fun i k hi hk h=>by
    have:=List.pairwise_iff_getElem.mp hr i k (by simpa using hi) (by simpa using hk) h
    simpa using this
   rw[SetTable.below.go]
   by_cases hl:lo < hi
   ·rw[if_pos hl]
    have hm:(lo+hi) / 2 < xs.size:=by lia
    have hg:xs.getD ((lo+hi) / 2) j=xs[(lo+hi) / 2]:=by simp[Array.getD,hm]
    dsimp only
    rw[hg]
    by_cases hlt:xs[(lo+hi) / 2] < j
    ·rw[if_pos hlt]
     refine Yjh hr j fuel _ _ (by lia) h2 (by lia) (fun i hi' hh=>?_) h5
     by_cases e:i=(lo+hi) / 2
     ·subst e;exact hlt
     ·exact Nat.lt_trans (mono i _ hi' hm (by lia)) hlt
    ·rw[if_neg hlt]
     refine Yjh hr j fuel _ _ (by lia) (by lia) (by lia) h4 (fun i hi' hh=>?_)
     by_cases e:i=(lo+hi) / 2
     ·subst e;lia
     ·have:=mono _ i hm hi' (by lia)
      lia
   ·rw[if_neg hl]
    have e:lo=hi:=by lia
    subst e
    exact⟨h2,h4,h5⟩
theorem Yis{xs:Array Nat}(hr:Rise xs)(j:Nat):SetTable.below xs j<=xs.size/\(∀a∈xs.toList.take (SetTable.below xs j),a < j)/\(∀a∈xs.toList.drop (SetTable.below xs j),j<=a):=by
 obtain⟨h1,h2,h3⟩:=Yjh hr j xs.size 0 xs.size (Nat.zero_le _) (qs _) (by lia) (fun i _ h=>absurd h (Nat.not_lt_zero _)) (fun i h h'=>absurd h (by lia))
 have e:SetTable.below xs j=SetTable.below.go xs j xs.size 0 xs.size:=rfl
 rw[e]
 refine⟨h1,fun a ha=>?_,fun a ha=>?_⟩
 ·obtain⟨i,hi,rfl⟩:=List.mem_iff_getElem.mp ha
  rw[List.length_take]at hi
  have hi':i < xs.size:=by have:xs.toList.length=xs.size:=by simp
                           lia
  rw[List.getElem_take,Array.getElem_toList]
  exact h2 i hi' (by lia)
 ·obtain⟨i,hi,rfl⟩:=List.mem_iff_getElem.mp ha
  rw[List.length_drop]at hi
  have hs:xs.toList.length=xs.size:=by simp
  rw[List.getElem_drop,Array.getElem_toList]
  exact h3 _ (by lia) (by lia)
theorem Yji{α:Type}(xs:Array α)(p:Nat)(x:α):(SetTable.insertAt xs p x).toList=xs.toList.take p++x::xs.toList.drop p:=by
 unfold SetTable.insertAt
 simp[Array.toList_extract,List.extract_eq_drop_take]
 exact List.take_of_length_le (by simp)
theorem Yly{xs:Array Nat}(hr:Rise xs)(j:Nat)(hn:xs[SetTable.below xs j]?≠some j):Rise (SetTable.insertAt xs (SetTable.below xs j) j):=by
 obtain⟨h1,h2,h3⟩:=Yis hr j
 unfold Rise at hr ⊢
 rw[Yji]
 generalize hp:SetTable.below xs j=p at h1 h2 h3 hn ⊢
 rw[<-Array.getElem?_toList]at hn
 generalize xs.toList=l at hr h2 h3 hn ⊢
 have hr2:=hr
 rw[<-List.take_append_drop p l,List.pairwise_append]at hr
 obtain⟨r1,r2,r3⟩:=hr
 have hgt:∀a∈l.drop p,j < a:=by
  cases hd:l.drop p with
  | nil=>intro a ha;cases ha
  | cons b r=>
    rw[hd]at r2 h3
    have hb:l[p]?=some b:=by
     have:(l.drop p)[0]?=some b:=by rw[hd];rfl
     rwa [List.getElem?_drop,Nat.add_zero]at this
    have hjb:j < b:=Nat.lt_of_le_of_ne (h3 b qg) (fun z=>hn (by rw[hb,z]))
    intro a ha
    rcases qr ha with rfl | ha
    ·exact hjb
    ·exact Nat.lt_trans hjb ((List.pairwise_cons.mp r2).1 a ha)
 rw[List.pairwise_append]
 refine⟨r1,List.pairwise_cons.mpr ⟨hgt,r2⟩,fun a ha b hb=>?_⟩
 rcases qr hb with rfl | hb
 ·exact h2 a ha
 ·exact Nat.lt_trans (h2 a ha) (hgt b hb)
theorem Ypb{t:SetTable}{j:Nat}(h:∀i,t.slot j≠.live i):t.place[SetTable.below t.place j]?≠some j:=fun z=>by
 refine h (SetTable.below t.place j) ?_
 unfold SetTable.slot
 dsimp only
 rw[z]
 simp
theorem Yfw{t:SetTable}{ha:Nat->Int}{h:Int}:∀(fuel:Nat) (p:SetTable.Probe) {j:Nat} {d:Option Nat},(∀x,p.dummy=some x->∀i,t.slot x≠.live i)->
 SetTable.probe.go t ha h fuel p=some (.empty j d)->∀i,t.slot (d.getD j)≠.live i
 | 0,p,j,d,_,e=>by rw[SetTable.probe.go]at e;cases e
 | fuel+1,p,j,d,hd,e=>by
   rw[SetTable.probe.go]at e
   split at e
   ·rename_i hs
    cases e
    intro i
    cases hp:p.dummy with
    | none=>rw[Option.getD_none,hs];exact fun z=>nomatch z
    | some x=>exact hd x hp i
   ·rename_i hs
    refine Yfw fuel _ (fun x hx i=>?_) e
    have hx':x=p.j:=by
     unfold SetTable.advance at hx
     split at hx
     ·exact(Option.some.inj hx).symm
     ·exact(Option.some.inj hx).symm
    rw[hx',hs]
    exact fun z=>nomatch z
   ·split at e
    ·cases e
    ·refine Yfw fuel _ (fun x hx i=>hd x ?_ i) e
     unfold SetTable.advance at hx
     split at hx
     ·exact hx
     ·exact hx
def Tab(bt:Bool)(t:SetTable):Prop:=(bt=false->t.led=true)/\(t.plain=true->Rise t.place)
theorem Tab.standIn{bt:Bool}{t:SetTable}(h:Tab bt t)(n:Nat):Tab bt (t.standIn n):=⟨h.1,fun z=>nomatch z⟩
theorem Tab.off{bt:Bool}{t:SetTable}(h:Tab bt t):Tab bt { t with plain:=false }:=⟨h.1,fun z=>nomatch z⟩
theorem Tab.fresh{bt:Bool}:Tab bt (.fresh 0 0 (!bt)):=⟨fun h=>by subst h;rfl,fun _=>.nil⟩
theorem Tab.layNew{bt:Bool}{t:SetTable}(h:Tab bt t)(es:Array (Int × Value))(hh:Int)(x:Value):Tab bt (PySem.layNew t es hh x).2.1:=by
 unfold PySem.layNew
 split
 ·rename_i slot wd hf
  dsimp only
  unfold SetTable.orStandIn
  split
  ·refine⟨h.1,fun z=>?_⟩
   refine Yly (h.2 z) slot (Ypb ?_)
   unfold SetTable.freeSlot at hf
   split at hf
   ·rename_i j dummy hp
    cases hf
    exact Yfw _ _ (fun x hx=>by simp[SetTable.probeStart]at hx) hp
   ·cases hf
  ·exact⟨h.1,fun z=>nomatch z⟩
 ·exact h.standIn _
theorem Ypc{mask finger moves:Nat}{led plain:Bool}{hs:Array Int}{t:SetTable}{o:Array Nat}(h:SetTable.laid mask finger moves led plain hs=some (t,o)):Rise t.place/\t.led=led/\t.plain=plain:=by
 unfold SetTable.laid at h
 obtain⟨owner,_,h⟩:=qa h
 cases h
 refine⟨?_,rfl,rfl⟩
 unfold Rise
 show(((List.range (mask+1)).filterMap fun j=>(owner.getD j none).map (j,·)).map (·.1)).Pairwise (· < ·)
 rw[List.map_filterMap]
 refine List.Pairwise.filterMap _ (fun a b hab x hx y hy=>?_) List.pairwise_lt_range
 simp at hx hy
 obtain⟨_,_,rfl⟩:=hx
 obtain⟨_,_,rfl⟩:=hy
 exact hab
theorem Tab.relayAll{bt:Bool}{t:SetTable}(h:Tab bt t)(es:Array (Int × Value))(n:Nat):Tab bt (PySem.relayAll t es n).2.1:=by
 unfold PySem.relayAll
 split
 ·rename_i t' order hr
  obtain⟨h1,h2,h3⟩:=Ypc hr
  dsimp only
  split
  ·exact⟨fun z=>by rw[h2];exact h.1 z,fun _=>h1⟩
  ·exact h.standIn _
 ·exact h.standIn _
end
end
section
section
variable {prog:Program} {w:World} {A:Around} {E:Value->Shared->Prop} {s:Shared}
def kOf(e:Int × Value):Int:=match e.2 with
 | .int n _=>n
 | _=>0
abbrev byT(w:World):Bool:=w.params.followText "set-order"
def SetI(prog:Program)(w:World)(h:Heap)(a:Addr)(ns:List Int):Prop:=
 ∃o es ep t,h.get? a=some o/\o.ExactSet/\o.data=.set es ep t/\ElemsOf (intKind prog w) es.toList/\es.toList.map kOf=ns/\ns.Nodup/\es.size < scanBound/\t.fits es.size=true/\Tab (byT w) t
theorem Ytg{k:Int}{e:Int × Value}(h:(intKind prog w).is k e.2=true):kOf e=k:=by
 obtain⟨t,ht⟩:=Value.isInt_shape h
 unfold kOf
 rw[ht]
theorem Ymz{es:List (Int × Value)}(h:ElemsOf (intKind prog w) es){e:Int × Value}(he:e∈es):∃t,e=(hashInt (kOf e),.int (kOf e) t):=by
 obtain⟨⟨k,hk,hh⟩,_⟩:=h e he
 have hk':=Ytg hk
 obtain⟨t,ht⟩:=Value.isInt_shape hk
 refine⟨t,?_⟩
 rw[hk']
 exact Prod.ext hh ht
theorem SetI.at{h h':Heap}{a:Addr}{ns:List Int}(x:SetI prog w h a ns)(e:∀o,h.get? a=some o->h'.get? a=some o):SetI prog w h' a ns:=
 let ⟨o,es,ep,t,ho,r⟩:=x
 ⟨o,es,ep,t,e o ho,r⟩
theorem SetI.len{h:Heap}{a:Addr}{ns:List Int}(x:SetI prog w h a ns):ns.length < scanBound:=by
 obtain⟨o,es,ep,t,ho,hex,hd,hel,hns,hnd,hb,_⟩:=x
 rw[<-hns,qe,qi]
 exact hb
theorem Ypd{h:Heap}{a:Addr}{o:Obj}{es:Array (Int × Value)}{ep:Nat}{t:SetTable}(ho:h.get? a=some o)(hd:o.data=.set es ep t)(es':Array (Int × Value))(t':SetTable) :
 (h.update a (Obj.putSet es' t')).get? a=some { o with data:=.set es' (ep+1) t' }:=by
 have:=Heap.get?_update_self (Obj.putSet es' t') ho (by rw[putSet_of es' t' hd];rfl)
 rw[putSet_of es' t' hd]at this
 exact this
theorem Ym0{g:Bool->Sem Unit}(hg:∀(b:Bool) (s₁:Shared) (Q':Unit->Shared->Prop),Q' () s₁->wpAny (model prog w) A (g b) Q' E s₁)
 {a:Addr} {o:Obj} {es:Array (Int × Value)} {ep:Nat} {t:SetTable} (ho:s.heap.get? a=some o) (hex:o.ExactSet) (hd:o.data=.set es ep t)
 {es1:Array (Int × Value)} {t2:SetTable} {ms:List Int} (hel1:ElemsOf (intKind prog w) es1.toList) (hms:(es1.toList.map kOf).Perm ms) (hnd:ms.Nodup)
 (hb1:es1.size < scanBound) (hf2:t2.fits es1.size=true) (ht2:Tab (byT w) t2) {wasDummy:Bool} {R:Option Bool->Shared->Prop}
 (h:∀h' ns',Heap.SameBut a s.heap h'->SetI prog w h' a ns'->ns'.Perm ms->R (some true) { s with heap:=h' }) :
 wpAny (model prog w) A (do
  storeSet a es1 t2
  if (!wasDummy&&t2.tooFull)=true then do
      g (relayAll t2 es1 (SetTable.grown es1.size)).2.2
      storeSet a (relayAll t2 es1 (SetTable.grown es1.size)).1 (relayAll t2 es1 (SetTable.grown es1.size)).2.1
      pure (some true)
   else pure (some true)) R E s:=by
 refine wpAny_bind (wpAny_storeSet_of ho hd ?_ (fits_of_scanBound hb1))
 have ho1:=Ypd ho hd es1 t2
 have hsb1:=Heap.SameBut.update s.heap a (Obj.putSet es1 t2)
 split
 ·have hp:=relayAll_perm t2 es1 (SetTable.grown es1.size)
  have hfr:=relayAll_fits t2 es1 (SetTable.grown es1.size)
  have htr:=ht2.relayAll es1 (SetTable.grown es1.size)
  generalize hRl:relayAll t2 es1 (SetTable.grown es1.size)=Rl at hp hfr htr ⊢
  obtain⟨es2,t3,gave2⟩:=Rl
  dsimp only at hp hfr htr ⊢
  have hel2:ElemsOf (intKind prog w) es2.toList:=hel1.perm hp
  have hsz:es2.size=es1.size:=by rw[<-qi,hp.length_eq,qi]
  have hb2:es2.size < scanBound:=by rw[hsz];exact hb1
  have hp2:=(hp.map kOf).trans hms
  refine wpAny_bind (hg _ _ _ ?_)
  refine wpAny_bind (wpAny_storeSet_of ho1 rfl ?_ (fits_of_scanBound hb2))
  have ho2:=Ypd ho1 rfl es2 t3
  exact wpAny_pure (h _ _ (hsb1.trans (Heap.SameBut.update _ a _)) ⟨_,es2,_,t3,ho2,hex,rfl,hel2,rfl,hp2.nodup_iff.mpr hnd,hb2,hfr,htr⟩ hp2)
 ·exact wpAny_pure (h _ _ hsb1 ⟨_,es1,_,t2,ho1,hex,rfl,hel1,rfl,hms.nodup_iff.mpr hnd,hb1,hf2,ht2⟩ hms)
theorem Yui{a:Addr}{ns:List Int}{k:Int}{u:Tok}{Q:Bool->Shared->Prop}(hS:SetI prog w s.heap a ns)(hroom:ns.length+1 < scanBound)
 (h:∀h' ns',Heap.SameBut a s.heap h'->SetI prog w h' a ns'->ns'.Perm (if k∈ns then ns else ns++[k])->Q (!decide (k∈ns)) { s with heap:=h' }) :
 wpAny (model prog w) A (setAddHashed a (.int k u) (hashInt k)) Q E s:=by
 have hS0:=hS
 obtain⟨o,es,ep,t,ho,hex,hd,hel,hns,hnd,hb,hf,ht⟩:=hS
 have hkey:(intKind prog w).is k (.int k u)=true:=intKind_is _ _ _ _
 have hsc:(Value.int k u).scannable=true:=rfl
 have hsz:es.size=ns.length:=by rw[<-hns,qe,qi]
 unfold setAddHashed setAddHashedIn
 refine wpAny_holding (wpAny_bind (wpAny_setState_of ho hd hf ?_))
 dsimp only
 rw[byScan_of hsc hb hel]
 simp only[↓reduceIte]
 unfold setAddByScan
 refine wpAny_bind ?_
 refine wpAny_bind (wpAny_rule ?_)
 refine wpAny_bind (wpAny_setScan_of (knd:=intKind prog w) (k:=k) hkey ho hd hf hel ?_)
 cases hr:List.findIdx? (fun e=>(intKind prog w).is k e.2) es.toList with
 | some j=>
   dsimp only
   obtain⟨hj,hpj,_⟩:=List.findIdx?_eq_some_iff_getElem.mp hr
   have hk:k∈ns:=by
    rw[<-hns,<-Ytg hpj]
    exact List.mem_map_of_mem (List.getElem_mem hj)
   refine wpAny_pure (wpAny_pure ?_)
   have e:s={ s with heap:=s.heap }:=by cases s;rfl
   have:=h s.heap ns (Heap.SameBut.refl a s.heap) hS0 (by rw[if_pos hk])
   rw[decide_eq_true hk]at this
   rw[e];exact this
 | none=>
   dsimp only
   have hk:k∉ns:=fun hk=>by
    rw[<-hns]at hk
    obtain⟨e,he,hke⟩:=qv hk
    have h1:=List.findIdx?_eq_none_iff.mp hr e he
    obtain⟨t',ht'⟩:=Ymz hel he
    rw[ht',hke]at h1
    have h2:(intKind prog w).is k (.int k t')=true:=intKind_is _ _ _ _
    rw[h2]at h1
    exact Bool.noConfusion h1
   have hgw:∀(b:Bool) {s₁:Shared} {Q':Unit->Shared->Prop},Q' () s₁->wpAny (model prog w) A (match b with | true=>rule "set.scan.the-table-gave-way" | false=>pure ()) Q' E s₁:=
    fun b s₁ Q' hq=>by cases b<;>first | exact wpAny_pure hq | exact wpAny_rule hq
   have hperm:=layNew_perm t es (hashInt k) (.int k u)
   have hfits:=layNew_fits t es (hashInt k) (.int k u)
   have htab:=ht.layNew es (hashInt k) (.int k u)
   show wpAny (model prog w) A (do
    let (es,t,wasDummy,gave):=PySem.layNew t es (hashInt k) (.int k u)
    _) _ _ _
   generalize hL:layNew t es (hashInt k) (.int k u)=L at hperm hfits htab ⊢
   obtain⟨es1,t1,wasDummy,gave⟩:=L
   dsimp only at hperm hfits htab ⊢
   rw[Array.toList_push]at hperm
   have hel1:ElemsOf (intKind prog w) es1.toList:=(hel.push (knd:=intKind prog w) (k:=k) hkey hsc).perm hperm
   have hb1':es1.size < scanBound:=by rw[<-qi,hperm.length_eq,qw,qi];simp;lia
   have hms:(es1.toList.map kOf).Perm (ns++[k]):=by
    have:=hperm.map kOf
    rw[List.map_append,hns]at this
    exact this
   have hnd1:(ns++[k]).Nodup:=by
    rw[List.nodup_append]
    refine⟨hnd,by simp,fun x hx y hy z=>?_⟩
    simp at hy
    subst hy
    exact hk (z ▸ hx)
   have hend:∀h' ns',Heap.SameBut a s.heap h'->SetI prog w h' a ns'->ns'.Perm (ns++[k])->Q true { s with heap:=h' }:=by
    intro h' ns' hsb hS' hp
    have:=h h' ns' hsb hS' (by rw[if_neg hk];exact hp)
    rw[decide_eq_false hk]at this
    exact this
   refine wpAny_bind (hgw _ ?_)
   split
   ·refine wpAny_bind ?_
    rw[hashByValue_scannable 8 hsc]
    refine wpAny_pure ?_
    refine Ym0 ?_ ho hex hd hel1 hms hnd1 hb1' ?_ ?_ ?_
    ·intro b s₁ Q' hq;cases b<;>first | exact wpAny_pure hq | exact wpAny_rule hq
    ·split
     ·exact hfits
     ·exact SetTable.fits_plain_off hfits
    ·split
     ·exact htab
     ·exact htab.off
    ·intro h' ns' hsb hS' hp;dsimp only;exact wpAny_pure (hend h' ns' hsb hS' hp)
   ·refine wpAny_bind (wpAny_pure ?_)
    simp only[↓reduceIte]
    refine Ym0 ?_ ho hex hd hel1 hms hnd1 hb1' hfits htab ?_
    ·intro b s₁ Q' hq;cases b<;>first | exact wpAny_pure hq | exact wpAny_rule hq
    ·intro h' ns' hsb hS' hp;dsimp only;exact wpAny_pure (hend h' ns' hsb hS' hp)
end
def ddup:List Int->List Int->List Int
 | acc,[]=>acc
 | acc,k::r=>ddup (if k∈acc then acc else acc++[k]) r
theorem Yko:∀(r a b:List Int),a.Perm b->(ddup a r).Perm (ddup b r)
 | [],_,_,h=>h
 | k::r,a,b,h=>by
   rw[ddup,ddup]
   refine Yko r _ _ ?_
   by_cases hk:k∈a
   ·rw[if_pos hk,if_pos (h.mem_iff.mp hk)];exact h
   ·rw[if_neg hk,if_neg (fun z=>hk (h.mem_iff.mpr z))];exact h.append_right _
section
variable {prog:Program} {w:World} {A:Around} {R:Result->Shared->Prop} {I:Addr} {fp wr:List Addr} {G:Array GenState->Array GenState->Prop} {n:Nat} {P:Nat->Value->Prop} {St:Nat->Shared->Prop}
theorem Ym1(W:WalksS prog w A.in1 I fp wr G n P St)(S:Addr)(hSf:S∉fp)(ms:List Int)(hn:ms.length=n)
 (hval:∀i v,P i v->∃t,v=.int (ms.getD i 0) t) (hb:n+1 < scanBound) :
 ∀(k i:Nat) (s:Shared) (ns:List Int),n - i=k->i<=n->St i s->ns.length<=i->SetI prog w s.heap S ns->
  (∀s' ns',Moved (S::wr) G s s'->SetI prog w s'.heap S ns'->ns'.Perm (ddup ns (ms.drop i))->R (.ok (.ret .none)) s')->
  codeAny (model prog w) A (.builtin "set.update.loop" ⟨[.ref S,.ref I],[]⟩) R s:=by
 have hSw:S∉wr:=fun h=>hSf (W.sub _ h)
 have hsub:∀b∈wr,b∈S::wr:=fun b hb=>qf _ hb
 intro k
 induction k with
 | zero=>
   intro i s ns hk hi hst hl hS hR
   have hin:i=n:=by lia
   subst hin
   refine codeAny_builtin F.entry_set_update_loop ?_
   rw[Around.under_plainId F.plain_set_update_loop _]
   show wpAny _ A.in1 (pyNext (.ref I) >>= _) _ _ s
   refine wpAny_bind (W.done s _ _ hst fun s' hm=>?_)
   show wpAny _ A.in1 (ret Value.none) _ _ s'
   refine wpAny_pure (hR s' ns (hm.mono hsub) (hS.at fun o e=>hm.heap S _ hSw e) ?_)
   rw[List.drop_of_length_le (by lia),ddup]
 | succ k ih=>
   intro i s ns hk hi hst hl hS hR
   have hlt:i < n:=by lia
   refine codeAny_builtin F.entry_set_update_loop ?_
   rw[Around.under_plainId F.plain_set_update_loop _]
   show wpAny _ A.in1 (pyNext (.ref I) >>= _) _ _ s
   refine wpAny_bind (W.item i s _ _ hlt hst fun v s' hP hst' hm=>?_)
   obtain⟨t,rfl⟩:=hval i v hP
   have hS':SetI prog w s'.heap S ns:=hS.at fun o e=>hm.heap S _ hSw e
   generalize hx:ms.getD i 0=x
   have hdrop:ms.drop i=x::ms.drop (i+1):=by
    rw[List.drop_eq_getElem_cons (by lia),<-hx,List.getD_eq_getElem?_getD,qp (by lia)]
    rfl
   show wpAny _ A.in1 (holding [Value.int x t] (setAdd S (.int x t)) >>= _) _ _ s'
   refine wpAny_bind (wpAny_holding ?_)
   unfold setAdd
   refine wpAny_holding ?_
   refine wpAny_bind ((intKind prog w).pyHash (k:=x) (intKind_is _ _ _ _) ?_)
   refine Yui (s:={ s' with toks:=s'.toks+1 }) hS' (by lia) fun h' ns' hsb hS2 hp=>?_
   have hl2:ns'.length<=i+1:=by
    rw[hp.length_eq]
    split
    ·lia
    ·simp;lia
   refine wpAny_pure ⟨plainId_quiet F.plain_set_update_loop _,ih (i+1) _ ns' (by lia) hlt (W.frame _ s' _ _ hst' (Nat.le_succ _) fun b hb o e=>?_) hl2 hS2 fun s'' ns'' hm'' hS'' hp''=>?_⟩
   ·rw[hsb.2 b (fun h:b=S=>hSf (by rw[<-h];exact hb))];exact e
   ·refine hR s'' ns'' (Moved.trans W.gtrans ((hm.mono hsub).then_heap (Nat.le_succ _) fun b o hb e=>?_) hm'') hS'' ?_
    ·rw[hsb.2 b (fun h:b=S=>hb (by rw[h];exact qg))];exact e
    ·rw[hdrop,ddup]
     exact hp''.trans (Yko _ _ _ hp)
end
end
section
section
variable {prog:Program} {w:World} {A:Around} {E:Value->Shared->Prop} {s:Shared}
theorem Yjj:isSubtype (.type "tuple") (.type "set")=pure false:=by rw[isSubtype_type];kernel_rfl
theorem Ye2:isSubtype (.type "tuple") (.type "frozenset")=pure false:=by rw[isSubtype_type];kernel_rfl
theorem Ydr{T newId initId:String}{Bi:Builtin}{args:List Value}{Q Q₁:Value->Shared->Prop}(ft:TypeCalled T newId initId)
 (hct:checkTypeCall T ⟨args,[]⟩=pure ()) (entryI:entryFor table initId=some Bi)
 (hnew:codeAny (model prog w) A.in1 (.call (.builtin newId) ⟨.type T::args,[]⟩) (wants Q₁ E) s)
 (hnext:∀obj s₁,Q₁ obj s₁->s₁.TypeIs obj T/\(∀(A':Around) (E':Value->Shared->Prop) (Q':Unit->Shared->Prop),Q' () s₁->wpAny (model prog w) A' (checkBuiltinCall initId ⟨obj::args,[]⟩) Q' E' s₁)/\
  wpAny (model prog w) A.in1.in1 (Bi ⟨obj::args,[]⟩)
   (fun fin s'=>match fin with | .done f=>wants (fun r s₂=>r=.none/\Q obj s₂) E (.ok f) s' | .again c'=>c'.quiet=true/\codeAny (model prog w) A.in1 c' (wants (fun r s₂=>r=.none/\Q obj s₂) E) s')
   (fun e s'=>wants (fun r s₂=>r=.none/\Q obj s₂) E (.error e) s') s₁) :
 wpAny (model prog w) A (call (.type T) args) Q E s:=by
 obtain⟨c,tl,hmro⟩:=ft.mro
 have hmade:=ft.made
 have hsub:=ft.sub
 refine wpAny_call (codeAny_of_tree ?_)
 show wpAny _ _ (callAny (.type T) _) _ _ _
 refine wpAny_pure ⟨Code.quiet_builtin _ (by decide +kernel),codeAny_builtin F.entry_type_call ?_⟩
 rw[Around.under_plain (weight_type_call_type T args []) rfl]
 have h1:=ft.notType
 have h2:=ft.canCreate
 repeat (any_goals (first | assumption | wp_step))
 refine codeAny_mono hnew fun r s₁ hr=>?_
 cases r with
 | error e=>exact hr
 | ok fl=>
   cases fl with
   | ret obj=>
     obtain⟨hT,hok,hsi⟩:=hnext _ _ hr
     have hli:=ft.init.lookup
     have hbi:=ft.init.bind obj
     repeat (any_goals (first | assumption | wp_step))
     refine codeAny_mono (codeAny_call_builtin ft.init.plain entryI (hok _ _ _ hsi)) fun r₂ s₂ hr₂=>?_
     cases r₂ with
     | error e=>exact hr₂
     | ok fl₂=>
       cases fl₂ with
       | ret r=>
         obtain⟨rfl,hq⟩:=hr₂
         repeat (any_goals (first | assumption | wp_step))
       | _=>exact hr₂.elim
   | _=>exact hr.elim
abbrev emS(w:World):Obj:={ cls:=.type "set",dict:=none,data:=.set #[] 0 (.fresh 0 0 (!byT w)) }
theorem Ykp(a:Value){Q₁:Value->Shared->Prop}(h:Q₁ (.ref s.heap.objs.size) { s with heap:=s.heap.push (emS w) }) :
 codeAny (model prog w) A (.call (.builtin "set.__new__") ⟨[.type "set",a],[]⟩) (wants Q₁ E) s:=by
 refine codeAny_of_tree ?_
 show wpAny _ A.in1 (do checkBuiltinCall "set.__new__" ⟨[.type "set",a],[]⟩;again (.builtin "set.__new__" ⟨[.type "set",a],[]⟩)) _ _ s
 refine wpAny_bind (wpAny_of_eq (F.newCall_set_1 a) (wpAny_pure ⟨plainId_quiet F.plain_set_new _,codeAny_builtin F.entry_set_new ?_⟩))
 rw[Around.under_plainId F.plain_set_new _]
 unfold Builtin.«set.__new__» Builtin.Frozenset.newClass
 have hsub:=sub_set_self
 obtain⟨hp,g,d,tk,os⟩:=s
 dsimp only
 wp_walk
 refine wpAny_askSetting (wpAny_pure ?_)
 dsimp only
 simp only[newObj]
 refine wpAny_bind (wpAny_alloc (wpAny_pure ?_))
 exact wpAny_pure h
set_option maxRecDepth 100000 in
theorem Yjk{l:Addr}{items:Array Value}{ms:List Int}{Q:Value->Shared->Prop}
 (hh:A.handled=none) (hl:s.heap.IsList l items) (hi:IntsAre items.toList ms) (hb:items.size+1 < scanBound)
 (h:∀(h':Heap) (tk:Nat) ns,SetI prog w h' s.heap.objs.size ns->ns.Perm (ddup [] ms)->
  (∀b o,b < s.heap.objs.size->s.heap.get? b=some o->h'.get? b=some o)->Q (.ref s.heap.objs.size) { s with heap:=h',toks:=tk }) :
 wpAny (model prog w) A (call (.type "set") [.ref l]) Q E s:=by
 refine Ydr (Q₁:=fun obj s₁=>obj=.ref s.heap.objs.size/\s₁={ s with heap:=s.heap.push (emS w) }) F.called_set (F.typeCall_set_1 _) F.entry_set_init (Ykp _ ⟨rfl,rfl⟩) ?_
 rintro obj s₁ ⟨rfl,rfl⟩
 have hS:(s.heap.push (emS w)).get? s.heap.objs.size=some (emS w):=qo _ rfl
 have hT:Shared.TypeIs { s with heap:=s.heap.push (emS w) } (.ref s.heap.objs.size) "set":=⟨_,hS,rfl⟩
 refine⟨hT,fun A' E' Q' hq=>check_set_init_1 hT hq,?_⟩
 obtain⟨ol,hol,hcl,nl,hdl⟩:=hl
 obtain⟨ocls,odict,odata,oslots⟩:=ol
 simp only at hcl hdl
 subst hcl;subst hdl
 have hol':(s.heap.push (emS w)).get? l=some { cls:=.type "list",dict:=odict,data:=.seq items nl,slots:=oslots }:=qd _ hol
 have hsls:=F.sub_list_set
 have hslf:=F.sub_list_frozenset
 have hne:(Value.type "list"==Value.type "dict")=false:=by decide
 have hl1:(s.heap.push (emS w)).IsList l items:=⟨_,hol',rfl,nl,rfl⟩
 unfold Builtin.«set.__init__» noKeywords Builtin.Frozenset.updateFrom
 generalize hPI:pyIter=PI
 wp_walk
 subst hPI
 refine wpAny_pyIter_list hl1 ?_
 refine wpAny_bind (wpAny_runValue ?_)
 have hlS:l < s.heap.objs.size:=qk hol
 have hh3:A.in1.in1.in1.handled=none:=by simp[hh]
 have hneI:l≠(s.heap.push (emS w)).objs.size:=by
  rw[Heap.size_push];exact ql (qu hlS)
 have hSf:s.heap.objs.size∉[(s.heap.push (emS w)).objs.size,l]:=by
  rw[Heap.size_push];simp only[List.mem_cons,List.mem_singleton,List.not_mem_nil,or_false,not_or]
  exact⟨ql (qx _),Nat.ne_of_gt hlS⟩
 have hlen:ms.length=items.size:=by have:=IntsAre.length hi;rw[qi]at this;exact this.symm
 have hval:∀(i:Nat) (v:Value),items[i]?=some v->∃t,v=.int (ms.getD i 0) t:=fun i v hv=>
  IntsAre.int_at hi i v (by rw[Array.getElem?_toList];exact hv)
 refine Ym1 ((Walks.list hh3 _ l hneI items).toS) s.heap.objs.size hSf ms hlen hval hb (items.size - 0) 0 _ [] (by lia) (Nat.zero_le _)
  ⟨⟨_,qo _ rfl,rfl,rfl⟩,(hl1.push _)⟩ (qs _) ?hS0 ?hR
 case hS0=>
  have hget:((s.heap.push (emS w)).push { cls:=.type "list_iterator",data:=.fields #[.ref l,.int 0 0] }).get? s.heap.objs.size=some (emS w):=qd _ hS
  exact⟨emS w,#[],0,_,hget,⟨rfl,rfl,rfl⟩,rfl,fun e he=>by simp at he,rfl,.nil,by decide,rfl,.fresh⟩
 case hR=>
  intro s' ns' hm hS' hp'
  obtain⟨h',g',d',tk',os'⟩:=s'
  have eg:g'=s.gens:=hm.gens
  have ed:d'=s.drawn:=hm.drawn
  have eo:os'=s.os:=hm.os
  subst eg;subst ed;subst eo
  show wpAny _ _ _ _ _ _
  refine wpAny_pure ?_
  show wpAny _ _ (ret Value.none) _ _ _
  refine wpAny_pure ⟨rfl,h h' tk' ns' hS' hp' fun b o hb e=>?_⟩
  have hb1:b≠s.heap.objs.size:=ql hb
  have hb2:b≠(s.heap.push (emS w)).objs.size:=by
   rw[Heap.size_push];exact ql (qu hb)
  exact hm.heap b o (by simp only[List.mem_cons,List.mem_singleton,List.not_mem_nil,or_false,not_or];exact⟨hb1,hb2⟩) (qd _ (qd _ e))
set_option maxRecDepth 100000 in
theorem Yh9{l:Addr}{items:Array Value}{ms:List Int}{Q:Value->Shared->Prop}
 (hh:A.handled=none) (hl:s.heap.IsTuple l items) (hi:IntsAre items.toList ms) (hb:items.size+1 < scanBound)
 (h:∀(h':Heap) (tk:Nat) ns,SetI prog w h' s.heap.objs.size ns->ns.Perm (ddup [] ms)->
  (∀b o,b < s.heap.objs.size->s.heap.get? b=some o->h'.get? b=some o)->Q (.ref s.heap.objs.size) { s with heap:=h',toks:=tk }) :
 wpAny (model prog w) A (call (.type "set") [.ref l]) Q E s:=by
 refine Ydr (Q₁:=fun obj s₁=>obj=.ref s.heap.objs.size/\s₁={ s with heap:=s.heap.push (emS w) }) F.called_set (F.typeCall_set_1 _) F.entry_set_init (Ykp _ ⟨rfl,rfl⟩) ?_
 rintro obj s₁ ⟨rfl,rfl⟩
 have hS:(s.heap.push (emS w)).get? s.heap.objs.size=some (emS w):=qo _ rfl
 have hT:Shared.TypeIs { s with heap:=s.heap.push (emS w) } (.ref s.heap.objs.size) "set":=⟨_,hS,rfl⟩
 refine⟨hT,fun A' E' Q' hq=>check_set_init_1 hT hq,?_⟩
 obtain⟨ol,hol,hcl,nl,hdl⟩:=hl
 obtain⟨ocls,odict,odata,oslots⟩:=ol
 simp only at hcl hdl
 subst hcl;subst hdl
 have hol':(s.heap.push (emS w)).get? l=some { cls:=.type "tuple",dict:=odict,data:=.seq items nl,slots:=oslots }:=qd _ hol
 have hsls:=Yjj
 have hslf:=Ye2
 have hne:(Value.type "tuple"==Value.type "dict")=false:=by decide
 have hl1:(s.heap.push (emS w)).IsTuple l items:=⟨_,hol',rfl,nl,rfl⟩
 unfold Builtin.«set.__init__» noKeywords Builtin.Frozenset.updateFrom
 generalize hPI:pyIter=PI
 wp_walk
 subst hPI
 refine wpAny_pyIter_tuple hl1 ?_
 refine wpAny_bind (wpAny_runValue ?_)
 have hlS:l < s.heap.objs.size:=qk hol
 have hh3:A.in1.in1.in1.handled=none:=by simp[hh]
 have hneI:l≠(s.heap.push (emS w)).objs.size:=by
  rw[Heap.size_push];exact ql (qu hlS)
 have hSf:s.heap.objs.size∉[(s.heap.push (emS w)).objs.size,l]:=by
  rw[Heap.size_push];simp only[List.mem_cons,List.mem_singleton,List.not_mem_nil,or_false,not_or]
  exact⟨ql (qx _),Nat.ne_of_gt hlS⟩
 have hlen:ms.length=items.size:=by have:=IntsAre.length hi;rw[qi]at this;exact this.symm
 have hval:∀(i:Nat) (v:Value),items[i]?=some v->∃t,v=.int (ms.getD i 0) t:=fun i v hv=>
  IntsAre.int_at hi i v (by rw[Array.getElem?_toList];exact hv)
 refine Ym1 ((Walks.tuple hh3 _ l hneI items).toS) s.heap.objs.size hSf ms hlen hval hb (items.size - 0) 0 _ [] (by lia) (Nat.zero_le _)
  ⟨⟨_,qo _ rfl,rfl,rfl⟩,(⟨_,qd _ hol',rfl,nl,rfl⟩)⟩ (qs _) ?hS0 ?hR
 case hS0=>
  have hget:((s.heap.push (emS w)).push { cls:=.type "tuple_iterator",data:=.fields #[.ref l,.int 0 0] }).get? s.heap.objs.size=some (emS w):=qd _ hS
  exact⟨emS w,#[],0,_,hget,⟨rfl,rfl,rfl⟩,rfl,fun e he=>by simp at he,rfl,.nil,by decide,rfl,.fresh⟩
 case hR=>
  intro s' ns' hm hS' hp'
  obtain⟨h',g',d',tk',os'⟩:=s'
  have eg:g'=s.gens:=hm.gens
  have ed:d'=s.drawn:=hm.drawn
  have eo:os'=s.os:=hm.os
  subst eg;subst ed;subst eo
  show wpAny _ _ _ _ _ _
  refine wpAny_pure ?_
  show wpAny _ _ (ret Value.none) _ _ _
  refine wpAny_pure ⟨rfl,h h' tk' ns' hS' hp' fun b o hb e=>?_⟩
  have hb1:b≠s.heap.objs.size:=ql hb
  have hb2:b≠(s.heap.push (emS w)).objs.size:=by
   rw[Heap.size_push];exact ql (qu hb)
  exact hm.heap b o (by simp only[List.mem_cons,List.mem_singleton,List.not_mem_nil,or_false,not_or];exact⟨hb1,hb2⟩) (qd _ (qd _ e))
end
end
section
theorem Yit{α:Type}{l:List α}{i:Nat}(h:i < l.length):(l[i]::l.eraseIdx i).Perm l:=by
 rw[List.eraseIdx_eq_take_drop_succ]
 have e:l=l.take i++l[i]::l.drop (i+1):=by
  rw[<-List.drop_eq_getElem_cons h,List.take_append_drop]
 conv=>rhs;rw[e]
 exact List.perm_middle.symm
theorem Ype{α:Type}(next:Nat->Nat):∀(fuel k:Nat) (left:List α) (out:Array α),left.length=fuel->(pickOrder.go next fuel k left out).toList.Perm (out.toList++left)
 | 0,k,left,out,h=>by
   rw[pickOrder.go]
   rw[List.length_eq_zero_iff.mp h,List.append_nil]
 | fuel+1,k,left,out,h=>by
   rw[pickOrder.go]
   have hlt:next k % left.length < left.length:=Nat.mod_lt _ (by lia)
   rw[qp hlt]
   dsimp only
   refine(Ype next fuel (k+1) _ _ (by rw[List.length_eraseIdx_of_lt hlt];lia)).trans ?_
   rw[Array.toList_push,List.append_assoc]
   exact(Yit hlt).append_left _
theorem Ypf{α:Type}(next:Nat->Nat)(xs:Array α):(pickOrder next xs).toList.Perm xs.toList:=by
 have:=Ype next xs.size 0 xs.toList #[] (by simp)
 simpa [pickOrder]using this
section
variable {prog:Program} {w:World} {A:Around} {E:Value->Shared->Prop}
theorem Yn6{src:Source}{n:Nat}{Q:Nat->Shared->Prop}{s:Shared}(hn:0 < n)(h:∀i d',i < n->Q i { s with drawn:=d' }):wpAny (model prog w) A (choose src n) Q E s:=by
 intro Γ p hΓ
 unfold choose
 rw[Sem.wp_choose]
 refine⟨by lia,?_⟩
 rw[Sem.wp_pure]
 exact h _ _ (Nat.mod_lt _ hn)
theorem Yiu{α:Type}:∀(n:Nat) (xs:List α) (s:Shared) (Q:List α->Shared->Prop),xs.length=n->(∀ys d',ys.Perm xs->Q ys { s with drawn:=d' })->wpAny (model prog w) A (drawOrder n xs) Q E s
 | 0,xs,s,Q,h,hQ=>by
   rw[List.length_eq_zero_iff.mp h]at hQ ⊢
   show wpAny _ _ (pure _) _ _ _
   exact wpAny_pure (hQ [] s.drawn .nil)
 | n+1,[],s,Q,h,hQ=>by simp at h
 | n+1,x::xs,s,Q,h,hQ=>by
   show wpAny _ _ (_ >>= _) _ _ _
   refine wpAny_bind (Yn6 (by simp) fun i d' hi=>?_)
   rw[qp hi]
   dsimp only
   refine wpAny_bind (Yiu n _ _ _ (by rw[List.length_eraseIdx_of_lt hi];lia) fun ys d2 hp=>?_)
   refine wpAny_pure (hQ _ d2 ((hp.cons _).trans ?_))
   exact Yit hi
end
end
section
set_option maxRecDepth 100000
theorem Ym2:Manifest.owners.lookup (String.ofList ['r','o','t','a','r','e','t','i','_','t','e','s'].reverse)=some Manifest.sig_set_iterator:=by kernel_rfl
theorem slot_si_next:Slot "set_iterator" "__next__" "set_iterator.__next__":=
 .of (owner:="set_iterator") (n:="__next__") (by rw[typeLookup_type,builtinLookup_eq_fast];kernel_rfl) (by decide +kernel) (by decide +kernel) (by decide +kernel)
  (by first | exact .inl (by decide +kernel) | exact .inr (by decide +kernel)) (by rw[isSubtype_type];kernel_rfl)
theorem Ych:entryFor table "set_iterator.__next__"=some Builtin.«set_iterator.__next__»:=entryFor_of_tree (by kernel_rfl)
theorem Ycx(a:Value):argsOk "set_iterator.__next__" ⟨[a],[]⟩:=by
 unfold argsOk;rw[signature?_of (id:="set_iterator.__next__") (n:=['_','_','t','x','e','n','_','_']) (o:=['r','o','t','a','r','e','t','i','_','t','e','s']) (by kernel_rfl) Ym2];kernel_rfl
theorem Yf8:Slot "set_iterator" "__iter__" "set_iterator.__iter__":=
 .of (owner:="set_iterator") (n:="__iter__") (by rw[typeLookup_type,builtinLookup_eq_fast];kernel_rfl) (by decide +kernel) (by decide +kernel) (by decide +kernel)
  (by first | exact .inl (by decide +kernel) | exact .inr (by decide +kernel)) (by rw[isSubtype_type];kernel_rfl)
theorem Ykq(a:Value):argsOk "set_iterator.__iter__" ⟨[a],[]⟩:=by
 unfold argsOk;rw[signature?_of (id:="set_iterator.__iter__") (n:=['_','_','r','e','t','i','_','_']) (o:=['r','o','t','a','r','e','t','i','_','t','e','s']) (by kernel_rfl) Ym2];kernel_rfl
theorem Yjl:entryFor table "set_iterator.__iter__"=some Builtin.«dict_keyiterator.__iter__»:=
 entryFor_alias (id':="dict_keyiterator.__iter__") (by kernel_rfl) (by first | rfl | decide +kernel | (unfold String.splitOn;simp +decide [String.splitOnAux])) (by decide +kernel) (by kernel_rfl)
theorem Yia:entryFor table "set.__iter__"=some Builtin.«frozenset.__iter__»:=
 entryFor_alias (id':="frozenset.__iter__") (by kernel_rfl) (by first | rfl | decide +kernel | (unfold String.splitOn;simp +decide [String.splitOnAux])) (by decide +kernel) (by kernel_rfl)
def SIt(h:Heap)(I:Addr)(first:Value)(i:Nat)(a:Addr)(n ep:Nat):Prop:=∃o,h.get? I=some o/\o.cls=.type "set_iterator"/\o.data=.fields #[first,.int i 0,.ref a,.int n 0,.int ep 0]
def SAt(h:Heap)(a:Addr)(es:Array (Int × Value))(ep:Nat)(t:SetTable):Prop:=∃o,h.get? a=some o/\o.ExactSet/\o.data=.set es ep t/\t.fits es.size=true
theorem SIt.at{h h':Heap}{I a:Addr}{f:Value}{i n ep:Nat}(x:SIt h I f i a n ep)(e:∀o,h.get? I=some o->h'.get? I=some o):SIt h' I f i a n ep:=let ⟨o,ho,r⟩:=x;⟨o,e o ho,r⟩
theorem SAt.at{h h':Heap}{a:Addr}{es:Array (Int × Value)}{ep:Nat}{t:SetTable}(x:SAt h a es ep t)(e:∀o,h.get? a=some o->h'.get? a=some o):SAt h' a es ep t:=let ⟨o,ho,r⟩:=x;⟨o,e o ho,r⟩
theorem SIt.typeIs{s:Shared}{I a:Addr}{f:Value}{i n ep:Nat}(x:SIt s.heap I f i a n ep):s.TypeIs (.ref I) "set_iterator":=let ⟨o,ho,hc,_⟩:=x;⟨o,ho,hc⟩
section
variable {prog:Program} {w:World} {A:Around} {E:Value->Shared->Prop} {s:Shared}
theorem Ypg{I a:Addr}{f:Value}{i n ep:Nat}{Q:Value->Shared->Prop}(hit:SIt s.heap I f i a n ep)(h:Q (.ref I) s):wpAny (model prog w) A (pyIter (.ref I)) Q E s:=by
 refine wpAny_pyIter_slot hit.typeIs Yf8 (wpAny_call_entry Yf8 hit.typeIs Yjl ?_ (Ykq _))
 show wpAny _ _ (ret (.ref I)) _ _ s
 exact wpAny_pure ⟨_,rfl,"set_iterator",_,hit.typeIs,slot_si_next.lookup,h⟩
theorem Yuj{I a:Addr}{sl i ep nx:Nat}{es:Array (Int × Value)}{t:SetTable}{x:Value}{Q:Option Value->Shared->Prop}(hit:SIt s.heap I (.int sl 0) i a es.size ep)(ha:SAt s.heap a es ep t)
 (hn:∀(A':Around) (Q':Option (Value × Nat)->Shared->Prop) (E':Value->Shared->Prop),Q' (some (x,nx)) s->wpAny (model prog w) A' (setNext a sl i ep) Q' E' s)
 (hQ:∀h',SIt h' I (.int nx 0) (i+1) a es.size ep->Heap.SameBut I s.heap h'->Q (some x) { s with heap:=h' }):wpAny (model prog w) A (pyNext (.ref I)) Q E s:=by
 obtain⟨o,ho,hc,hd⟩:=id hit
 obtain⟨oa,hoa,hexa,hda,hfa⟩:=ha
 unfold pyNext
 refine wpAny_bind (wpAny_attempt (wpAny_callSpecial?_slot (name:=Str.ofString "__next__") hit.typeIs slot_si_next (wpAny_call_entry slot_si_next hit.typeIs Ych ?_ (Ycx _))))
 show wpAny _ _ (fieldsOf (.ref I) >>= _) _ _ s
 refine wpAny_bind (wpAny_fieldsOf ho hd ?_)
 show wpAny _ _ (setEntries a >>= _) _ _ s
 refine wpAny_bind (wpAny_setEntries_of hoa hda hfa ?_)
 rw[if_neg (by simp)]
 show wpAny _ _ (setNext a sl i ep >>= _) _ _ s
 refine wpAny_bind (hn _ _ _ ?_)
 show wpAny _ _ (setField (.ref I) 0 (rawInt nx) >>= _) _ _ s
 refine wpAny_bind (wpAny_setField ho hd (by simp) ?_)
 have ho1:=Heap.get?_update_self (Obj.mapFields (·.setIfInBounds 0 (rawInt nx))) ho (Obj.isFreed_of_fields (Obj.data_mapFields hd _))
 have hd1:=Obj.data_mapFields hd (·.setIfInBounds 0 (rawInt nx))
 show wpAny _ _ (setField (.ref I) 1 (rawInt (i+1)) >>= _) _ _ _
 refine wpAny_bind (wpAny_setField (s:={ s with heap:=s.heap.update I (Obj.mapFields (·.setIfInBounds 0 (rawInt nx))) }) ho1 hd1 (by simp) (wpAny_pure ⟨x,rfl,wpAny_pure (hQ _ ?_ ((Heap.SameBut.update ..).trans (Heap.SameBut.update ..)))⟩))
 exact⟨_,Heap.get?_update_self _ ho1 (Obj.isFreed_of_fields (Obj.data_mapFields hd1 _)),(Obj.cls_mapFields ..).trans ((Obj.cls_mapFields ..).trans hc),by
  rw[Obj.data_mapFields hd1];simp[rawInt]⟩
theorem Yuk{I a:Addr}{sl i ep:Nat}{es:Array (Int × Value)}{t:SetTable}{Q:Option Value->Shared->Prop}(hh:A.handled=none)(hit:SIt s.heap I (.int sl 0) i a es.size ep)(ha:SAt s.heap a es ep t)
 (hn:∀(A':Around) (Q':Option (Value × Nat)->Shared->Prop) (E':Value->Shared->Prop),Q' none s->wpAny (model prog w) A' (setNext a sl i ep) Q' E' s)
 (hQ:∀h',Heap.ExtBut I s.heap h'->Q none { s with heap:=h' }):wpAny (model prog w) A (pyNext (.ref I)) Q E s:=by
 obtain⟨o,ho,hc,hd⟩:=id hit
 obtain⟨oa,hoa,hexa,hda,hfa⟩:=ha
 unfold pyNext
 refine wpAny_bind (wpAny_attempt (wpAny_callSpecial?_slot (name:=Str.ofString "__next__") hit.typeIs slot_si_next (wpAny_call_entry slot_si_next hit.typeIs Ych ?_ (Ycx _))))
 show wpAny _ _ (fieldsOf (.ref I) >>= _) _ _ s
 refine wpAny_bind (wpAny_fieldsOf ho hd ?_)
 show wpAny _ _ (setEntries a >>= _) _ _ s
 refine wpAny_bind (wpAny_setEntries_of hoa hda hfa ?_)
 rw[if_neg (by simp)]
 show wpAny _ _ (setNext a sl i ep >>= _) _ _ s
 refine wpAny_bind (hn _ _ _ ?_)
 show wpAny _ _ (setField (.ref I) 2 .none >>= _) _ _ s
 refine wpAny_bind (wpAny_setField ho hd (by simp) ?_)
 show wpAny _ _ (newExc (.type "StopIteration") [] >>= _) _ _ _
 refine wpAny_bind ?_
 simp only[newExc,newTuple]
 refine wpAny_bind (wpAny_newObj_type ?_ (by size_fits))
 refine wpAny_bind (m:=firstArgMember _ _) (wpAny_of_eq (a:=Value.none) (by first | rfl | (simp only[firstArgMember];rfl)) ?_)
 refine wpAny_newObj_type ?_ (by size_fits)
 simp only[raiseNew]
 refine wpAny_bind (wpAny_handled ?_)
 first | rw[show A.in1.handled=none from hh] | rw[hh]
 refine wpAny_bind (wpAny_pure (wpAny_throw ?_))
 refine wpAny_bind (wpAny_isInstance (T:="StopIteration") (b:=true) ⟨_,qo _ rfl,rfl⟩ isSubtype_stop ?_)
 exact wpAny_pure (hQ _ (((Heap.SameBut.update ..).extBut.push _).push _))
theorem Yr1{I a T:Addr}{i j ep:Nat}{pl:Array Value}{tk:Tok}{es:Array (Int × Value)}{t:SetTable}{e:Int × Value}{Q:Option Value->Shared->Prop}(hit:SIt s.heap I (.ref T) i a es.size ep)(ha:SAt s.heap a es ep t)
 (hT:s.heap.IsTuple T pl) (hp:pl[i]?=some (.int j tk)) (he:es[j]?=some e)
 (hQ:∀h',SIt h' I (.ref T) (i+1) a es.size ep->Heap.SameBut I s.heap h'->Q (some e.2) { s with heap:=h' }):wpAny (model prog w) A (pyNext (.ref I)) Q E s:=by
 obtain⟨o,ho,hc,hd⟩:=id hit
 obtain⟨oa,hoa,hexa,hda,hfa⟩:=ha
 obtain⟨ot,hot,_,nt,hdt⟩:=hT
 unfold pyNext
 refine wpAny_bind (wpAny_attempt (wpAny_callSpecial?_slot (name:=Str.ofString "__next__") hit.typeIs slot_si_next (wpAny_call_entry slot_si_next hit.typeIs Ych ?_ (Ycx _))))
 show wpAny _ _ (fieldsOf (.ref I) >>= _) _ _ s
 refine wpAny_bind (wpAny_fieldsOf ho hd ?_)
 show wpAny _ _ (setEntries a >>= _) _ _ s
 refine wpAny_bind (wpAny_setEntries_of hoa hda hfa ?_)
 rw[if_neg (by simp)]
 show wpAny _ _ (seqItems? (.ref T) >>= _) _ _ s
 refine wpAny_bind (wpAny_seqItems hot hdt ?_)
 simp only[Int.toNat_natCast,hp]
 show wpAny _ _ (setNextDrawn a j ep >>= _) _ _ s
 refine wpAny_bind ?_
 unfold setNextDrawn
 refine wpAny_bind (wpAny_setState_of hoa hda hfa ?_)
 dsimp only
 rw[if_neg (by simp)]
 show wpAny _ _ (match es[j]? with | some (_,x)=>pure x | _=>unsupported "internal:set_iterator") _ _ s
 rw[he]
 refine wpAny_pure ?_
 show wpAny _ _ (setField (.ref I) 1 (rawInt (i+1)) >>= _) _ _ _
 refine wpAny_bind (wpAny_setField ho hd (by simp) (wpAny_pure ⟨e.2,rfl,wpAny_pure (hQ _ ?_ (Heap.SameBut.update ..))⟩))
 exact⟨_,Heap.get?_update_self _ ho (Obj.isFreed_of_fields (Obj.data_mapFields hd _)),(Obj.cls_mapFields ..).trans hc,by
  rw[Obj.data_mapFields hd];simp[rawInt]⟩
theorem Yr2{I a T:Addr}{i ep:Nat}{pl:Array Value}{es:Array (Int × Value)}{t:SetTable}{Q:Option Value->Shared->Prop}(hh:A.handled=none)(hit:SIt s.heap I (.ref T) i a es.size ep)(ha:SAt s.heap a es ep t)
 (hT:s.heap.IsTuple T pl) (hp:pl[i]?=none) (hQ:∀h',Heap.ExtBut I s.heap h'->Q none { s with heap:=h' }):wpAny (model prog w) A (pyNext (.ref I)) Q E s:=by
 obtain⟨o,ho,hc,hd⟩:=id hit
 obtain⟨oa,hoa,hexa,hda,hfa⟩:=ha
 obtain⟨ot,hot,_,nt,hdt⟩:=hT
 unfold pyNext
 refine wpAny_bind (wpAny_attempt (wpAny_callSpecial?_slot (name:=Str.ofString "__next__") hit.typeIs slot_si_next (wpAny_call_entry slot_si_next hit.typeIs Ych ?_ (Ycx _))))
 show wpAny _ _ (fieldsOf (.ref I) >>= _) _ _ s
 refine wpAny_bind (wpAny_fieldsOf ho hd ?_)
 show wpAny _ _ (setEntries a >>= _) _ _ s
 refine wpAny_bind (wpAny_setEntries_of hoa hda hfa ?_)
 rw[if_neg (by simp)]
 show wpAny _ _ (seqItems? (.ref T) >>= _) _ _ s
 refine wpAny_bind (wpAny_seqItems hot hdt ?_)
 simp only[Int.toNat_natCast,hp]
 show wpAny _ _ (setField (.ref I) 0 (rawInt 0) >>= _) _ _ s
 refine wpAny_bind (wpAny_setField ho hd (by simp) ?_)
 have ho1:=Heap.get?_update_self (Obj.mapFields (·.setIfInBounds 0 (rawInt 0))) ho (Obj.isFreed_of_fields (Obj.data_mapFields hd _))
 have hd1:=Obj.data_mapFields hd (·.setIfInBounds 0 (rawInt 0))
 show wpAny _ _ (setField (.ref I) 2 .none >>= _) _ _ _
 refine wpAny_bind (wpAny_setField (s:={ s with heap:=s.heap.update I (Obj.mapFields (·.setIfInBounds 0 (rawInt 0))) }) ho1 hd1 (by simp) ?_)
 show wpAny _ _ (newExc (.type "StopIteration") [] >>= _) _ _ _
 refine wpAny_bind ?_
 simp only[newExc,newTuple]
 refine wpAny_bind (wpAny_newObj_type ?_ (by size_fits))
 refine wpAny_bind (m:=firstArgMember _ _) (wpAny_of_eq (a:=Value.none) (by first | rfl | (simp only[firstArgMember];rfl)) ?_)
 refine wpAny_newObj_type ?_ (by size_fits)
 simp only[raiseNew]
 refine wpAny_bind (wpAny_handled ?_)
 first | rw[show A.in1.handled=none from hh] | rw[hh]
 refine wpAny_bind (wpAny_pure (wpAny_throw ?_))
 refine wpAny_bind (wpAny_isInstance (T:="StopIteration") (b:=true) ⟨_,qo _ rfl,rfl⟩ isSubtype_stop ?_)
 exact wpAny_pure (hQ _ ((((Heap.SameBut.update ..).trans (Heap.SameBut.update ..)).extBut.push _).push _))
end
end
section
set_option maxRecDepth 100000
section
variable {prog:Program} {w:World} {A:Around} {E:Value->Shared->Prop} {s:Shared}
theorem Yfe{Q:Bool->Shared->Prop}(h:Q (byT w) s):wpAny (model prog w) A setsByText Q E s:=by
 unfold setsByText
 exact wpAny_bind (wpAny_askSetting (wpAny_pure h))
theorem Ykr{a:Addr}{es:Array (Int × Value)}{ep sl i:Nat}{t:SetTable}(hb:byT w=true)(ha:SAt s.heap a es ep t){Q:Option (Value × Nat)->Shared->Prop}
 (h:Q (((pickOrder (w.params.setOrder a ep) es)[i]?).map fun e=>(e.2,sl)) s):wpAny (model prog w) A (setNext a sl i ep) Q E s:=by
 obtain⟨oa,hoa,hexa,hda,hfa⟩:=ha
 unfold setNext
 refine wpAny_bind (wpAny_setState_of hoa hda hfa ?_)
 dsimp only
 refine wpAny_bind (Yfe ?_)
 rw[if_pos hb,if_neg (by simp)]
 refine wpAny_bind (m:=setWalk a) ?_
 unfold setWalk
 refine wpAny_bind (wpAny_setState_of hoa hda hfa ?_)
 dsimp only
 refine wpAny_bind (Yfe ?_)
 rw[if_pos hb]
 refine wpAny_bind (wpAny_askSetting (wpAny_pure ?_))
 exact wpAny_pure h
theorem Yks{a:Addr}{es:Array (Int × Value)}{ep sl i g:Nat}{t:SetTable}(hb:byT w=false)(hd:(!t.plain&&decide (es.size > 1))=false)(hl:t.led=true)(ha:SAt s.heap a es ep t){Q:Option (Value × Nat)->Shared->Prop}
 (hp:SetTable.below t.place sl=i) (h:Q (match es[i]?,t.place[i]? with | some (_,x),some j=>some (x,j+1) | _,_=>none) s):wpAny (model prog w) A (setNext a sl g ep) Q E s:=by
 obtain⟨oa,hoa,hexa,hda,hfa⟩:=ha
 unfold setNext
 refine wpAny_bind (wpAny_setState_of hoa hda hfa ?_)
 dsimp only
 refine wpAny_bind (Yfe ?_)
 rw[if_neg (by rw[hb];exact qh)]
 show wpAny _ _ (if (!t.plain&&decide (es.size > 1))=true then _ else _) _ _ _
 rw[if_neg (show ¬((!t.plain&&decide (es.size > 1))=true) by rw[hd];exact qh)]
 show wpAny _ _ ((if (!t.led&&!es.isEmpty)=true then unsupported "set:maker-not-led" else pure ()) >>= _) _ _ _
 rw[if_neg (by rw[hl];simp)]
 refine wpAny_bind (wpAny_pure ?_)
 rw[hp]
 exact wpAny_pure h
def Yex(pl:Array Nat):Nat->Nat
 | 0=>0
 | i+1=>pl.getD i 0+1
theorem Ym3{pl:Array Nat}(hr:Rise pl){i:Nat}(hi:i<=pl.size):SetTable.below pl (Yex pl i)=i:=by
 obtain⟨h1,h2,h3⟩:=Yis hr (Yex pl i)
 generalize hp:SetTable.below pl (Yex pl i)=p at h1 h2 h3
 have mono:∀(i k:Nat) (hi:i < pl.size) (hk:k < pl.size),i < k->pl[i] < pl[k]:=fun i k hi hk h=>by
  have:=List.pairwise_iff_getElem.mp hr i k (by simpa using hi) (by simpa using hk) h
  simpa using this
 have e1:∀k (hk:k < pl.size),k < p->pl[k] < Yex pl i:=fun k hk hkp=>h2 _ (by
  rw[List.mem_iff_getElem]
  exact⟨k,by simp;lia,by simp⟩)
 have e2:∀k (hk:k < pl.size),p<=k->Yex pl i<=pl[k]:=fun k hk hkp=>h3 _ (by
  rw[List.mem_iff_getElem]
  exact⟨k - p,by simp;lia,by
   rw[List.getElem_drop,Array.getElem_toList]
   congr 1
   lia⟩)
 rcases Nat.lt_trichotomy p i with h | h | h
 ·have hk:p < pl.size:=by lia
  have:=e2 p hk (qs _)
  cases i with
  | zero=>lia
  | succ j=>
    have hj:j < pl.size:=by lia
    simp only[Yex,Array.getD,hj,dite_true]at this
    by_cases e:p=j
    ·subst e;exact absurd this (by simp)
    ·have:=mono p j hk hj (by lia)
     simp at *
     lia
 ·exact h
 ·have hk:i < pl.size:=by lia
  have:=e1 i hk h
  cases i with
  | zero=>simp[Yex]at this
  | succ j=>
    have hj:j < pl.size:=by lia
    have h':=mono j (j+1) hj hk (by lia)
    simp only[Yex,Array.getD,hj,dite_true]at this
    simp at *
    lia
def PInt(vals:List Int)(i:Nat)(v:Value):Prop:=∃k t,vals[i]?=some k/\v=.int k t
theorem Yg3{es:Array (Int × Value)}(hel:ElemsOf (intKind prog w) es.toList){e:Int × Value}(he:e∈es.toList):∃t,e.2=.int (kOf e) t:=by
 obtain⟨t,ht⟩:=Ymz hel he
 exact⟨t,by rw[ht];simp[kOf]⟩
theorem Yr3{a:Addr}{ns:List Int}(hS:SetI prog w s.heap a ns){Q:Value->Shared->Prop}
 (hQ:∀(h':Heap) (d':Drawn) (I:Addr) (fp:List Addr) (vals:List Int) (St:Nat->Heap->Prop),(∀b o,s.heap.get? b=some o->h'.get? b=some o)->s.heap.objs.size<=I->I∈fp->
  (∀b∈fp,b < h'.objs.size/\(b=a\/s.heap.objs.size<=b))->vals.Perm ns->(∀A':Around,A'.handled=none->Walks prog w A' I fp [I] ns.length (PInt vals) St)->St 0 h'->
  (∀(i:Nat) (s':Shared),St i s'.heap->s'.TypeIs (.ref I) "set_iterator")->Q (.ref I) { s with heap:=h',drawn:=d' }) :
 wpAny (model prog w) A (pyIter (.ref a)) Q E s:=by
 obtain⟨o,es,ep,t,ho,hex,hd,hel,hns,hnd,hb,hf,ht⟩:=hS
 have hT:s.TypeIs (.ref a) "set":=⟨o,ho,hex.1⟩
 have hlen:ns.length=es.size:=by rw[<-hns,qe,qi]
 have hlt:a < s.heap.objs.size:=qk ho
 have hsa:SAt s.heap a es ep t:=⟨o,ho,hex,hd,hf⟩
 have hps:t.place.size=es.size:=by
  simp only[SetTable.fits,Bool.and_eq_true,beq_iff_eq]at hf
  exact hf.1
 refine wpAny_pyIter_slot hT F.slot_set_iter (wpAny_call_entry F.slot_set_iter hT Yia ?_ (F.args_set_iter_1 _))
 unfold Builtin.«frozenset.__iter__»
 show wpAny _ _ (Builtin.Frozenset.sizeOf a >>= _) _ _ s
 unfold Builtin.Frozenset.sizeOf
 refine wpAny_bind (wpAny_bind (wpAny_setEntries_of ho hd hf (wpAny_pure ?_)))
 refine wpAny_bind ?_
 unfold setDrawn
 refine wpAny_bind (wpAny_setState_of ho hd hf ?_)
 dsimp only
 refine wpAny_bind (Yfe (wpAny_pure ?_))
 have plain:∀(vals:List Int) (st:Nat->Nat) (xv:Nat->Value),vals.Perm ns->st 0=0->(∀i,i < es.size->PInt vals i (xv i))->
  (∀(s':Shared) (A':Around) (i:Nat) (E':Value->Shared->Prop),SAt s'.heap a es ep t->i < es.size->∀Q':Option (Value × Nat)->Shared->Prop,Q' (some (xv i,st (i+1))) s'->wpAny (model prog w) A' (setNext a (st i) i ep) Q' E' s')->
  (∀(s':Shared) (A':Around) (E':Value->Shared->Prop),SAt s'.heap a es ep t->∀Q':Option (Value × Nat)->Shared->Prop,Q' none s'->wpAny (model prog w) A' (setNext a (st es.size) es.size ep) Q' E' s')->
  wpAny (model prog w) A.in1 (do
   let x <-newFields "set_iterator" [rawInt 0,rawInt 0,.ref a,rawInt es.size,rawInt (<-setEpoch a)]
   ret x) (fun fin s'=>∃v,fin=.done (.ret v)/\∃T' r,s'.TypeIs v T'/\typeLookup (.type T') "__next__"=pure (some r)/\Q v s') E s:=by
  intro vals st xv hp h0 hx hi hn
  refine wpAny_bind (wpAny_setEpoch_of ho hd hf ?_)
  refine wpAny_bind (wpAny_newObj_type ?_)
  refine wpAny_pure ⟨_,rfl,"set_iterator",_,⟨_,qo _ rfl,rfl⟩,slot_si_next.lookup,?_⟩
  have key:=hQ (s.heap.push { cls:=.type "set_iterator",data:=.fields #[rawInt 0,rawInt 0,.ref a,rawInt es.size,rawInt ep] }) s.drawn s.heap.objs.size [s.heap.objs.size,a] vals
   (fun i h=>SIt h s.heap.objs.size (.int (st i) 0) i a es.size ep/\SAt h a es ep t) (fun b o e=>qd _ e) (qs _) (by simp) (fun b hb=>by
    rw[Heap.size_push]
    rcases qr hb with rfl | hb
    ·exact⟨qx _,.inr (qs _)⟩
    ·rw[List.mem_singleton]at hb
     subst hb
     exact⟨qu hlt,.inl rfl⟩) hp (fun A' hA'=>{
    sub:=fun b hb=>by simp at hb;simp[hb]
    frame:=fun i h h' st' hk=>⟨st'.1.at fun o e=>hk _ (by simp) o e,st'.2.at fun o e=>hk a (by simp) o e⟩
    item:=fun i s' Q' E' hlt' st' hQ'=>by
     refine Yuj st'.1 st'.2 (x:=xv i) (nx:=st (i+1)) (fun A2 Q2 E2 hq=>hi s' A2 i E2 st'.2 (by lia) Q2 hq) fun h' hit' hs'=>?_
     exact hQ' _ h' s'.toks (hx i (by lia)) ⟨hit',st'.2.at fun o e=>hs'.extBut a o (fun z=>by subst z;exact absurd hlt (Nat.lt_irrefl _)) e⟩ fun b o hb e=>hs'.extBut b o (fun z=>hb (by simp[z])) e
    done:=fun s' Q' E' st' hQ'=>by
     rw[hlen]at st'
     exact Yuk hA' st'.1 st'.2 (fun A2 Q2 E2 hq=>hn s' A2 E2 st'.2 Q2 hq) fun h' he'=>hQ' h' s'.toks fun b o hb e=>he' b o (fun z=>hb (by simp[z])) e
    self:=fun i s' Q' E' st' hQ'=>Ypg st'.1 hQ' }) ⟨⟨_,qo _ rfl,rfl,by rw[h0];rfl⟩,hsa.at fun o e=>qd _ e⟩ (fun i s' st'=>st'.1.typeIs)
  exact key
 have hdr:∀b:Bool,(!t.plain&&decide (es.size > 1))=b->wpAny (model prog w) A.in1 (if (!byT w&&b)=true then do
  let first <-newTuple ((<-drawOrder es.size (List.range es.size)).map fun(i:Nat)=>rawInt i)
  let x <-newFields "set_iterator" [first,rawInt 0,.ref a,rawInt es.size,rawInt (<-setEpoch a)]
  ret x
  else do
   let x <-newFields "set_iterator" [rawInt 0,rawInt 0,.ref a,rawInt es.size,rawInt (<-setEpoch a)]
   ret x) (fun fin s'=>∃v,fin=.done (.ret v)/\∃T' r,s'.TypeIs v T'/\typeLookup (.type T') "__next__"=pure (some r)/\Q v s') E s:=by
  intro b hbd
  cases hbt:byT w with
  | true=>
    rw[if_neg (by simp)]
    generalize hor:pickOrder (w.params.setOrder a ep) es=ord
    have hpm:ord.toList.Perm es.toList:=by rw[<-hor];exact Ypf _ _
    have hos:ord.size=es.size:=by
     have:=hpm.length_eq
     simpa using this
    refine plain (ord.toList.map kOf) (fun _=>0) (fun i=>(ord.getD i (0,.none)).2) (by rw[<-hns];exact hpm.map kOf) rfl (fun i hi=>?_) (fun s' A' i E' ha hi Q' hq=>?_) (fun s' A' E' ha Q' hq=>?_)
    ·have hi':i < ord.size:=by lia
     obtain⟨u,hu⟩:=Yg3 hel (hpm.mem_iff.mp (show ord[i]∈ord.toList by simp))
     refine⟨kOf ord[i],u,by simp[hi'],?_⟩
     simp only[Array.getD,hi',dite_true]
     exact hu
    ·have hi':i < ord.size:=by lia
     refine Ykr hbt ha ?_
     rw[hor,Array.getElem?_eq_getElem hi']
     simp only[Array.getD,hi',dite_true]at hq
     exact hq
    ·refine Ykr hbt ha ?_
     rw[hor,Array.getElem?_eq_none (by lia)]
     exact hq
  | false=>
    have hled:=ht.1 hbt
    cases b with
    | false=>
      rw[if_neg (by simp)]
      have hrise:Rise t.place:=by
       cases hpl:t.plain with
       | true=>exact ht.2 hpl
       | false=>
         rw[hpl]at hbd
         have h1:t.place.toList.length<=1:=by
          simp at hbd
          rw[qi]
          lia
         unfold Rise
         match t.place.toList,h1 with
         | [],_=>exact .nil
         | [x],_=>simp
      refine plain ns (Yex t.place) (fun i=>(es.getD i (0,.none)).2) .rfl rfl (fun i hi=>?_) (fun s' A' i E' ha hi Q' hq=>?_) (fun s' A' E' ha Q' hq=>?_)
      ·obtain⟨u,hu⟩:=Yg3 hel (show es[i]∈es.toList by simp)
       refine⟨kOf es[i],u,by rw[<-hns];simp[hi],?_⟩
       simp only[Array.getD,hi,dite_true]
       exact hu
      ·refine Yks hbt hbd hled ha (Ym3 hrise (by lia)) ?_
       have hi2:i < t.place.size:=by lia
       rw[Array.getElem?_eq_getElem hi,Array.getElem?_eq_getElem hi2]
       simp only[Array.getD,hi,hi2,dite_true,Yex]at hq
       exact hq
      ·refine Yks hbt hbd hled ha (Ym3 hrise (by lia)) ?_
       rw[Array.getElem?_eq_none (qs _)]
       exact hq
    | true=>
      rw[if_pos (by simp)]
      refine wpAny_bind (Yiu es.size (List.range es.size) s _ (by simp) fun ys d' hp=>?_)
      simp only[newTuple]
      have hyl:ys.length=es.size:=by rw[hp.length_eq];simp
      refine wpAny_bind (wpAny_newObj_type ?_ (by show(ys.map fun(i:Nat)=>rawInt i).toArray.size<=sizeLine;rw[qj,qe,hyl];exact fits_of_scanBound hb))
      have ho1:((s.heap.push { cls:=.type "tuple",data:=.seq (ys.map fun(i:Nat)=>rawInt i).toArray })).get? a=some o:=qd _ ho
      refine wpAny_bind (wpAny_setEpoch_of (s:={ s with heap:=s.heap.push { cls:=.type "tuple",data:=.seq (ys.map fun(i:Nat)=>rawInt i).toArray },drawn:=d' }) ho1 hd hf ?_)
      refine wpAny_bind (wpAny_newObj_type ?_)
      refine wpAny_pure ⟨_,rfl,"set_iterator",_,⟨_,qo _ rfl,rfl⟩,slot_si_next.lookup,?_⟩
      have hmem:∀j∈ys,j < es.size:=fun j hj=>by simpa using hp.mem_iff.mp hj
      have hvp:(ys.map fun j=>kOf (es.getD j (0,.none))).Perm ns:=by
       rw[<-hns]
       refine(hp.map _).trans ?_
       have:(List.range es.size).map (fun j=>kOf (es.getD j (0,.none)))=es.toList.map kOf:=by
        refine List.ext_getElem (by simp) fun i h1 h2=>?_
        have hi:i < es.size:=by simpa using h1
        simp[Array.getD,hi]
       rw[this]
      generalize hH:s.heap.push { cls:=.type "tuple",data:=.seq (ys.map fun(i:Nat)=>rawInt i).toArray }=H at ho1 ⊢
      have hHs:H.objs.size=s.heap.objs.size+1:=by rw[<-hH,Heap.size_push]
      have hT0:H.IsTuple s.heap.objs.size (ys.map fun(i:Nat)=>rawInt i).toArray:=⟨_,by rw[<-hH];exact qo _ rfl,rfl,_,rfl⟩
      have keepH:∀b o,s.heap.get? b=some o->H.get? b=some o:=fun b o e=>by rw[<-hH];exact qd _ e
      have haI:a≠H.objs.size:=fun z=>by rw[z,hHs]at hlt;exact absurd hlt (Nat.not_lt.mpr (Nat.le_succ _))
      have hTI:s.heap.objs.size≠H.objs.size:=by rw[hHs];exact ql (qx _)
      exact hQ (H.push { cls:=.type "set_iterator",data:=.fields #[.ref s.heap.objs.size,rawInt 0,.ref a,rawInt es.size,rawInt ep] }) d' H.objs.size [H.objs.size,a,s.heap.objs.size] (ys.map fun j=>kOf (es.getD j (0,.none)))
       (fun i h=>SIt h H.objs.size (.ref s.heap.objs.size) i a es.size ep/\SAt h a es ep t/\h.IsTuple s.heap.objs.size (ys.map fun(i:Nat)=>rawInt i).toArray) (fun b o e=>qd _ (keepH b o e)) (by lia) (by simp) (fun b hb=>by
        rw[Heap.size_push]
        simp only[List.mem_cons,List.not_mem_nil,or_false]at hb
        rcases hb with rfl | rfl | rfl
        ·exact⟨qx _,.inr (by rw[hHs];exact Nat.le_succ _)⟩
        ·exact⟨qu (by rw[hHs];exact qu hlt),.inl rfl⟩
        ·exact⟨qu (by rw[hHs];exact qx _),.inr (qs _)⟩) hvp (fun A' hA'=>{
        sub:=fun b hb=>by simp at hb;simp[hb]
        frame:=fun i h h' st' hk=>⟨st'.1.at fun o e=>hk _ (by simp) o e,st'.2.1.at fun o e=>hk a (by simp) o e,st'.2.2.at fun o e=>hk _ (by simp) o e⟩
        item:=fun i s' Q' E' hlt' st' hQ'=>by
         have hi:i < ys.length:=by lia
         have hj:=hmem ys[i] (List.getElem_mem hi)
         refine Yr1 st'.1 st'.2.1 st'.2.2 (j:=ys[i]) (tk:=0) (e:=es[ys[i]]) (by simp[hi,rawInt]) (Array.getElem?_eq_getElem hj) fun h' hit' hs'=>?_
         refine hQ' _ h' s'.toks ?_ ⟨hit',st'.2.1.at fun o e=>hs'.extBut a o haI e,st'.2.2.at fun o e=>hs'.extBut _ o hTI e⟩ fun b o hb e=>hs'.extBut b o (fun z=>hb (by simp[z])) e
         obtain⟨u,hu⟩:=Yg3 hel (show es[ys[i]]∈es.toList by simp)
         exact⟨kOf es[ys[i]],u,by simp[hi,Array.getD,hj],hu⟩
        done:=fun s' Q' E' st' hQ'=>by
         rw[hlen]at st'
         exact Yr2 hA' st'.1 st'.2.1 st'.2.2 (by simp[hyl]) fun h' he'=>hQ' h' s'.toks fun b o hb e=>he' b o (fun z=>hb (by simp[z])) e
        self:=fun i s' Q' E' st' hQ'=>Ypg st'.1 hQ' }) ⟨⟨_,qo _ rfl,rfl,rfl⟩,⟨o,qd _ ho1,hex,hd,hf⟩,hT0.push _⟩ (fun i s' st'=>st'.1.typeIs)
 exact hdr _ rfl
end
end
section
inductive D where
 | non | bl (b:Bool) | int (i:Int) | str (x:Str) | tup (l:List D) | lst (l:List D)
 | scr (ns:List Int)
 | dct (t:Bool) (ks vs:List D)
 | obj (c:Str) (ks:List Str) (vs:List D)
 | adr (a:Addr)
mutual
def toPy:D->PyData
 | .non=>.none
 | .bl b=>.bool b
 | .int i=>.int i
 | .str x=>.str x
 | .tup l=>.tuple (Ycv l)
 | .lst l=>.list (Ycv l)
 | .scr ns=>.list (ns.map PyData.int)
 | .dct _ _ _=>.none
 | .obj _ _ _=>.none
 | .adr _=>.none
def Ycv:List D->List PyData
 | []=>[]
 | d::l=>toPy d::Ycv l
end
def eqD(d e:D):Bool:=PyData.eqv (toPy d) (toPy e)
def eqL(l m:List D):Bool:=PyData.eqvAll (Ycv l) (Ycv m)
def numV:V->Option Int
 | .int i=>some i
 | .bl b=>some (if b then 1 else 0)
 | _=>none
def Yul:List V->Option (List Int)
 | []=>some []
 | x::r=>(numV x).bind fun i=>(Yul r).map (i::·)
def Yxd(ks:List Int):Int:=reduceHash (Builtin.Tuple.tupleHashOf (ks.map hashInt))
def DtOk(a:Addr)(nks:List (List Int × Addr))(vxs:List V)(ep:Nat)(h:Heap):Prop:=
 (a==sysModules)=false/\∃us o es,Vals vxs us/\h.get? a=some o/\o.ExactDict/\o.data=.dict es ep/\es.toList=(nks.zip us).map fun p=>(⟨Yxd p.1.1,.ref p.1.2,p.2⟩:DictEntry)
def dTo(a:Addr)(nks:List (List Int × Addr))(vxs:List V)(ep:Nat):HO:=.ext (DtOk a nks vxs ep)
def Dc(t:Bool)(G H:Hp)(a:Addr)(kxs vxs:List V):Prop:=
 (t=false/\∃kvs:List (Key × V),H a=some (.dK kvs)/\(kvs.map (·.1)).Nodup/\kxs=kvs.map (fun p=>kV p.1)/\vxs=kvs.map (·.2))\/
 (t=true/\∃(nks:List (List Int × Addr)) (ep:Nat),H a=some (dTo a nks vxs ep)/\nks.length=vxs.length/\(nks.map (·.1)).Nodup/\kxs=nks.map (fun p=>V.ref p.2)/\∀p∈nks,∃ys,G p.2=some (.tup ys)/\Yul ys=some p.1)
mutual
def Rp(K:W.Frag)(G:Hp):D->V->Prop
 | .non,v=>v=V.non
 | .bl b,v=>v=V.bl b
 | .int i,v=>v=V.int i
 | .str x,v=>v=V.str x/\PyData.strOk x=true
 | .tup l,v=>∃a xs,v=V.ref a/\G a=some (HO.tup xs)/\RpL K G l xs
 | .lst l,v=>∃a xs,v=V.ref a/\Rd G a (HO.lst xs)/\RpL K G l xs
 | .scr ns,v=>∃a,v=V.ref a/\SqL K G a (ns.map V.int)
 | .dct t ks vs,v=>∃a kxs vxs,v=V.ref a/\Dc t G G a kxs vxs/\RpL K G ks kxs/\RpL K G vs vxs
 | .obj c ks vs,v=>∃a C dx xs,v=V.ref a/\W.nsIn K mainGlobals c=some (some (.ref C))/\G a=some (HO.ins C dx (ks.zip xs))/\xs.length=ks.length/\RpL K G vs xs
 | .adr a,v=>v=V.ref a
def RpL(K:W.Frag)(G:Hp):List D->List V->Prop
 | [],xs=>xs=[]
 | d::l,xs=>∃x r,xs=x::r/\Rp K G d x/\RpL K G l r
end
variable {K:W.Frag}
theorem Yaz{G G':Hp}(h:Same G G'){a:Addr}{u:HO}(r:Rd G a u):Rd G' a u:=by
 rcases r with r | ⟨o,r⟩
 ·exact .inl (h _ _ r)
 ·exact .inr ⟨o,h _ _ r⟩
theorem Dc.mono{t:Bool}{G G' H H':Hp}(g:Same G G'){a:Addr}{kxs vxs:List V}(h:∀o,H a=some o->H' a=some o)(d:Dc t G H a kxs vxs):Dc t G' H' a kxs vxs:=by
 rcases d with⟨e,kvs,h1,h2⟩ | ⟨e,nks,ep,h1,h2,h3,h4,h5⟩
 ·exact .inl ⟨e,kvs,h _ h1,h2⟩
 ·refine .inr ⟨e,nks,ep,h _ h1,h2,h3,h4,fun p hp=>?_⟩
  obtain⟨ys,q1,q2⟩:=h5 p hp
  exact⟨ys,g _ _ q1,q2⟩
theorem Dc.someT{t:Bool}{G H:Hp}{a:Addr}{kxs vxs:List V}(d:Dc t G H a kxs vxs):∃o,H a=some o/\∀xs,o≠.tup xs:=by
 rcases d with⟨_,kvs,h1,_⟩ | ⟨_,nks,ep,h1,_⟩
 ·exact⟨_,h1,fun xs z=>by cases z⟩
 ·exact⟨_,h1,fun xs z=>by cases z⟩
theorem Dc.some{t:Bool}{G H:Hp}{a:Addr}{kxs vxs:List V}(d:Dc t G H a kxs vxs):∃o,H a=some o/\∀xs,o≠.lst xs:=by
 rcases d with⟨_,kvs,h1,_⟩ | ⟨_,nks,ep,h1,_⟩
 ·exact⟨_,h1,fun xs z=>by cases z⟩
 ·exact⟨_,h1,fun xs z=>by cases z⟩
mutual
theorem Rp.mono{G G':Hp}(h:Same G G'):∀{d:D} {v:V},Rp K G d v->Rp K G' d v
 | .non,_,r=>by rw[Rp]at r ⊢;exact r
 | .bl _,_,r=>by rw[Rp]at r ⊢;exact r
 | .int _,_,r=>by rw[Rp]at r ⊢;exact r
 | .str _,_,r=>by rw[Rp]at r ⊢;exact r
 | .tup l,_,r=>by
   rw[Rp]at r ⊢
   obtain⟨a,xs,e,g,q⟩:=r
   exact⟨a,xs,e,h _ _ g,RpL.mono h q⟩
 | .lst l,_,r=>by
   rw[Rp]at r ⊢
   obtain⟨a,xs,e,g,q⟩:=r
   exact⟨a,xs,e,Yaz h g,RpL.mono h q⟩
 | .scr ns,_,r=>by
   rw[Rp]at r ⊢
   obtain⟨a,e,g⟩:=r
   exact⟨a,e,h.seq g⟩
 | .dct t ks vs,_,r=>by
   rw[Rp]at r ⊢
   obtain⟨a,kxs,vxs,e,g,q1,q2⟩:=r
   exact⟨a,kxs,vxs,e,g.mono h fun o=>h _ o,RpL.mono h q1,RpL.mono h q2⟩
 | .obj c ks vs,_,r=>by
   rw[Rp]at r ⊢
   obtain⟨a,C,dx,xs,e,n,g,l,q⟩:=r
   exact⟨a,C,dx,xs,e,n,h _ _ g,l,RpL.mono h q⟩
 | .adr _,_,r=>by rw[Rp]at r ⊢;exact r
theorem RpL.mono{G G':Hp}(h:Same G G'):∀{l:List D} {xs:List V},RpL K G l xs->RpL K G' l xs
 | [],_,r=>by rw[RpL]at r ⊢;exact r
 | d::l,_,r=>by
   rw[RpL]at r ⊢
   obtain⟨x,xs,e,g,q⟩:=r
   exact⟨x,xs,e,Rp.mono h g,RpL.mono h q⟩
end
section
variable {G:Hp}
theorem RpL.length:∀{l:List D} {xs:List V},RpL K G l xs->xs.length=l.length
 | [],_,r=>by rw[RpL]at r;subst r;rfl
 | d::l,_,r=>by
   rw[RpL]at r
   obtain⟨x,xs,rfl,_,q⟩:=r
   simp[RpL.length q]
theorem RpL.get:∀{l:List D} {xs:List V} {i:Nat} {d:D},RpL K G l xs->l[i]?=some d->∃x,xs[i]?=some x/\Rp K G d x
 | [],_,_,_,_,e=>by simp at e
 | d::l,_,0,_,r,e=>by
   rw[RpL]at r
   obtain⟨x,xs,rfl,g,q⟩:=r
   simp at e
   subst e
   exact⟨x,rfl,g⟩
 | d::l,_,i+1,_,r,e=>by
   rw[RpL]at r
   obtain⟨x,xs,rfl,g,q⟩:=r
   obtain⟨y,h1,h2⟩:=RpL.get (i:=i) q (by simpa using e)
   exact⟨y,by simpa using h1,h2⟩
theorem RpL.nil:RpL K G [] []:=by rw[RpL]
theorem RpL.cons{d:D}{l:List D}{x:V}{xs:List V}(h:Rp K G d x)(q:RpL K G l xs):RpL K G (d::l) (x::xs):=by rw[RpL];exact⟨x,xs,rfl,h,q⟩
theorem RpL.append:∀{l m:List D} {xs ys:List V},RpL K G l xs->RpL K G m ys->RpL K G (l++m) (xs++ys)
 | [],_,_,_,r,q=>by rw[RpL]at r;subst r;exact q
 | d::l,m,_,ys,r,q=>by
   rw[RpL]at r
   obtain⟨x,xs,rfl,g,r⟩:=r
   exact .cons g (RpL.append r q)
theorem RpL.one{d:D}{x:V}(h:Rp K G d x):RpL K G [d] [x]:=.cons h .nil
theorem RpL.take:∀{l:List D} {xs:List V} (n:Nat),RpL K G l xs->RpL K G (l.take n) (xs.take n)
 | _,_,0,_=>by rw[List.take_zero,List.take_zero];exact .nil
 | [],_,_+1,r=>by rw[RpL]at r;subst r;exact .nil
 | d::l,_,n+1,r=>by
   rw[RpL]at r
   obtain⟨x,xs,rfl,g,r⟩:=r
   exact .cons g (RpL.take n r)
theorem RpL.drop:∀{l:List D} {xs:List V} (n:Nat),RpL K G l xs->RpL K G (l.drop n) (xs.drop n)
 | _,_,0,r=>r
 | [],_,_+1,r=>by rw[RpL]at r;subst r;exact .nil
 | d::l,_,n+1,r=>by
   rw[RpL]at r
   obtain⟨x,xs,rfl,g,r⟩:=r
   exact RpL.drop n r
theorem RpL.ints:∀(ns:List Int),RpL K G (ns.map D.int) (ns.map V.int)
 | []=>.nil
 | n::ns=>.cons (by rw[Rp]) (RpL.ints ns)
end
structure Gr(H G H' G':Hp):Prop where
 h:Same H H'
 g:Same G G'
 s:Same G' H'
 n:∀a,G a=none->G' a≠none->H a=none
theorem Gr.refl{H G:Hp}(s:Same G H):Gr H G H G:=⟨Same.refl _,Same.refl _,s,fun _ h h'=>absurd h h'⟩
theorem Gr.trans{H G H1 G1 H2 G2:Hp}(a:Gr H G H1 G1)(b:Gr H1 G1 H2 G2):Gr H G H2 G2:=
 ⟨a.h.trans b.h,a.g.trans b.g,b.s,fun x h h'=>by
  by_cases e:G1 x=none
  ·exact a.h.free (b.n x e h')
  ·exact a.n x h e⟩
theorem Gr.new{H G:Hp}(s:Same G H){p:Addr}(hp:H p=none)(o:HO):Gr H G (upd H p o) (upd G p o):=by
 have gp:G p=none:=s.free hp
 refine⟨fun b u e=>?_,fun b u e=>?_,fun b u e=>?_,fun b h h'=>?_⟩
 ·rw[Yk (Yv e hp)];exact e
 ·rw[Yk (Yv e gp)];exact e
 ·by_cases q:b=p
  ·subst q;rw[Yo]at e ⊢;exact e
  ·rw[Yk q]at e ⊢;exact s _ _ e
 ·by_cases q:b=p
  ·subst q;exact hp
  ·rw[Yk q]at h';exact absurd h h'
theorem Gr.hid{H G:Hp}(s:Same G H){p:Addr}(hp:H p=none)(o:HO):Gr H G (upd H p o) G:=by
 have gp:G p=none:=s.free hp
 refine⟨fun b u e=>?_,Same.refl _,fun b u e=>?_,fun b h h'=>absurd h h'⟩
 ·rw[Yk (Yv e hp)];exact e
 ·rw[Yk (Yv e gp)];exact s _ _ e
theorem Gr.show{H G H' G':Hp}(g:Gr H G H' G'){p:Addr}{o:HO}(hp:H p=none)(gp:G' p=none)(e:H' p=some o):Gr H G H' (upd G' p o):=by
 refine⟨g.h,fun b u q=>?_,fun b u q=>?_,fun b h h'=>?_⟩
 ·have:=g.g b u q
  rw[Yk (Yv this gp)];exact this
 ·by_cases z:b=p
  ·subst z;rw[Yo]at q;rw[e];exact q
  ·rw[Yk z]at q;exact g.s b u q
 ·by_cases z:b=p
  ·subst z;exact hp
  ·rw[Yk z]at h';exact g.n b h h'
def Ct(K:W.Frag)(G H:Hp):D->V->Prop
 | .non,v=>v=V.non
 | .bl b,v=>v=V.bl b
 | .int i,v=>v=V.int i
 | .str x,v=>v=V.str x/\PyData.strOk x=true
 | .tup l,v=>∃a xs,v=V.ref a/\(H a=some (HO.tup xs)/\G a=some (HO.tup xs))/\RpL K G l xs
 | .lst l,v=>∃a xs,v=V.ref a/\Rd H a (HO.lst xs)/\RpL K G l xs
 | .scr ns,v=>∃a,v=V.ref a/\SqL K H a (ns.map V.int)
 | .dct t ks vs,v=>∃a kxs vxs,v=V.ref a/\Dc t G H a kxs vxs/\RpL K G ks kxs/\RpL K G vs vxs
 | .obj c ks vs,v=>∃a C dx xs,v=V.ref a/\W.nsIn K mainGlobals c=some (some (.ref C))/\G a=some (HO.ins C dx (ks.zip xs))/\xs.length=ks.length/\RpL K G vs xs
 | .adr a,v=>v=V.ref a
theorem Ct.of{G H:Hp}(s:Same G H){d:D}{v:V}(r:Rp K G d v):Ct K G H d v:=by
 cases d<;>rw[Rp]at r<;>rw[Ct]
 ·exact r
 ·exact r
 ·exact r
 ·exact r
 ·obtain⟨a,xs,e,g,q⟩:=r
  exact⟨a,xs,e,⟨s _ _ g,g⟩,q⟩
 ·obtain⟨a,xs,e,g,q⟩:=r
  exact⟨a,xs,e,Yaz s g,q⟩
 ·obtain⟨a,e,g⟩:=r
  exact⟨a,e,s.seq g⟩
 ·obtain⟨a,kxs,vxs,e,g,q1,q2⟩:=r
  exact⟨a,kxs,vxs,e,g.mono (Same.refl _) fun o=>s _ o,q1,q2⟩
 ·exact r
 ·exact r
theorem Ct.rp{G H:Hp}(s:Same G H){d:D}{v:V}(r:Ct K G H d v):Rp K H d v:=by
 cases d<;>rw[Ct]at r<;>rw[Rp]
 ·exact r
 ·exact r
 ·exact r
 ·exact r
 ·obtain⟨a,xs,e,g,q⟩:=r
  exact⟨a,xs,e,g.1,q.mono s⟩
 ·obtain⟨a,xs,e,g,q⟩:=r
  exact⟨a,xs,e,g,q.mono s⟩
 ·exact r
 ·obtain⟨a,kxs,vxs,e,g,q1,q2⟩:=r
  exact⟨a,kxs,vxs,e,g.mono s fun _ z=>z,q1.mono s,q2.mono s⟩
 ·obtain⟨a,C,dx,xs,e,n,g,l,q⟩:=r
  exact⟨a,C,dx,xs,e,n,s _ _ g,l,q.mono s⟩
 ·exact r
theorem Ct.grow{G H G' H':Hp}(g:Gr H G H' G'){d:D}{v:V}(r:Ct K G H d v):Ct K G' H' d v:=by
 cases d<;>rw[Ct]at r<;>rw[Ct]
 ·exact r
 ·exact r
 ·exact r
 ·exact r
 ·obtain⟨a,xs,e,h,q⟩:=r
  exact⟨a,xs,e,⟨g.h _ _ h.1,g.g _ _ h.2⟩,q.mono g.g⟩
 ·obtain⟨a,xs,e,h,q⟩:=r
  exact⟨a,xs,e,Yaz g.h h,q.mono g.g⟩
 ·obtain⟨a,e,h⟩:=r
  exact⟨a,e,g.h.seq h⟩
 ·obtain⟨a,kxs,vxs,e,h,q1,q2⟩:=r
  exact⟨a,kxs,vxs,e,h.mono g.g fun o=>g.h _ o,q1.mono g.g,q2.mono g.g⟩
 ·obtain⟨a,C,dx,xs,e,n,h,l,q⟩:=r
  exact⟨a,C,dx,xs,e,n,g.g _ _ h,l,q.mono g.g⟩
 ·exact r
def CtL(K:W.Frag)(G H:Hp):List D->List V->Prop
 | [],xs=>xs=[]
 | d::l,xs=>∃x r,xs=x::r/\Ct K G H d x/\CtL K G H l r
inductive B where
 | sh (d:D) | ow (l:List D) | od (t:Bool) (ks vs:List D)
abbrev Ro:=List (Option B)
structure SR(K:W.Frag)(H0 G0:Hp)(σ:L2.St)(H G:Hp)(ρ:Ro):Prop where
 gr:Gr H0 G0 H G
 len:σ.length=ρ.length
 sh:∀(i:Nat) d,ρ[i]?=some (some (B.sh d))->∃v,σ[i]?=some (some v)/\Rp K G d v
 ow:∀(i:Nat) l,ρ[i]?=some (some (B.ow l))->∃a xs,σ[i]?=some (some (V.ref a))/\G a=none/\H0 a=none/\H a=some (.lst xs)/\RpL K G l xs
 ap:∀(i j:Nat) l l' a b,ρ[i]?=some (some (B.ow l))->ρ[j]?=some (some (B.ow l'))->i≠j->σ[i]?=some (some (V.ref a))->σ[j]?=some (some (V.ref b))->a≠b
 od:∀(i:Nat) t ks vs,ρ[i]?=some (some (B.od t ks vs))->∃a kxs vxs,σ[i]?=some (some (V.ref a))/\G a=none/\H0 a=none/\Dc t G H a kxs vxs/\RpL K G ks kxs/\RpL K G vs vxs
 apd:∀(i j:Nat) t ks vs t' ks' vs' a b,ρ[i]?=some (some (B.od t ks vs))->ρ[j]?=some (some (B.od t' ks' vs'))->i≠j->σ[i]?=some (some (V.ref a))->σ[j]?=some (some (V.ref b))->a≠b
section
variable {H0 G0 H G H' G':Hp} {σ:L2.St} {ρ:Ro}
theorem SR.mkSh(g:Gr H0 G0 H G)(len:σ.length=ρ.length)(sh:∀(i:Nat) d,ρ[i]?=some (some (B.sh d))->∃v,σ[i]?=some (some v)/\Rp K G d v)(no:∀(i:Nat) l,ρ[i]?≠some (some (B.ow l)))(no':∀(i:Nat) t ks vs,ρ[i]?≠some (some (B.od t ks vs))):SR K H0 G0 σ H G ρ:=
 ⟨g,len,sh,fun i l h=>absurd h (no i l),fun i j l l' a b h=>absurd h (no i l),fun i t ks vs h=>absurd h (no' i t ks vs),fun i j t ks vs t' ks' vs' a b h=>absurd h (no' i t ks vs)⟩
theorem Ykt(g:Gr H G H' G'){a:Addr}{o:HO}(h:H a=some o)(n:G a=none):G' a=none:=by
 cases q:G' a with
 | none=>rfl
 | some o=>
   have:=g.n a n (by rw[q];exact fun z=>nomatch z)
   rw[h]at this
   cases this
theorem SR.grow(s:SR K H0 G0 σ H G ρ)(g:Gr H G H' G'):SR K H0 G0 σ H' G' ρ:=by
 refine⟨s.gr.trans g,s.len,fun i d e=>?_,fun i l e=>?_,s.ap,fun i t ks vs e=>?_,s.apd⟩
 ·obtain⟨v,h1,h2⟩:=s.sh i d e
  exact⟨v,h1,h2.mono g.g⟩
 ·obtain⟨a,xs,h1,h2,h3,h4,h5⟩:=s.ow i l e
  exact⟨a,xs,h1,Ykt g h4 h2,h3,g.h _ _ h4,h5.mono g.g⟩
 ·obtain⟨a,kxs,vxs,h1,h2,h3,h4,h5,h6⟩:=s.od i t ks vs e
  obtain⟨o,h7,_⟩:=h4.some
  exact⟨a,kxs,vxs,h1,Ykt g h7 h2,h3,h4.mono g.g fun o=>g.h _ o,h5.mono g.g,h6.mono g.g⟩
theorem SR.seen(s:SR K H0 G0 σ H G ρ):Same G H:=s.gr.s
theorem Yj{α:Type}{l:List α}{i j:Nat}{x y:α}(h:(l.set i x)[j]?=some y):(j=i/\y=x/\i < l.length)\/(j≠i/\l[j]?=some y):=by
 by_cases e:j=i
 ·subst e
  have hl:j < l.length:=by
   have:=(qm h).1
   simpa using this
  rw[List.getElem?_set_self hl]at h
  exact .inl ⟨rfl,(Option.some.inj h).symm,hl⟩
 ·rw[qy (Ne.symm e)]at h
  exact .inr ⟨e,h⟩
theorem SR.set_sh(s:SR K H0 G0 σ H G ρ)(i:Nat){d:D}{v:V}(r:Rp K G d v):SR K H0 G0 (σ.set i (some v)) H G (ρ.set i (some (.sh d))):=by
 refine⟨s.gr,by simp[s.len],fun j e h=>?_,fun j l h=>?_,fun j k l l' a b h1 h2 h3 h4 h5=>?_,fun j t ks vs h=>?_,fun j k t ks vs t' ks' vs' a b h1 h2 h3 h4 h5=>?_⟩
 ·rcases Yj h with⟨rfl,e1,hl⟩ | ⟨hj,h⟩
  ·cases e1
   exact⟨v,by rw[List.getElem?_set_self (by rw[s.len];exact hl)],r⟩
  ·obtain⟨w,q1,q2⟩:=s.sh j e h
   exact⟨w,by rw[qy (Ne.symm hj)];exact q1,q2⟩
 ·rcases Yj h with⟨rfl,e1,hl⟩ | ⟨hj,h⟩
  ·cases e1
  ·obtain⟨a,xs,q1,q2⟩:=s.ow j l h
   exact⟨a,xs,by rw[qy (Ne.symm hj)];exact q1,q2⟩
 ·rcases Yj h1 with⟨rfl,e1,_⟩ | ⟨hj,h1⟩
  ·cases e1
  ·rcases Yj h2 with⟨rfl,e1,_⟩ | ⟨hk,h2⟩
   ·cases e1
   ·rw[qy (Ne.symm hj)]at h4
    rw[qy (Ne.symm hk)]at h5
    exact s.ap j k l l' a b h1 h2 h3 h4 h5
 ·rcases Yj h with⟨rfl,e1,hl⟩ | ⟨hj,h⟩
  ·cases e1
  ·obtain⟨a,kxs,vxs,q1,q2⟩:=s.od j t ks vs h
   exact⟨a,kxs,vxs,by rw[qy (Ne.symm hj)];exact q1,q2⟩
 ·rcases Yj h1 with⟨rfl,e1,_⟩ | ⟨hj,h1⟩
  ·cases e1
  ·rcases Yj h2 with⟨rfl,e1,_⟩ | ⟨hk,h2⟩
   ·cases e1
   ·rw[qy (Ne.symm hj)]at h4
    rw[qy (Ne.symm hk)]at h5
    exact s.apd j k t ks vs t' ks' vs' a b h1 h2 h3 h4 h5
theorem SR.set_ow(s:SR K H0 G0 σ H G ρ)(i:Nat){l:List D}{p:Addr}{xs:List V}(g:Gr H G H' G')(hp:H p=none)(gp:G' p=none)(e:H' p=some (.lst xs))(r:RpL K G' l xs):SR K H0 G0 (σ.set i (some (.ref p))) H' G' (ρ.set i (some (.ow l))):=by
 have s':=s.grow g
 have np:∀(j:Nat) l a,ρ[j]?=some (some (B.ow l))->σ[j]?=some (some (V.ref a))->a≠p:=fun j l a h1 h2 z=>by
  obtain⟨b,ys,q1,_,_,q4,_⟩:=s.ow j l h1
  rw[h2]at q1
  cases q1
  rw[z,hp]at q4
  cases q4
 refine⟨s'.gr,by simp[s.len],fun j e h=>?_,fun j l h=>?_,fun j k l l' a b h1 h2 h3 h4 h5=>?_,fun j t ks vs h=>?_,fun j k t ks vs t' ks' vs' a b h1 h2 h3 h4 h5=>?_⟩
 ·rcases Yj h with⟨rfl,e1,hl⟩ | ⟨hj,h⟩
  ·cases e1
  ·obtain⟨w,q1,q2⟩:=s'.sh j e h
   exact⟨w,by rw[qy (Ne.symm hj)];exact q1,q2⟩
 ·rcases Yj h with⟨rfl,e1,hl⟩ | ⟨hj,h⟩
  ·cases e1
   exact⟨p,xs,by rw[List.getElem?_set_self (by rw[s.len];exact hl)],gp,s.gr.h.free hp,e,r⟩
  ·obtain⟨a,xs,q1,q2⟩:=s'.ow j l h
   exact⟨a,xs,by rw[qy (Ne.symm hj)];exact q1,q2⟩
 ·rcases Yj h1 with⟨rfl,e1,hl⟩ | ⟨hj,h1n⟩
  ·rcases Yj h2 with⟨rfl,e2,_⟩ | ⟨hk,h2⟩
   ·exact absurd rfl h3
   ·rw[List.getElem?_set_self (by rw[s.len];exact hl)]at h4
    cases h4
    rw[qy (Ne.symm hk)]at h5
    exact Ne.symm (np k l' b h2 h5)
  ·rcases Yj h2 with⟨rfl,e2,hl⟩ | ⟨hk,h2⟩
   ·rw[List.getElem?_set_self (by rw[s.len];exact hl)]at h5
    cases h5
    rw[qy (Ne.symm hj)]at h4
    exact np j l a h1n h4
   ·rw[qy (Ne.symm hj)]at h4
    rw[qy (Ne.symm hk)]at h5
    exact s.ap j k l l' a b h1n h2 h3 h4 h5
 ·rcases Yj h with⟨rfl,e1,hl⟩ | ⟨hj,h⟩
  ·cases e1
  ·obtain⟨a,kxs,vxs,q1,q2⟩:=s'.od j t ks vs h
   exact⟨a,kxs,vxs,by rw[qy (Ne.symm hj)];exact q1,q2⟩
 ·rcases Yj h1 with⟨rfl,e1,_⟩ | ⟨hj,h1⟩
  ·cases e1
  ·rcases Yj h2 with⟨rfl,e1,_⟩ | ⟨hk,h2⟩
   ·cases e1
   ·rw[qy (Ne.symm hj)]at h4
    rw[qy (Ne.symm hk)]at h5
    exact s.apd j k t ks vs t' ks' vs' a b h1 h2 h3 h4 h5
theorem SR.mut(s:SR K H0 G0 σ H G ρ){i:Nat}{l l':List D}{a:Addr}{ys:List V}(hi:ρ[i]?=some (some (B.ow l)))(ha:σ[i]?=some (some (V.ref a)))(r:RpL K G l' ys):SR K H0 G0 σ (upd H a (.lst ys)) G (ρ.set i (some (.ow l'))):=by
 obtain⟨a',xs,q1,q2,q3,q4,q5⟩:=s.ow i l hi
 rw[ha]at q1
 cases q1
 have hl:i < ρ.length:=(qm hi).1
 refine⟨⟨fun b o e=>?_,s.gr.g,fun b o e=>?_,s.gr.n⟩,by simp[s.len],fun j e h=>?_,fun j m h=>?_,fun j k m m' b c h1 h2 h3 h4 h5=>?_,fun j t ks vs h=>?_,fun j k t ks vs t' ks' vs' b c h1 h2 h3 h4 h5=>?_⟩
 ·rw[Yk (Yv e q3)];exact s.gr.h b o e
 ·rw[Yk (Yv e q2)];exact s.gr.s b o e
 ·rcases Yj h with⟨rfl,e1,_⟩ | ⟨hj,h⟩
  ·cases e1
  ·exact s.sh j e h
 ·rcases Yj h with⟨rfl,e1,_⟩ | ⟨hj,h⟩
  ·cases e1
   exact⟨a,ys,ha,q2,q3,Yo,r⟩
  ·obtain⟨b,zs,p1,p2,p3,p4,p5⟩:=s.ow j m h
   exact⟨b,zs,p1,p2,p3,by rw[Yk (s.ap j i m l b a h hi hj p1 ha)];exact p4,p5⟩
 ·have old:∀(j:Nat) m,(ρ.set i (some (.ow l')))[j]?=some (some (B.ow m))->∃m',ρ[j]?=some (some (B.ow m')):=fun j m h=>by
   rcases Yj h with⟨rfl,_,_⟩ | ⟨_,h⟩
   ·exact⟨l,hi⟩
   ·exact⟨m,h⟩
  obtain⟨n1,e1⟩:=old j m h1
  obtain⟨n2,e2⟩:=old k m' h2
  exact s.ap j k n1 n2 b c e1 e2 h3 h4 h5
 ·rcases Yj h with⟨rfl,e1,_⟩ | ⟨hj,h⟩
  ·cases e1
  ·obtain⟨b,kxs,vxs,p1,p2,p3,p4,p5⟩:=s.od j t ks vs h
   refine⟨b,kxs,vxs,p1,p2,p3,p4.mono (Same.refl _) fun o q=>?_,p5⟩
   obtain⟨o',q',nl⟩:=p4.some
   rw[q]at q'
   cases q'
   rw[Yk (fun z=>by rw[z,q4]at q;cases q;exact nl _ rfl)];exact q
 ·rcases Yj h1 with⟨rfl,e1,_⟩ | ⟨hj,h1⟩
  ·cases e1
  ·rcases Yj h2 with⟨rfl,e1,_⟩ | ⟨hk,h2⟩
   ·cases e1
   ·exact s.apd j k t ks vs t' ks' vs' b c h1 h2 h3 h4 h5
theorem SR.freezeT(s:SR K H0 G0 σ H G ρ){i:Nat}{l:List D}(hi:ρ[i]?=some (some (B.ow l))):∃G',SR K H0 G0 σ H G' (ρ.set i (some (.sh (.lst l))))/\∀b ys,G' b=some (.tup ys)->G b=some (.tup ys):=by
 obtain⟨a,xs,q1,q2,q3,q4,q5⟩:=s.ow i l hi
 have hl:i < ρ.length:=(qm hi).1
 have sm:Same G (upd G a (.lst xs)):=fun b o e=>by rw[Yk (Yv e q2)];exact e
 refine⟨upd G a (.lst xs),?_,fun b ys e=>by
  by_cases z:b=a
  ·subst z;rw[Yo]at e;cases e
  ·rw[Yk z]at e;exact e⟩
 refine⟨⟨s.gr.h,s.gr.g.trans sm,fun b o e=>?_,fun b h h'=>?_⟩,by simp[s.len],fun j e h=>?_,fun j m h=>?_,fun j k m m' b c h1 h2 h3 h4 h5=>?_,fun j t ks vs h=>?_,fun j k t ks vs t' ks' vs' b c h1 h2 h3 h4 h5=>?_⟩
 ·by_cases z:b=a
  ·subst z;rw[Yo]at e;rw[q4];exact e
  ·rw[Yk z]at e;exact s.gr.s b o e
 ·by_cases z:b=a
  ·subst z;exact q3
  ·rw[Yk z]at h';exact s.gr.n b h h'
 ·rcases Yj h with⟨rfl,e1,_⟩ | ⟨hj,h⟩
  ·cases e1
   exact⟨_,q1,by rw[Rp];exact⟨a,xs,rfl,.inl Yo,q5.mono sm⟩⟩
  ·obtain⟨v,p1,p2⟩:=s.sh j e h
   exact⟨v,p1,p2.mono sm⟩
 ·rcases Yj h with⟨rfl,e1,_⟩ | ⟨hj,h⟩
  ·cases e1
  ·obtain⟨b,zs,p1,p2,p3,p4,p5⟩:=s.ow j m h
   exact⟨b,zs,p1,by rw[Yk (s.ap j i m l b a h hi hj p1 q1)];exact p2,p3,p4,p5.mono sm⟩
 ·rcases Yj h1 with⟨rfl,e1,_⟩ | ⟨hj,h1⟩
  ·cases e1
  ·rcases Yj h2 with⟨rfl,e1,_⟩ | ⟨hk,h2⟩
   ·cases e1
   ·exact s.ap j k m m' b c h1 h2 h3 h4 h5
 ·rcases Yj h with⟨rfl,e1,_⟩ | ⟨hj,h⟩
  ·cases e1
  ·obtain⟨b,kxs,vxs,p1,p2,p3,p4,p5,p6⟩:=s.od j t ks vs h
   obtain⟨o',q',nl⟩:=p4.some
   exact⟨b,kxs,vxs,p1,by rw[Yk (fun z=>by rw[z,q4]at q';cases q';exact nl _ rfl)];exact p2,p3,p4.mono sm fun _ z=>z,p5.mono sm,p6.mono sm⟩
 ·rcases Yj h1 with⟨rfl,e1,_⟩ | ⟨hj,h1⟩
  ·cases e1
  ·rcases Yj h2 with⟨rfl,e1,_⟩ | ⟨hk,h2⟩
   ·cases e1
   ·exact s.apd j k t ks vs t' ks' vs' b c h1 h2 h3 h4 h5
theorem SR.freeze(s:SR K H0 G0 σ H G ρ){i:Nat}{l:List D}(hi:ρ[i]?=some (some (B.ow l))):∃G',SR K H0 G0 σ H G' (ρ.set i (some (.sh (.lst l)))):=by
 obtain⟨G',h,_⟩:=s.freezeT hi
 exact⟨G',h⟩
theorem SR.freezedT(s:SR K H0 G0 σ H G ρ){i:Nat}{t:Bool}{ks vs:List D}(hi:ρ[i]?=some (some (B.od t ks vs))):∃G',SR K H0 G0 σ H G' (ρ.set i (some (.sh (.dct t ks vs))))/\∀b ys,G' b=some (.tup ys)->G b=some (.tup ys):=by
 obtain⟨a,kxs,vxs,q1,q2,q3,q4,q5,q6⟩:=s.od i t ks vs hi
 obtain⟨o,q7,nl⟩:=q4.some
 have hl:i < ρ.length:=(qm hi).1
 have sm:Same G (upd G a o):=fun b o e=>by rw[Yk (Yv e q2)];exact e
 obtain⟨oT,q8,nt⟩:=q4.someT
 rw[q7]at q8
 cases q8
 refine⟨upd G a o,?_,fun b ys e=>by
  by_cases z:b=a
  ·subst z;rw[Yo]at e;cases e;exact absurd rfl (nt _)
  ·rw[Yk z]at e;exact e⟩
 refine⟨⟨s.gr.h,s.gr.g.trans sm,fun b o' e=>?_,fun b h h'=>?_⟩,by simp[s.len],fun j e h=>?_,fun j m h=>?_,fun j k m m' b c h1 h2 h3 h4 h5=>?_,fun j t ks vs h=>?_,fun j k t ks vs t' ks' vs' b c h1 h2 h3 h4 h5=>?_⟩
 ·by_cases z:b=a
  ·subst z;rw[Yo]at e;rw[q7];exact e
  ·rw[Yk z]at e;exact s.gr.s b o' e
 ·by_cases z:b=a
  ·subst z;exact q3
  ·rw[Yk z]at h';exact s.gr.n b h h'
 ·rcases Yj h with⟨rfl,e1,_⟩ | ⟨hj,h⟩
  ·cases e1
   refine⟨_,q1,?_⟩
   rw[Rp]
   refine⟨a,kxs,vxs,rfl,q4.mono sm fun o' z=>?_,q5.mono sm,q6.mono sm⟩
   rw[q7]at z
   rw[Yo];exact z
  ·obtain⟨v,p1,p2⟩:=s.sh j e h
   exact⟨v,p1,p2.mono sm⟩
 ·rcases Yj h with⟨rfl,e1,_⟩ | ⟨hj,h⟩
  ·cases e1
  ·obtain⟨b,zs,p1,p2,p3,p4,p5⟩:=s.ow j m h
   exact⟨b,zs,p1,by rw[Yk (fun z=>by rw[z,q7]at p4;cases p4;exact nl _ rfl)];exact p2,p3,p4,p5.mono sm⟩
 ·rcases Yj h1 with⟨rfl,e1,_⟩ | ⟨hj,h1⟩
  ·cases e1
  ·rcases Yj h2 with⟨rfl,e1,_⟩ | ⟨hk,h2⟩
   ·cases e1
   ·exact s.ap j k m m' b c h1 h2 h3 h4 h5
 ·rcases Yj h with⟨rfl,e1,_⟩ | ⟨hj,h⟩
  ·cases e1
  ·obtain⟨b,kx,vx,p1,p2,p3,p4,p5,p6⟩:=s.od j t ks vs h
   exact⟨b,kx,vx,p1,by rw[Yk (s.apd j i _ _ _ _ _ _ b a h hi hj p1 q1)];exact p2,p3,p4.mono sm fun _ z=>z,p5.mono sm,p6.mono sm⟩
 ·rcases Yj h1 with⟨rfl,e1,_⟩ | ⟨hj,h1⟩
  ·cases e1
  ·rcases Yj h2 with⟨rfl,e1,_⟩ | ⟨hk,h2⟩
   ·cases e1
   ·exact s.apd j k t ks vs t' ks' vs' b c h1 h2 h3 h4 h5
theorem SR.freezed(s:SR K H0 G0 σ H G ρ){i:Nat}{t:Bool}{ks vs:List D}(hi:ρ[i]?=some (some (B.od t ks vs))):∃G',SR K H0 G0 σ H G' (ρ.set i (some (.sh (.dct t ks vs)))):=by
 obtain⟨G',h,_⟩:=s.freezedT hi
 exact⟨G',h⟩
def Le(ρ ρ':Ro):Prop:=ρ.length=ρ'.length/\∀(i:Nat) b,ρ[i]?=some (some b)->ρ'[i]?=some (some b)
theorem SR.le{ρ':Ro}(s:SR K H0 G0 σ H G ρ')(h:Le ρ ρ'):SR K H0 G0 σ H G ρ:=
 ⟨s.gr,s.len.trans h.1.symm,fun i d e=>s.sh i d (h.2 i _ e),fun i l e=>s.ow i l (h.2 i _ e),fun i j l l' a b e1 e2=>s.ap i j l l' a b (h.2 i _ e1) (h.2 j _ e2),
  fun i t ks vs e=>s.od i t ks vs (h.2 i _ e),fun i j t ks vs t' ks' vs' a b e1 e2=>s.apd i j t ks vs t' ks' vs' a b (h.2 i _ e1) (h.2 j _ e2)⟩
theorem SR.rebase(s:SR K H0 G0 σ H G ρ):∃H1,SR K H1 G σ H G ρ/\∀σ' H' G' ρ',SR K H1 G σ' H' G' ρ'->SR K H0 G0 σ' H' G' ρ':=by
 classical
 let own:Addr->Prop:=fun a=>∃(i:Nat),((∃l:List D,ρ[i]?=some (some (B.ow l)))\/(∃t ks vs,ρ[i]?=some (some (B.od t ks vs))))/\σ[i]?=some (some (V.ref a))
 have h0:∀a,own a->H0 a=none:=fun a hx_=>by
  obtain⟨i,e1,e2⟩:=hx_
  rcases e1 with⟨l,e1⟩ | ⟨t,ks,vs,e1⟩
  ·obtain⟨b,xs,q1,_,q3,_⟩:=s.ow i l e1
   rw[e2]at q1;cases q1;exact q3
  ·obtain⟨b,kxs,vxs,q1,_,q3,_⟩:=s.od i t ks vs e1
   rw[e2]at q1;cases q1;exact q3
 have back:∀a,(if own a then (none:Option HO)else H a)=none->H0 a=none:=fun a h=>by
  by_cases o:own a
  ·exact h0 a o
  ·rw[if_neg o]at h;exact s.gr.h.free h
 refine⟨fun a=>if own a then none else H a,⟨⟨fun b o e=>?_,Same.refl _,s.gr.s,fun _ h h'=>absurd h h'⟩,s.len,s.sh,fun i l e=>?_,s.ap,fun i t ks vs e=>?_,s.apd⟩,fun σ' H' G' ρ' t=>⟨⟨fun b o e=>?_,s.gr.g.trans t.gr.g,t.gr.s,fun b h h'=>?_⟩,t.len,t.sh,fun i l e=>?_,t.ap,fun i t1 ks vs e=>?_,t.apd⟩⟩
 ·by_cases z:own b
  ·simp only[if_pos z]at e;cases e
  ·simp only[if_neg z]at e;exact e
 ·obtain⟨a,xs,q1,q2,q3,q4,q5⟩:=s.ow i l e
  exact⟨a,xs,q1,q2,if_pos ⟨i,.inl ⟨l,e⟩,q1⟩,q4,q5⟩
 ·obtain⟨a,kxs,vxs,q1,q2,q3,q4⟩:=s.od i t ks vs e
  exact⟨a,kxs,vxs,q1,q2,if_pos ⟨i,.inr ⟨t,ks,vs,e⟩,q1⟩,q4⟩
 ·refine t.gr.h b o ?_
  have z:¬own b:=fun z=>by rw[h0 b z]at e;cases e
  show(if own b then none else H b)=some o
  rw[if_neg z];exact s.gr.h b o e
 ·by_cases z:G b=none
  ·exact back b (t.gr.n b z h')
  ·exact s.gr.n b h z
 ·obtain⟨a,xs,q1,q2,q3,q4,q5⟩:=t.ow i l e
  exact⟨a,xs,q1,q2,back a q3,q4,q5⟩
 ·obtain⟨a,kxs,vxs,q1,q2,q3,q4⟩:=t.od i t1 ks vs e
  exact⟨a,kxs,vxs,q1,q2,back a q3,q4⟩
end
def tOf(K:W.Frag)(f:Ro->Option D):TE:=fun σ H Q=>∃ρ d H0 G0 G,f ρ=some d/\SR K H0 G0 σ H G ρ/\∀v H' G',Gr H G H' G'->Rp K G' d v->Q v H'
def tCof(K:W.Frag)(f:Ro->Option D):TE:=fun σ H Q=>∃ρ d H0 G0 G,f ρ=some d/\SR K H0 G0 σ H G ρ/\∀v H' G',Gr H G H' G'->Ct K G' H' d v->Q v H'
def tCAof(K:W.Frag)(f:Ro->Option (List D)):TA:=fun σ H Q=>∃ρ l H0 G0 G,f ρ=some l/\SR K H0 G0 σ H G ρ/\∀vs H' G',Gr H G H' G'->CtL K G' H' l vs->Q vs H'
def tFof(K:W.Frag)(f:Ro->Option (List D)):TE:=fun σ H Q=>∃ρ l H0 G0 G,f ρ=some l/\SR K H0 G0 σ H G ρ/\∀p xs H' G',Gr H G H' G'->H p=none->G' p=none->H' p=some (.lst xs)->RpL K G' l xs->Q (.ref p) H'
def tTof(K:W.Frag)(f:Ro->Option Bool):TT:=fun σ H Q=>∃ρ b H0 G0 G,f ρ=some b/\SR K H0 G0 σ H G ρ/\∀H' G',Gr H G H' G'->Q b H'
def tAof(K:W.Frag)(f:Ro->Option (List D)):TA:=fun σ H Q=>∃ρ l H0 G0 G,f ρ=some l/\SR K H0 G0 σ H G ρ/\∀vs H' G',Gr H G H' G'->RpL K G' l vs->Q vs H'
def Wk(K:W.Frag)(J:It)(G':Hp)(ds:List D):Prop:=ds.length<=sizeLine/\∀(i:Nat) H2 G2,Same G' G2->Same G2 H2->
 (∀d,ds[i]?=some d->J.go i H2/\∀y H3,J.yld i H2 y H3->∃G3,Gr H2 G2 H3 G3/\Rp K G3 d y)/\(ds.length<=i->J.stop i H2)
def tIof(K:W.Frag)(f:Ro->Option (List D)):TI:=fun σ H R=>∃ρ ds H0 G0 G,f ρ=some ds/\SR K H0 G0 σ H G ρ/\∀J H' G',Gr H G H' G'->Wk K J G' ds->R J H'
inductive Out where
 | nx (ρ:Ro) | rt (d:D) | bk (ρ:Ro) | ct (ρ:Ro)
def Cont(K:W.Frag)(H0 G0:Hp)(F:Ends):Out->Prop
 | .nx ρ'=>∀σ' H' G',SR K H0 G0 σ' H' G' ρ'->F.nx σ' H'
 | .rt d=>∀v H' G',Gr H0 G0 H' G'->Rp K G' d v->F.rt v H'
 | .bk ρ'=>∀σ' H' G',SR K H0 G0 σ' H' G' ρ'->F.bk σ' H'
 | .ct ρ'=>∀σ' H' G',SR K H0 G0 σ' H' G' ρ'->F.ct σ' H'
def sOf(K:W.Frag)(f:Ro->Option Out):TS:=fun F σ H=>∃ρ out H0 G0 G,f ρ=some out/\SR K H0 G0 σ H G ρ/\Cont K H0 G0 F out
def gOf(K:W.Frag)(gt:D->Ro->Option Ro):TG:=fun v σ H Q=>∃d ρ ρ' H0 G0 G,gt d ρ=some ρ'/\SR K H0 G0 σ H G ρ/\Rp K G d v/\∀σ',SR K H0 G0 σ' H G ρ'->Q σ' H
abbrev ME(X:Cx)(e:Expr)(f:Ro->Option D):Prop:=PE X e (tOf X.K f)
abbrev MC(X:Cx)(e:Expr)(f:Ro->Option D):Prop:=PE X e (tCof X.K f)
abbrev MCA(X:Cx)(es:List Expr)(f:Ro->Option (List D)):Prop:=PA X es (tCAof X.K f)
abbrev MF(X:Cx)(e:Expr)(f:Ro->Option (List D)):Prop:=PE X e (tFof X.K f)
abbrev MT(X:Cx)(e:Expr)(f:Ro->Option Bool):Prop:=PT X e (tTof X.K f)
abbrev MA(X:Cx)(es:List Expr)(f:Ro->Option (List D)):Prop:=PA X es (tAof X.K f)
abbrev MI(X:Cx)(tg iter:Expr)(f:Ro->Option (List D)):Prop:=PI X tg iter (tIof X.K f)
abbrev MS(X:Cx)(st:Stmt)(f:Ro->Option Out):Prop:=PS X st (sOf X.K f)
abbrev MB(X:Cx)(sts:List Stmt)(f:Ro->Option Out):Prop:=PSs X sts (sOf X.K f)
abbrev MG(X:Cx)(tg:Expr)(gt:D->Ro->Option Ro):Prop:=PG X tg (gOf X.K gt)
section
variable {X:Cx}
theorem PE.imp{e:Expr}{t t':TE}(h:PE X e t)(i:∀σ H Q,t' σ H Q->t σ H Q):PE X e t':=fun pins s σ H Q I hw=>h pins s σ H Q I (i σ H Q hw)
theorem PT.imp{e:Expr}{t t':TT}(h:PT X e t)(i:∀σ H Q,t' σ H Q->t σ H Q):PT X e t':=fun pins s σ H Q I hw=>h pins s σ H Q I (i σ H Q hw)
theorem PA.imp{es:List Expr}{t t':TA}(h:PA X es t)(i:∀σ H Q,t' σ H Q->t σ H Q):PA X es t':=fun pos pins s σ H Q I hw=>h pos pins s σ H Q I (i σ H Q hw)
theorem PS.imp{st:Stmt}{t t':TS}(h:PS X st t)(i:∀F σ H,t' F σ H->t F σ H):PS X st t':=fun pins s σ H F I hw=>h pins s σ H F I (i F σ H hw)
theorem PSs.imp{st:List Stmt}{t t':TS}(h:PSs X st t)(i:∀F σ H,t' F σ H->t F σ H):PSs X st t':=fun pins s σ H F I hw=>h pins s σ H F I (i F σ H hw)
theorem PI.imp{tg e:Expr}{t t':TI}(h:PI X tg e t)(i:∀σ H R,t' σ H R->t σ H R):PI X tg e t':=fun pins s σ H R I hw=>h pins s σ H R I (i σ H R hw)
theorem PG.imp{e:Expr}{t t':TG}(h:PG X e t)(i:∀v σ H Q,t' v σ H Q->t v σ H Q):PG X e t':=fun pins s σ H v u Q I r hw=>h pins s σ H v u Q I r (i v σ H Q hw)
variable {H0 G0 H G:Hp} {σ:L2.St} {ρ:Ro}
theorem tOf.at{f:Ro->Option D}{d:D}{Q:VK}(e:f ρ=some d)(s:SR K H0 G0 σ H G ρ)(h:∀v H' G',Gr H G H' G'->Rp K G' d v->SR K H0 G0 σ H' G' ρ->Q v H'):tOf K f σ H Q:=
 ⟨ρ,d,H0,G0,G,e,s,fun v H' G' g r=>h v H' G' g r (s.grow g)⟩
theorem tCof.at{f:Ro->Option D}{d:D}{Q:VK}(e:f ρ=some d)(s:SR K H0 G0 σ H G ρ)(h:∀v H' G',Gr H G H' G'->Ct K G' H' d v->SR K H0 G0 σ H' G' ρ->Q v H'):tCof K f σ H Q:=
 ⟨ρ,d,H0,G0,G,e,s,fun v H' G' g r=>h v H' G' g r (s.grow g)⟩
theorem tCAof.at{f:Ro->Option (List D)}{l:List D}{Q:List V->Hp->Prop}(e:f ρ=some l)(s:SR K H0 G0 σ H G ρ)(h:∀vs H' G',Gr H G H' G'->CtL K G' H' l vs->SR K H0 G0 σ H' G' ρ->Q vs H'):tCAof K f σ H Q:=
 ⟨ρ,l,H0,G0,G,e,s,fun v H' G' g r=>h v H' G' g r (s.grow g)⟩
theorem ME.mc{e:Expr}{f:Ro->Option D}(h:ME X e f):MC X e f:=PE.imp h fun σ H Q ⟨ρ,d,H0,G0,G,e,s,h⟩=>⟨ρ,d,H0,G0,G,e,s,fun v H' G' g r=>h v H' G' g (.of g.s r)⟩
theorem tTof.at{f:Ro->Option Bool}{b:Bool}{Q:Bool->Hp->Prop}(e:f ρ=some b)(s:SR K H0 G0 σ H G ρ)(h:∀H' G',Gr H G H' G'->SR K H0 G0 σ H' G' ρ->Q b H'):tTof K f σ H Q:=
 ⟨ρ,b,H0,G0,G,e,s,fun H' G' g=>h H' G' g (s.grow g)⟩
theorem tAof.at{f:Ro->Option (List D)}{l:List D}{Q:List V->Hp->Prop}(e:f ρ=some l)(s:SR K H0 G0 σ H G ρ)(h:∀vs H' G',Gr H G H' G'->RpL K G' l vs->SR K H0 G0 σ H' G' ρ->Q vs H'):tAof K f σ H Q:=
 ⟨ρ,l,H0,G0,G,e,s,fun v H' G' g r=>h v H' G' g r (s.grow g)⟩
end
end
section
variable {K:W.Frag}
def b2{α:Type}(fa fb:Ro->Option D)(g:D->D->Option α):Ro->Option α:=fun ρ=>(fa ρ).bind fun x=>(fb ρ).bind fun y=>g x y
def b1{α:Type}(fa:Ro->Option D)(g:D->Option α):Ro->Option α:=fun ρ=>(fa ρ).bind g
theorem Yjm{α:Type}{fa fb:Ro->Option D}{g:D->D->Option α}{ρ:Ro}{r:α}(h:b2 fa fb g ρ=some r):∃x y,fa ρ=some x/\fb ρ=some y/\g x y=some r:=by
 unfold b2 at h
 obtain⟨x,h1,h⟩:=qa h
 obtain⟨y,h2,h⟩:=qa h
 exact⟨x,y,h1,h2,h⟩
theorem Yca{α:Type}{fa:Ro->Option D}{g:D->Option α}{ρ:Ro}{r:α}(h:b1 fa g ρ=some r):∃x,fa ρ=some x/\g x=some r:=by
 unfold b1 at h
 obtain⟨x,h1,h⟩:=qa h
 exact⟨x,h1,h⟩
def Sem2(K:W.Frag)(r:R2)(g:D->D->Option D):Prop:=∀(x y:V) (dx dy d:D) (H G:Hp) (Q:VK),g dx dy=some d->Same G H->Ct K G H dx x->Ct K G H dy y->(∀v H' G',Gr H G H' G'->Rp K G' d v->Q v H')->r x y H Q
def Yib(K:W.Frag)(r:R2)(g:D->D->Option Bool):Prop:=∀(x y:V) (dx dy:D) (b:Bool) (H G:Hp) (Q:VK),g dx dy=some b->Same G H->Ct K G H dx x->Ct K G H dy y->Q (.bl b) H->r x y H Q
def SemC(K:W.Frag)(r:List V->Hp->VK->Prop)(g:List D->Option D):Prop:=∀(vs:List V) (ds:List D) (d:D) (H G:Hp) (Q:VK),g ds=some d->Same G H->CtL K G H ds vs->(∀v H' G',Gr H G H' G'->Rp K G' d v->Q v H')->r vs H Q
def SemF(K:W.Frag)(r:List V->Hp->VK->Prop)(g:List D->Option (List D)):Prop:=∀(vs:List V) (ds l:List D) (H G:Hp) (Q:VK),g ds=some l->Same G H->CtL K G H ds vs->
 (∀p xs H' G',Gr H G H' G'->H p=none->G' p=none->H' p=some (.lst xs)->RpL K G' l xs->Q (.ref p) H')->r vs H Q
section
variable {X:Cx} {a b c e:Expr} {es:List Expr} {fa fb fc f:Ro->Option D} {ga:Ro->Option (List D)} {pos:Pos}
def getV(i:Nat):Ro->Option D:=fun ρ=>match ρ[i]? with
 | some (some (B.sh d))=>some d
 | _=>none
def getO(i:Nat):Ro->Option (List D):=fun ρ=>match ρ[i]? with
 | some (some (B.ow l))=>some l
 | _=>none
theorem Yg4{i:Nat}{ρ:Ro}{d:D}(h:getV i ρ=some d):ρ[i]?=some (some (B.sh d)):=by
 unfold getV at h
 split at h
 ·cases h;assumption
 ·cases h
theorem Yg5{i:Nat}{ρ:Ro}{l:List D}(h:getO i ρ=some l):ρ[i]?=some (some (B.ow l)):=by
 unfold getO at h
 split at h
 ·cases h;assumption
 ·cases h
theorem Yxe(i:Nat){x:Str}(hN:X.N[i]?=some x:=by rfl)(hv:Vis X.env.scope x:=by first | exact Or.inl rfl | exact Or.inr (Or.inl rfl) | exact Or.inr (Or.inr rfl))(hd:(x==("__debug__":Str))=false:=by decide)
 (hcd:(x==("__classdict__":Str))=false:=by decide):ME X (.Name x pos) (getV i):=
 PE.imp (Yfa hN hv hd hcd) fun σ H Q hx_=>by
  obtain⟨ρ,d,H0,G0,G,e,s,h⟩:=hx_
  obtain⟨v,h1,h2⟩:=s.sh i d (Yg4 e)
  exact⟨v,h1,h v H G (.refl s.seen) h2⟩
def getC(i:Nat):Ro->Option D:=fun ρ=>match ρ[i]? with
 | some (some (B.sh d))=>some d
 | some (some (B.ow l))=>some (.lst l)
 | some (some (B.od t ks vs))=>some (.dct t ks vs)
 | _=>none
theorem Yxf(i:Nat){x:Str}(hN:X.N[i]?=some x:=by rfl)(hv:Vis X.env.scope x:=by first | exact Or.inl rfl | exact Or.inr (Or.inl rfl) | exact Or.inr (Or.inr rfl))(hd:(x==("__debug__":Str))=false:=by decide)
 (hcd:(x==("__classdict__":Str))=false:=by decide):MC X (.Name x pos) (getC i):=
 PE.imp (Yfa hN hv hd hcd) fun σ H Q hx_=>by
  obtain⟨ρ,d,H0,G0,G,e,s,h⟩:=hx_
  unfold getC at e
  split at e
  ·rename_i d' hd'
   cases e
   obtain⟨v,h1,h2⟩:=s.sh i _ hd'
   exact⟨v,h1,h v H G (.refl s.seen) (.of s.seen h2)⟩
  ·rename_i l hl
   cases e
   obtain⟨a,xs,h1,h2,h3,h4,h5⟩:=s.ow i l hl
   exact⟨_,h1,h _ H G (.refl s.seen) (by rw[Ct];exact⟨a,xs,rfl,.inl h4,h5⟩)⟩
  ·rename_i t ks vs hl
   cases e
   obtain⟨a,kxs,vxs,h1,h2,h3,h4,h5⟩:=s.od i t ks vs hl
   exact⟨_,h1,h _ H G (.refl s.seen) (by rw[Ct];exact⟨a,kxs,vxs,rfl,h4,h5⟩)⟩
  ·cases e
def kD(d:D):Ro->Option D:=fun _=>some d
theorem Yff{v:V}{d:D}{t:TE}(h:PE X e t)(ht:∀σ H Q,Q v H->t σ H Q)(hr:∀G,Rp X.K G d v):ME X e (kD d):=
 PE.imp h fun σ H Q hx_=>by
  obtain⟨ρ,d',H0,G0,G,e,s,h⟩:=hx_
  cases e
  exact ht σ H Q (h v H G (.refl s.seen) (hr G))
theorem Yxg{i:Int}{j}:ME X (.Constant (.int i) j pos) (kD (.int i)):=Yff (v:=.int i) Ywj (fun _ _ _ q=>q) fun _=>by rw[Rp]
theorem Yzw{k:Bool}{j}:ME X (.Constant (.bool k) j pos) (kD (.bl k)):=Yff (v:=.bl k) Yzj (fun _ _ _ q=>q) fun _=>by rw[Rp]
theorem Yxh{j}:ME X (.Constant .none j pos) (kD .non):=Yff (v:=.non) Ywk (fun _ _ _ q=>q) fun _=>by rw[Rp]
theorem Yxi{x:Str}{j}(hx:PyData.strOk x=true:=by decide +kernel):ME X (.Constant (.str x) j pos) (kD (.str x)):=Yff (v:=.str x) Ywl (fun _ _ _ q=>q) fun _=>by rw[Rp];exact⟨rfl,hx⟩
theorem Yth{r:R2}{g:D->D->Option D}(hr:Sem2 K r g){σ:L2.St}{H:Hp}{Q:VK}(h:tOf K (b2 fa fb g) σ H Q):tOp r (tCof K fa) (tCof K fb) σ H Q:=by
 obtain⟨ρ,d,H0,G0,G,e,s,h⟩:=h
 obtain⟨dx,dy,h1,h2,h3⟩:=Yjm e
 exact tCof.at h1 s fun v H1 G1 g1 r1 s1=>tCof.at h2 s1 fun u H2 G2 g2 r2 s2=>hr v u dx dy d H2 G2 Q h3 s2.seen (r1.grow g2) r2 fun w H' G' g3 r3=>h w H' G' ((g1.trans g2).trans g3) r3
theorem Yum{r:R2}{g:D->D->Option Bool}(hr:Yib K r g){σ:L2.St}{H:Hp}{Q:Bool->Hp->Prop}(h:tTof K (b2 fa fb g) σ H Q):Yw3 (tOp r (tCof K fa) (tCof K fb)) σ H Q:=by
 obtain⟨ρ,d,H0,G0,G,e,s,h⟩:=h
 obtain⟨dx,dy,h1,h2,h3⟩:=Yjm e
 exact tCof.at h1 s fun v H1 G1 g1 r1 s1=>tCof.at h2 s1 fun u H2 G2 g2 r2 s2=>hr v u dx dy d H2 G2 _ h3 s2.seen (r1.grow g2) r2 ⟨d,rfl,h H2 G2 (g1.trans g2)⟩
def mB(f:Ro->Option Bool):Ro->Option D:=fun ρ=>(f ρ).map D.bl
theorem Ylz{f:Ro->Option Bool}{ρ:Ro}{d:D}(h:mB f ρ=some d):∃b,f ρ=some b/\d=.bl b:=by
 unfold mB at h
 obtain⟨b,h1,h2⟩:=qb h
 exact⟨b,h1,h2.symm⟩
theorem Yr4{r:R2}{g:D->D->Option Bool}(hr:Yib K r g){σ:L2.St}{H:Hp}{Q:VK}(h:tOf K (mB (b2 fa fb g)) σ H Q):tOp r (tCof K fa) (tCof K fb) σ H Q:=by
 obtain⟨ρ,d,H0,G0,G,e,s,h⟩:=h
 obtain⟨b,eb,rfl⟩:=Ylz e
 obtain⟨dx,dy,h1,h2,h3⟩:=Yjm eb
 exact tCof.at h1 s fun v H1 G1 g1 r1 s1=>tCof.at h2 s1 fun u H2 G2 g2 r2 s2=>hr v u dx dy b H2 G2 _ h3 s2.seen (r1.grow g2) r2 (h _ H2 G2 (g1.trans g2) (by rw[Rp]))
theorem Yiv{op:Operator}{r:R2}{g:D->D->Option D}(ho:OpR X (binaryOp op) r)(hr:Sem2 X.K r g)(ha:MC X a fa)(hb:MC X b fb):ME X (.BinOp a op b pos) (b2 fa fb g):=PE.imp (Ywt ho ha hb) fun _ _ _ h=>Yth hr h
theorem Yku{op:CmpOp}{r:R2}{g:D->D->Option Bool}(ho:OpR X (compareOp op) r)(hr:Yib X.K r g)(ha:MC X a fa)(hb:MC X b fb)(hm:behindInMarks op b=false):ME X (.Compare a [op] [b] pos) (mB (b2 fa fb g)):=PE.imp (Yo0 ho ha hb hm) fun _ _ _ h=>Yr4 hr h
theorem Yfg{op:CmpOp}{r:R2}{g:D->D->Option Bool}(ho:OpR X (compareOp op) r)(hr:Yib X.K r g)(ha:MC X a fa)(hb:MC X b fb)(hm:behindInMarks op b=false):MT X (.Compare a [op] [b] pos) (b2 fa fb g):=PT.imp (Yt2 ho ha hb hm) fun _ _ _ h=>Yum hr h
theorem Yzx{r:R2}{g:D->D->Option D}(hi:IxR X r)(hr:Sem2 X.K r g)(ha:MC X a fa)(hb:MC X b fb)(hs:Yjd b):ME X (.Subscript a b pos) (b2 fa fb g):=PE.imp (Yzv hi ha hb hs) fun _ _ _ h=>Yth hr h
def i2(C:Int->Int->Bool)(g:Int->Int->Int):D->D->Option D
 | .int i,.int j=>if C i j=true then some (.int (g i j))else none
 | _,_=>none
def i2b(g:Int->Int->Bool):D->D->Option Bool
 | .int i,.int j=>some (g i j)
 | _,_=>none
theorem Ym4{C:Int->Int->Prop}{Cb:Int->Int->Bool}(hC:∀i j,Cb i j=true->C i j){g:Int->Int->Int}:Sem2 K (rI C fun i j=>.int (g i j)) (i2 Cb g):=by
 intro x y dx dy d H G Q h s rx ry q
 unfold i2 at h
 split at h
 ·split at h
  ·rename_i i j hc
   cases h
   rw[Ct]at rx ry
   subst rx;subst ry
   exact⟨i,j,rfl,rfl,hC i j hc,q _ H G (.refl s) (by rw[Rp])⟩
  ·cases h
 ·cases h
theorem Yph{g:Int->Int->Int}:Sem2 K (rI0 fun i j=>.int (g i j)) (i2 (fun _ _=>true) g):=by
 intro x y dx dy d H G Q h s rx ry q
 unfold i2 at h
 split at h
 ·split at h
  ·rename_i i j hc
   cases h
   rw[Ct]at rx ry
   subst rx;subst ry
   exact⟨i,j,rfl,rfl,q _ H G (.refl s) (by rw[Rp])⟩
  ·cases h
 ·cases h
theorem Yg6{g:Int->Int->Bool}:Yib K (rI0 fun i j=>.bl (g i j)) (i2b g):=by
 intro x y dx dy d H G Q h s rx ry q
 unfold i2b at h
 split at h
 ·rename_i i j
  cases h
  rw[Ct]at rx ry
  subst rx;subst ry
  exact⟨i,j,rfl,rfl,q⟩
 ·cases h
def addI:D->D->Option D:=i2 (fun _ _=>true) fun i j=>i+j
def subI:D->D->Option D:=i2 (fun _ _=>true) fun i j=>i - j
def mulI:D->D->Option D:=i2 (fun i j=>(decide (-(2 ^ 64) < i)&&decide (i < 2 ^ 64))||(decide (-(2 ^ 64) < j)&&decide (j < 2 ^ 64))) fun i j=>i * j
def divI:D->D->Option D:=i2 (fun _ j=>decide (0 < j)&&decide (j < 1073741824)) fun i j=>i / j
def modI:D->D->Option D:=i2 (fun _ j=>decide (0 < j)) fun i j=>i % j
theorem Yxj(ha:MC X a fa)(hb:MC X b fb):ME X (.BinOp a .Sub b pos) (b2 fa fb subI):=Yiv Ywv Yph ha hb
theorem Yxk(ha:MC X a fa)(hb:MC X b fb):ME X (.BinOp a .Mult b pos) (b2 fa fb mulI):=Yiv Yww (Ym4 fun i j h=>by
 simp only[Bool.or_eq_true,Bool.and_eq_true,decide_eq_true_eq]at h
 exact h) ha hb
theorem Yxl(ha:MC X a fa)(hb:MC X b fb):ME X (.BinOp a .FloorDiv b pos) (b2 fa fb divI):=Yiv Yt1 (Ym4 fun i j h=>by
 simp only[Bool.and_eq_true,decide_eq_true_eq]at h
 exact h) ha hb
theorem Yxm(ha:MC X a fa)(hb:MC X b fb):ME X (.BinOp a .Mod b pos) (b2 fa fb modI):=Yiv Ywx (Ym4 fun i j h=>of_decide_eq_true h) ha hb
def ltI:=i2b fun i j=>decide (i < j)
def gtI:=i2b fun i j=>decide (j < i)
def geI:=i2b fun i j=>decide (j<=i)
theorem Yzy(ha:MC X a fa)(hb:MC X b fb):ME X (.Compare a [.Gt] [b] pos) (mB (b2 fa fb gtI)):=Yku Yw0 Yg6 ha hb (Yc9 _)
theorem Yzz(ha:MC X a fa)(hb:MC X b fb):ME X (.Compare a [.GtE] [b] pos) (mB (b2 fa fb geI)):=Yku Yw1 Yg6 ha hb (Yc9 _)
theorem Yz0(ha:MC X a fa)(hb:MC X b fb):MT X (.Compare a [.Lt] [b] pos) (b2 fa fb ltI):=Yfg Yzr Yg6 ha hb (Yc9 _)
theorem Yz1(ha:MC X a fa)(hb:MC X b fb):MT X (.Compare a [.Gt] [b] pos) (b2 fa fb gtI):=Yfg Yw0 Yg6 ha hb (Yc9 _)
theorem Yz2(ha:MC X a fa)(hb:MC X b fb):MT X (.Compare a [.GtE] [b] pos) (b2 fa fb geI):=Yfg Yw1 Yg6 ha hb (Yc9 _)
mutual
def dep:D->Nat
 | .tup l=>depL l+1
 | .lst l=>depL l+1
 | .scr _=>1
 | .dct _ _ _=>1000
 | .obj _ _ _=>1000
 | .adr _=>1000
 | _=>0
def depL:List D->Nat
 | []=>0
 | d::l=>max (dep d) (depL l)
end
mutual
theorem Ycm:∀d:D,(toPy d).depth<=dep d
 | .non=>by simp[toPy,PyData.depth,dep]
 | .bl b=>by simp[toPy,PyData.depth,dep]
 | .int b=>by simp[toPy,PyData.depth,dep]
 | .str b=>by simp[toPy,PyData.depth,dep]
 | .tup l=>by have:=Ydh l;simp[toPy,PyData.depth,dep];lia
 | .lst l=>by have:=Ydh l;simp[toPy,PyData.depth,dep];lia
 | .scr ns=>by rw[toPy,PyData.depth,dep,W.ke_depthAll];exact qs _
 | .dct _ _ _=>by simp[toPy,PyData.depth,dep]
 | .obj _ _ _=>by simp[toPy,PyData.depth,dep]
 | .adr _=>by simp[toPy,PyData.depth,dep]
theorem Ydh:∀l:List D,PyData.depthAll (Ycv l)<=depL l
 | []=>by simp[Ycv,PyData.depthAll,depL]
 | d::l=>by have h1:=Ycm d;have h2:=Ydh l;simp[Ycv,PyData.depthAll,depL];lia
end
section
variable {pins:List (Addr × Obj)} {σ:L2.St} {H:Hp} {s:Shared}
mutual
theorem Ydi(I:Inv X pins σ H s):∀{d:D} {v:V} {u:Value},dep d<=100->Rp X.K H d v->RelV v u->∃as,Reads s.heap u (toPy d) as/\(toPy d).canLay0=true
 | .non,v,u,_,r,q=>by
   rw[Rp]at r;subst r
   cases q
   exact⟨_,by rw[toPy];exact .none,by simp[toPy,PyData.canLay0]⟩
 | .bl b,v,u,_,r,q=>by
   rw[Rp]at r;subst r
   cases q
   exact⟨_,by rw[toPy];exact .bool b,by simp[toPy,PyData.canLay0]⟩
 | .int i,v,u,_,r,q=>by
   rw[Rp]at r;subst r
   obtain⟨t,rfl⟩:=q
   exact⟨_,by rw[toPy];exact .int i t,by simp[toPy,PyData.canLay0]⟩
 | .str x,v,u,_,r,q=>by
   rw[Rp]at r;obtain⟨rfl,hx⟩:=r
   obtain⟨t,rfl⟩:=q
   exact⟨_,by rw[toPy];exact .str x t,by simp[toPy,PyData.canLay0,hx]⟩
 | .tup l,v,u,hd,r,q=>by
   rw[Rp]at r
   obtain⟨a,xs,rfl,g,rl⟩:=r
   cases q
   obtain⟨_,its,rv,ht⟩:=(show ObjOk X.prog X.w H s.heap a (.tup xs) from I.hok a _ g)
   obtain⟨o,h1,h2,n,h3⟩:=ht
   obtain⟨as,q,hc⟩:=Yg7 I (by simp only[dep]at hd;lia) rl rv
   exact⟨_,by rw[toPy];exact .tuple h1 h2 h3 (by simpa using q),by simpa [toPy,PyData.canLay0]using hc⟩
 | .lst l,v,u,hd,r,q=>by
   rw[Rp]at r
   obtain⟨a,xs,rfl,g,rl⟩:=r
   cases q
   obtain⟨its,rv,pl,_⟩:=I.list (.inl g)
   obtain⟨o,h1,h2,n,h3⟩:=pl.isList
   obtain⟨as,q,hc⟩:=Yg7 I (by simp only[dep]at hd;lia) rl rv
   exact⟨_,by rw[toPy];exact .list h1 h2 h3 (by simpa using q),by simpa [toPy,PyData.canLay0]using hc⟩
 | .dct _ _ _,v,u,hd,r,q=>by simp[dep]at hd
 | .obj _ _ _,v,u,hd,r,q=>by simp[dep]at hd
 | .adr _,v,u,hd,r,q=>by simp[dep]at hd
 | .scr ns,v,u,_,r,q=>by
   rw[Rp]at r
   obtain⟨a,rfl,g⟩:=r
   cases q
   obtain⟨its,rv,pl,_⟩:=I.list g
   exact⟨_,by rw[toPy];exact W.reads_of_ints pl.isList (Yei rv),by rw[toPy];simp[PyData.canLay0,W.ke_canLayAll0]⟩
theorem Yg7(I:Inv X pins σ H s):∀{l:List D} {xs:List V} {us:List Value},depL l<=100->RpL X.K H l xs->Vals xs us->∃as,ReadsAll s.heap us (Ycv l) as/\PyData.canLayAll0 (Ycv l)=true
 | [],xs,us,_,r,q=>by
   rw[RpL]at r;subst r
   cases q
   exact⟨_,by rw[Ycv];exact .nil,by simp[Ycv,PyData.canLayAll0]⟩
 | d::l,xs,us,hd,r,q=>by
   rw[RpL]at r
   obtain⟨x,xs,rfl,r1,r2⟩:=r
   rw[depL]at hd
   cases q with
   | cons q1 q2=>
     obtain⟨as,h1,h2⟩:=Ydi I (by lia) r1 q1
     obtain⟨bs,h3,h4⟩:=Yg7 I (by lia) r2 q2
     exact⟨_,by rw[Ycv];exact .cons h1 h3,by simp[Ycv,PyData.canLayAll0,h2,h4]⟩
end
end
theorem Yg8(l:List D)(d:D):((Ycv l).any fun y=>PyData.eqv y (toPy d))=l.any fun y=>eqD y d:=by
 induction l with
 | nil=>simp[Ycv]
 | cons e l ih=>
   rw[Ycv,List.any_cons,List.any_cons,ih]
   rfl
def eqM(neg:Bool):D->D->Option Bool:=fun d e=>if dep d<=60/\dep e<=60 then some (if neg then !eqD d e else eqD d e)else none
def rEqD(K:W.Frag)(neg:Bool):R2:=fun x y H Q=>∃d e,Rp K H d x/\Rp K H e y/\(dep d<=60/\dep e<=60)/\Q (.bl (if neg then !eqD d e else eqD d e)) H
theorem Yti(hu:X.A.units+64 < cLine):OpR X (compareOp .Eq) (rEqD X.K false):=by
 intro pins s σ H x y v u Q I rx ry h
 obtain⟨d,e,r1,r2,hd,q⟩:=h
 obtain⟨as,h1,h2⟩:=Ydi I (by lia) r1 rx
 obtain⟨bs,h3,h4⟩:=Ydi I (by lia) r2 ry
 exact SeqAt.eqOverData X.prog X.w X.A X.xe s v u _ _ as bs _ h1 h3 h2 h4 (by have:=Ycm d;have:=Ycm e;lia) ⟨.bl _,H,I,rfl,by exact q⟩
theorem Ytj(hu:X.A.units+64 < cLine):OpR X (compareOp .NotEq) (rEqD X.K true):=by
 intro pins s σ H x y v u Q I rx ry h
 obtain⟨d,e,r1,r2,hd,q⟩:=h
 obtain⟨as,h1,h2⟩:=Ydi I (by lia) r1 rx
 obtain⟨bs,h3,h4⟩:=Ydi I (by lia) r2 ry
 exact SeqAt.neOverData X.prog X.w X.A X.xe s v u _ _ as bs _ h1 h3 h2 h4 (by have:=Ycm d;have:=Ycm e;lia) ⟨.bl _,H,I,rfl,by exact q⟩
theorem Yjn{neg:Bool}:Yib K (rEqD K neg) (eqM neg):=by
 intro x y dx dy b H G Q h s rx ry q
 unfold eqM at h
 split at h
 ·cases h
  exact⟨dx,dy,rx.rp s,ry.rp s,by assumption,q⟩
 ·cases h
theorem Yz3(hu:X.A.units+64 < cLine)(ha:MC X a fa)(hb:MC X b fb):ME X (.Compare a [.Eq] [b] pos) (mB (b2 fa fb (eqM false))):=Yku (Yti hu) Yjn ha hb (Yc9 _)
theorem Yz4(hu:X.A.units+64 < cLine)(ha:MC X a fa)(hb:MC X b fb):ME X (.Compare a [.NotEq] [b] pos) (mB (b2 fa fb (eqM true))):=Yku (Ytj hu) Yjn ha hb (Yc9 _)
theorem Yz5(hu:X.A.units+64 < cLine)(ha:MC X a fa)(hb:MC X b fb):MT X (.Compare a [.Eq] [b] pos) (b2 fa fb (eqM false)):=Yfg (Yti hu) Yjn ha hb (Yc9 _)
theorem Yz6(hu:X.A.units+64 < cLine)(ha:MC X a fa)(hb:MC X b fb):MT X (.Compare a [.NotEq] [b] pos) (b2 fa fb (eqM true)):=Yfg (Ytj hu) Yjn ha hb (Yc9 _)
def Ys:D->Option (List D)
 | .tup l=>some l
 | .lst l=>some l
 | .scr ns=>some (ns.map D.int)
 | _=>none
def inD(d:D)(l:List D):Bool:=l.any fun y=>eqD y d
def inM(neg:Bool):D->D->Option Bool:=fun d c=>(Ys c).bind fun l=>if depL l<=60/\dep d<=60 then some (if neg then !inD d l else inD d l)else none
def rInD(K:W.Frag)(neg:Bool):R2:=fun x y H Q=>∃d c l,Rp K H d x/\Rp K H c y/\Ys c=some l/\(depL l<=60/\dep d<=60)/\Q (.bl (if neg then !inD d l else inD d l)) H
theorem Yav{c:D}{l:List D}(h:Ys c=some l):c=.tup l\/c=.lst l\/∃ns,c=.scr ns/\l=ns.map D.int:=by
 cases c with
 | tup m=>cases h;exact .inl rfl
 | lst m=>cases h;exact .inr (.inl rfl)
 | scr ns=>cases h;exact .inr (.inr ⟨ns,rfl,rfl⟩)
 | non=>cases h
 | bl _=>cases h
 | int _=>cases h
 | str _=>cases h
 | dct _ _ _=>cases h
 | obj _ _ _=>cases h
 | adr _=>cases h
theorem Yiw:∀ns:List Int,Ycv (ns.map D.int)=ns.map PyData.int
 | []=>by simp[Ycv]
 | n::ns=>by simp[Ycv,toPy,Yiw ns]
theorem Ypi(hu:X.A.units+64 < cLine):OpR X (compareOp .NotIn) (rInD X.K true):=by
 intro pins s σ H x y v u Q I rx ry h
 obtain⟨d,c,l,r1,r2,hc,hd,q⟩:=h
 obtain⟨as,h1,h2⟩:=Ydi I (by lia) r1 rx
 have hdc:dep c<=61:=by
  rcases Yav hc with rfl | rfl | ⟨ns,rfl,rfl⟩
  ·rw[dep];lia
  ·rw[dep];lia
  ·rw[dep];lia
 obtain⟨bs,h3,h4⟩:=Ydi I (by lia) r2 ry
 have hdd:=Ycm d
 have hdl:=Ydh l
 rcases Yav hc with rfl | rfl | ⟨ns,rfl,rfl⟩
 ·rw[toPy]at h3 h4
  exact SeqAt.notIn_tuple_reads h3 h1 (by simpa [PyData.canLay0]using h4) h2 (by lia) ⟨.bl _,H,I,rfl,by rw[Yg8];exact q⟩
 ·rw[toPy]at h3 h4
  exact SeqAt.notIn_list_reads h3 h1 (by simpa [PyData.canLay0]using h4) h2 (by lia) ⟨.bl _,H,I,rfl,by rw[Yg8];exact q⟩
 ·rw[toPy,<-Yiw]at h3 h4
  exact SeqAt.notIn_list_reads h3 h1 (by simpa [PyData.canLay0]using h4) h2 (by lia) ⟨.bl _,H,I,rfl,by rw[Yg8];exact q⟩
theorem Yun{neg:Bool}:Yib K (rInD K neg) (inM neg):=by
 intro x y dx dy b H G Q h s rx ry q
 unfold inM at h
 obtain⟨l,h1,h⟩:=qa h
 split at h
 ·cases h
  exact⟨dx,dy,l,rx.rp s,ry.rp s,h1,by assumption,q⟩
 ·cases h
theorem Yxn(hu:X.A.units+64 < cLine)(ha:MC X a fa)(hb:MC X b fb)(hm:behindInMarks .NotIn b=false:=by with_unfolding_all rfl):MT X (.Compare a [.NotIn] [b] pos) (b2 fa fb (inM true)):=Yfg (Ypi hu) Yun ha hb hm
end
end
section
variable {K:W.Frag}
section
variable {X:Cx} {a b c e:Expr} {es:List Expr} {fa fb f:Ro->Option D} {fc fd:Ro->Option Bool} {ga:Ro->Option (List D)} {pos:Pos} {rest:List Expr}
def truD:D->Option Bool
 | .non=>some false
 | .bl b=>some b
 | .int i=>some (i != 0)
 | .tup l=>some (!l.isEmpty)
 | .lst l=>some (!l.isEmpty)
 | .scr ns=>some (!ns.isEmpty)
 | .str _=>none
 | .dct _ _ _=>none
 | .obj _ _ _=>none
 | .adr _=>none
theorem Yuo{d:D}{v:V}{k:Bool}{H G:Hp}(h:truD d=some k)(r:Ct X.K G H d v):TruV X.K v H k:=by
 cases d with
 | non=>rw[Ct]at r;subst r;cases h;rfl
 | bl b=>rw[Ct]at r;subst r;cases h;rfl
 | int i=>rw[Ct]at r;subst r;cases h;rfl
 | str x=>cases h
 | dct _ _ _=>cases h
 | obj _ _ _=>cases h
 | adr _=>cases h
 | tup l=>
   rw[Ct]at r
   obtain⟨a,xs,rfl,g,rl⟩:=r
   cases h
   refine .inr (.inl ⟨xs,.inl (.inl g.1),?_⟩)
   have:=rl.length
   cases l<;>cases xs<;>simp_all
 | lst l=>
   rw[Ct]at r
   obtain⟨a,xs,rfl,g,rl⟩:=r
   cases h
   refine .inl ⟨xs,.inl g,?_⟩
   have:=rl.length
   cases l<;>cases xs<;>simp_all
 | scr ns=>
   rw[Ct]at r
   obtain⟨a,rfl,g⟩:=r
   cases h
   refine .inl ⟨_,g,?_⟩
   cases ns<;>simp
theorem Yxo(ha:MC X a fa)(he:∀whole,isTrue a X.env whole=(do let v <-whole;standAt a.pos;holding [v] (truthy v)):=by intro _;rfl):MT X a (b1 fa truD):=
 PT.imp (Yrs ha he) fun σ H Q hx_=>by
  obtain⟨ρ,k,H0,G0,G,e,s,h⟩:=hx_
  obtain⟨d,h1,h2⟩:=Yca e
  exact tCof.at h1 s fun v H1 G1 g1 r1 s1=>⟨k,Yuo h2 r1,h H1 G1 g1⟩
def andT(fc fd:Ro->Option Bool):Ro->Option Bool:=fun ρ=>(fc ρ).bind fun k=>if k=true then fd ρ else some false
def orT(fc fd:Ro->Option Bool):Ro->Option Bool:=fun ρ=>(fc ρ).bind fun k=>if k=true then some true else fd ρ
def notT(fc:Ro->Option Bool):Ro->Option Bool:=fun ρ=>(fc ρ).map (!·)
abbrev MW(X:Cx)(e:Expr)(f:Ro->Option Bool):Prop:=PW X e (tTof X.K f)
theorem PW.imp{t t':TT}(h:PW X e t)(i:∀σ H Q,t' σ H Q->t σ H Q):PW X e t':=fun whole pins s σ H Q I hw=>h whole pins s σ H Q I (i σ H Q hw)
theorem Yup(ha:MT X a fc):MW X (.BoolOp .And [a] pos) fc:=Ytx ha
theorem Yxp(ha:MT X a fc):MW X (.BoolOp .Or [a] pos) fc:=Ywm ha
theorem Yuq{σ:L2.St}{H:Hp}{Q:Bool->Hp->Prop}(h:tTof K (andT fc fd) σ H Q):tAnd (tTof K fc) (tTof K fd) σ H Q:=by
 obtain⟨ρ,k,H0,G0,G,e,s,h⟩:=h
 unfold andT at e
 obtain⟨k1,h1,e⟩:=qa e
 refine tTof.at h1 s fun H1 G1 g1 s1=>?_
 cases k1 with
 | true=>
   rw[if_pos rfl]at e ⊢
   exact tTof.at e s1 fun H2 G2 g2 _=>h H2 G2 (g1.trans g2)
 | false=>
   rw[if_neg qh]at e ⊢
   cases e
   exact h H1 G1 g1
theorem Yxq{σ:L2.St}{H:Hp}{Q:Bool->Hp->Prop}(h:tTof K (orT fc fd) σ H Q):tOr (tTof K fc) (tTof K fd) σ H Q:=by
 obtain⟨ρ,k,H0,G0,G,e,s,h⟩:=h
 unfold orT at e
 obtain⟨k1,h1,e⟩:=qa e
 refine tTof.at h1 s fun H1 G1 g1 s1=>?_
 cases k1 with
 | false=>
   rw[if_neg qh]at e ⊢
   exact tTof.at e s1 fun H2 G2 g2 _=>h H2 G2 (g1.trans g2)
 | true=>
   rw[if_pos rfl]at e ⊢
   cases e
   exact h H1 G1 g1
theorem Yxr(ha:MT X a fc)(hb:MW X (.BoolOp .And (b::rest) pos) fd):MW X (.BoolOp .And (a::b::rest) pos) (andT fc fd):=PW.imp (Ywn ha hb) fun _ _ _ h=>Yuq h
theorem Yz7(ha:MT X a fc)(hb:MW X (.BoolOp .Or (b::rest) pos) fd):MW X (.BoolOp .Or (a::b::rest) pos) (orT fc fd):=PW.imp (Yzk ha hb) fun _ _ _ h=>Yxq h
theorem Yxs(ha:MT X a fc):MT X (.UnaryOp .Not a pos) (notT fc):=PT.imp (Ywo ha) fun σ H Q hx_=>by
 obtain⟨ρ,k,H0,G0,G,e,s,h⟩:=hx_
 obtain⟨k1,h1,rfl⟩:=qb e
 exact tTof.at h1 s fun H1 G1 g1 _=>h H1 G1 g1
def blD:D->Option Bool
 | .bl b=>some b
 | _=>none
theorem Yr5{d:D}{k:Bool}(h:blD d=some k):d=.bl k:=by cases d<;>simp[blD]at h;subst h;rfl
def andV(fa fb:Ro->Option D):Ro->Option D:=fun ρ=>(b1 fa blD ρ).bind fun k=>if k=true then fb ρ else some (.bl false)
theorem Yur(ha:ME X a fa):ME X (.BoolOp .And [a] pos) fa:=Ywp ha
theorem Yxt(ha:ME X a fa)(hb:ME X (.BoolOp .And (b::rest) pos) fb):ME X (.BoolOp .And (a::b::rest) pos) (andV fa fb):=PE.imp (Ywq ha hb) fun σ H Q hx_=>by
 obtain⟨ρ,d,H0,G0,G,e,s,h⟩:=hx_
 unfold andV at e
 obtain⟨k,h1,e⟩:=qa e
 obtain⟨d1,h2,h3⟩:=Yca h1
 cases Yr5 h3
 refine tOf.at h2 s fun v H1 G1 g1 r1 s1=>⟨k,by rw[Rp]at r1;exact r1,?_⟩
 cases k with
 | true=>
   rw[if_pos rfl]at e ⊢
   exact tOf.at e s1 fun w H2 G2 g2 r2 _=>h w H2 G2 (g1.trans g2) r2
 | false=>
   rw[if_neg qh]at e ⊢
   cases e
   exact h _ H1 G1 g1 (by rw[Rp])
def ifV(fc:Ro->Option Bool)(fa fb:Ro->Option D):Ro->Option D:=fun ρ=>(fc ρ).bind fun k=>if k=true then fa ρ else fb ρ
theorem Yz8(hc:MT X c fc)(ha:ME X a fa)(hb:ME X b fb):ME X (.IfExp c a b pos) (ifV fc fa fb):=PE.imp (Yrq hc ha hb) fun σ H Q hx_=>by
 obtain⟨ρ,d,H0,G0,G,e,s,h⟩:=hx_
 unfold ifV at e
 obtain⟨k,h1,e⟩:=qa e
 refine tTof.at h1 s fun H1 G1 g1 s1=>?_
 cases k with
 | true=>
   rw[if_pos rfl]at e ⊢
   exact tOf.at e s1 fun w H2 G2 g2 r2 _=>h w H2 G2 (g1.trans g2) r2
 | false=>
   rw[if_neg qh]at e ⊢
   exact tOf.at e s1 fun w H2 G2 g2 r2 _=>h w H2 G2 (g1.trans g2) r2
def Yn7:D->Bool
 | .non=>true
 | _=>false
theorem Ym5{d:D}{v:V}{G H:Hp}(r:Ct K G H d v):decide (v=V.non)=Yn7 d:=by
 cases d with
 | non=>rw[Ct]at r;subst r;rfl
 | bl _=>rw[Ct]at r;subst r;rfl
 | int _=>rw[Ct]at r;subst r;rfl
 | str _=>rw[Ct]at r;obtain⟨rfl,_⟩:=r;rfl
 | tup _=>rw[Ct]at r;obtain⟨_,_,rfl,_⟩:=r;rfl
 | lst _=>rw[Ct]at r;obtain⟨_,_,rfl,_⟩:=r;rfl
 | scr _=>rw[Ct]at r;obtain⟨_,rfl,_⟩:=r;rfl
 | dct _ _ _=>rw[Ct]at r;obtain⟨_,_,_,rfl,_⟩:=r;rfl
 | obj _ _ _=>rw[Ct]at r;obtain⟨_,_,_,_,rfl,_⟩:=r;rfl
 | adr _=>rw[Ct]at r;subst r;rfl
def isN(neg:Bool):D->D->Option Bool:=fun d e=>if Yn7 e then some (if neg then !Yn7 d else Yn7 d)else none
theorem Yus:Yib K (fun x y H Q=>y=.non/\Q (.bl (decide (x=.non))) H) (isN false):=by
 intro x y dx dy b H G Q h s rx ry q
 unfold isN at h
 split at h
 ·rename_i hn
  cases h
  cases dy<;>simp[Yn7]at hn
  rw[Ct]at ry
  exact⟨ry,by rw[Ym5 rx];exact q⟩
 ·cases h
theorem Ym6:Yib K (fun x y H Q=>y=.non/\Q (.bl (!decide (x=.non))) H) (isN true):=by
 intro x y dx dy b H G Q h s rx ry q
 unfold isN at h
 split at h
 ·rename_i hn
  cases h
  cases dy<;>simp[Yn7]at hn
  rw[Ct]at ry
  exact⟨ry,by rw[Ym5 rx];exact q⟩
 ·cases h
theorem Yut(ha:MC X a fa)(hb:MC X b fb):ME X (.Compare a [.IsNot] [b] pos) (mB (b2 fa fb (isN true))):=Yku Yoz Ym6 ha hb (Yc9 _)
theorem Yxu(ha:MC X a fa)(hb:MC X b fb):MT X (.Compare a [.Is] [b] pos) (b2 fa fb (isN false)):=Yfg Yw2 Yus ha hb (Yc9 _)
theorem Yuu(ha:MC X a fa)(hb:MC X b fb):MT X (.Compare a [.IsNot] [b] pos) (b2 fa fb (isN true)):=Yfg Yoz Ym6 ha hb (Yc9 _)
def ixD:D->D->Option D
 | c,.int i=>(Ys c).bind fun l=>atI l i
 | _,_=>none
theorem Ypj{G:Hp}{l:List D}{xs:List V}{i:Int}{d:D}(r:RpL K G l xs)(h:atI l i=some d):∃x,atI xs i=some x/\Rp K G d x:=by
 unfold atI at h ⊢
 rw[r.length]
 obtain⟨j,h1,h2⟩:=qa h
 obtain⟨x,h3,h4⟩:=r.get h2
 exact⟨x,by rw[h1];exact h3,h4⟩
theorem Yxv:Sem2 X.K (rIx X.K) ixD:=by
 intro x y dx dy d H G Q h s rx ry q
 unfold ixD at h
 split at h
 ·rename_i c i
  obtain⟨l,h1,h2⟩:=qa h
  rw[Ct]at ry
  subst ry
  rcases Yav h1 with rfl | rfl | ⟨ns,rfl,rfl⟩
  ·rw[Ct]at rx
   obtain⟨p,xs,rfl,g,rl⟩:=rx
   obtain⟨v,h3,h4⟩:=Ypj rl h2
   exact .inr (.inl ⟨p,xs,i,v,rfl,rfl,.inl (.inl g.1),h3,q v H G (.refl s) h4⟩)
  ·rw[Ct]at rx
   obtain⟨p,xs,rfl,g,rl⟩:=rx
   obtain⟨v,h3,h4⟩:=Ypj rl h2
   exact .inl ⟨p,xs,i,v,rfl,rfl,.inl g,h3,q v H G (.refl s) h4⟩
  ·rw[Ct]at rx
   obtain⟨p,rfl,g⟩:=rx
   obtain⟨v,h3,h4⟩:=Ypj (G:=G) (K:=X.K) (.ints ns) h2
   exact .inl ⟨p,_,i,v,rfl,rfl,g,h3,q v H G (.refl s) h4⟩
 ·cases h
theorem Yuv(ha:MC X a fa)(hb:MC X b fb)(hs:Yjd b:=by intro _ _;rfl):ME X (.Subscript a b pos) (b2 fa fb ixD):=Yzx Yxa Yxv ha hb hs
def intD:D->Option Int
 | .int i=>some i
 | _=>none
def optI(f:Option (Ro->Option D)):Ro->Option (Option Int):=fun ρ=>match f with
 | none=>some none
 | some f=>(b1 f intD ρ).map some
def cutD(l:List D)(lo hi:Option Int):List D:=(l.drop (HT.sIx l.length 0 lo)).take (HT.sIx l.length l.length hi - HT.sIx l.length 0 lo)
def lstD:D->Option (List D)
 | .lst l=>some l
 | .scr ns=>some (ns.map D.int)
 | _=>none
theorem Ypk{d:D}{l:List D}{v:V}{G H:Hp}(h:lstD d=some l)(r:Ct K G H d v):∃p xs,v=.ref p/\SqL K H p xs/\RpL K G l xs:=by
 cases d with
 | lst m=>
   cases h
   rw[Ct]at r
   obtain⟨p,xs,e,g,q⟩:=r
   exact⟨p,xs,e,.inl g,q⟩
 | scr ns=>
   cases h
   rw[Ct]at r
   obtain⟨p,e,g⟩:=r
   exact⟨p,_,e,g,.ints ns⟩
 | non=>cases h
 | bl _=>cases h
 | int _=>cases h
 | str _=>cases h
 | tup _=>cases h
 | dct _ _ _=>cases h
 | obj _ _ _=>cases h
 | adr _=>cases h
def slF(fa:Ro->Option D)(lo hi:Option (Ro->Option D)):Ro->Option (List D):=fun ρ=>(b1 fa lstD ρ).bind fun l=>(optI lo ρ).bind fun i=>(optI hi ρ).bind fun j=>some (cutD l i j)
abbrev tO(K:W.Frag)(f:Option (Ro->Option D)):TO:=match f with
 | none=>Yo8
 | some f=>Yw8 (tCof K f)
theorem Yxw{H0 G0 H G:Hp}{σ:L2.St}{ρ:Ro}{f:Option (Ro->Option D)}{i:Option Int}{Q:Option Int->Hp->Prop}(e:optI f ρ=some i)(s:SR K H0 G0 σ H G ρ)(h:∀H' G',Gr H G H' G'->SR K H0 G0 σ H' G' ρ->Q i H'):tO K f σ H Q:=by
 cases f with
 | none=>
   cases e
   exact h H G (.refl s.seen) s
 | some f=>
   obtain⟨k,h1,rfl⟩:=qb e
   obtain⟨d,h2,h3⟩:=Yca h1
   refine tCof.at h2 s fun v H1 G1 g1 r1 s1=>⟨k,?_,h H1 G1 g1 s1⟩
   cases d<;>simp[intD]at h3
   subst h3
   rw[Ct]at r1
   exact r1
theorem Yr6{lo hi:Option Expr}{fl fh:Option (Ro->Option D)}{p2:Pos}(ha:MC X a fa)(hl:PO X lo (tO X.K fl))(hh:PO X hi (tO X.K fh)):MF X (.Subscript a (.Slice lo hi none p2) pos) (slF fa fl fh):=
 PE.imp (Yrw Yub ha hl hh) fun σ H Q hx_=>by
  obtain⟨ρ,l,H0,G0,G,e,s,h⟩:=hx_
  unfold slF at e
  obtain⟨l0,h1,e⟩:=qa e
  obtain⟨i,h2,e⟩:=qa e
  obtain⟨j,h3,e⟩:=qa e
  cases e
  obtain⟨d,h4,h5⟩:=Yca h1
  refine tCof.at h4 s fun v H1 G1 g1 r1 s1=>Yxw h2 s1 fun H2 G2 g2 s2=>Yxw h3 s2 fun H3 G3 g3 s3=>?_
  have r3:=(r1.grow g2).grow g3
  obtain⟨p,xs,rfl,g,rl⟩:=Ypk h5 r3
  refine⟨p,xs,rfl,g,fun q hq=>?_⟩
  have hq0:H q=none:=g1.h.free (g2.h.free (g3.h.free hq))
  have gg:=((g1.trans g2).trans g3).trans (Gr.hid (p:=q) s3.seen hq (.lst (cutV xs i j)))
  refine h q _ _ G3 gg hq0 (s3.seen.free hq) Yo ?_
  unfold cutD cutV
  rw[rl.length]
  exact(rl.drop _).take _
theorem Yz9:PO X none (tO X.K none):=Yt8
theorem y0a(h:MC X e f):PO X (some e) (tO X.K (some f)):=Yt9 h
def lF(f:Ro->Option (List D)):Ro->Option D:=fun ρ=>(f ρ).map D.lst
theorem MF.me{g:Ro->Option (List D)}(h:MF X e g):ME X e (lF g):=PE.imp h fun σ H Q hx_=>by
 obtain⟨ρ,d,H0,G0,G,e,s,h⟩:=hx_
 obtain⟨l,h1,rfl⟩:=qb e
 exact⟨ρ,l,H0,G0,G,h1,s,fun p xs H' G' g hp gp e' r=>h _ H' _ (g.show hp gp e') (by
  rw[Rp]
  refine⟨p,xs,rfl,.inl Yo,r.mono fun b o q=>?_⟩
  rw[Yk (Yv q gp)];exact q)⟩
def aNil:Ro->Option (List D):=fun _=>some []
def Yd(f:Ro->Option D)(g:Ro->Option (List D)):Ro->Option (List D):=fun ρ=>(f ρ).bind fun d=>(g ρ).map (d::·)
theorem Ytk:MA X [] aNil:=PA.imp Ydq fun σ H Q hx_=>by
 obtain⟨ρ,l,H0,G0,G,e,s,h⟩:=hx_
 cases e
 exact h [] H G (.refl s.seen) .nil
theorem Ypl(ha:ME X e f)(hr:MA X es ga)(hs:starEach (e::es) X.env=(false,eval e X.env)::starEach es X.env:=by rfl):MA X (e::es) (Yd f ga):=PA.imp (Ybd ha hr hs) fun σ H Q hx_=>by
 obtain⟨ρ,l,H0,G0,G,e,s,h⟩:=hx_
 unfold Yd at e
 obtain⟨d,h1,e⟩:=qa e
 obtain⟨l',h2,rfl⟩:=qb e
 exact tOf.at h1 s fun v H1 G1 g1 r1 s1=>tAof.at h2 s1 fun vs H2 G2 g2 r2 _=>h (v::vs) H2 G2 (g1.trans g2) (.cons (r1.mono g2.g) r2)
theorem Ypm:MCA X [] aNil:=PA.imp Ydq fun σ H Q hx_=>by
 obtain⟨ρ,l,H0,G0,G,e,s,h⟩:=hx_
 cases e
 exact h [] H G (.refl s.seen) rfl
theorem Ym7(ha:MC X e f)(hr:MCA X es ga)(hs:starEach (e::es) X.env=(false,eval e X.env)::starEach es X.env:=by rfl):MCA X (e::es) (Yd f ga):=PA.imp (Ybd ha hr hs) fun σ H Q hx_=>by
 obtain⟨ρ,l,H0,G0,G,e,s,h⟩:=hx_
 unfold Yd at e
 obtain⟨d,h1,e⟩:=qa e
 obtain⟨l',h2,rfl⟩:=qb e
 exact tCof.at h1 s fun v H1 G1 g1 r1 s1=>tCAof.at h2 s1 fun vs H2 G2 g2 r2 _=>h (v::vs) H2 G2 (g1.trans g2) ⟨v,vs,rfl,r1.grow g2,r2⟩
def cap6:Nat:=1000000
theorem Ye3{n:Nat}(h:n<=cap6):n<=sizeLine:=Qb h (by rw[sizeLine_eq];decide)
def dTup(ga:Ro->Option (List D)):Ro->Option D:=fun ρ=>(ga ρ).bind fun l=>if l.length<=cap6 then some (.tup l)else none
theorem Yxx{x1}(h:MA X es ga):ME X (.Tuple es x1 pos) (dTup ga):=PE.imp (Yw5 h) fun σ H Q hx_=>by
 obtain⟨ρ,d,H0,G0,G,e,s,h⟩:=hx_
 unfold dTup at e
 obtain⟨l,h1,e⟩:=qa e
 split at e
 ·cases e
  refine tAof.at h1 s fun vs H1 G1 g1 r1 s1=>⟨by rw[r1.length];exact Ye3 (by assumption),fun p hp=>?_⟩
  refine h _ _ _ (g1.trans (.new s1.seen hp (.tup vs))) ?_
  rw[Rp]
  exact⟨p,vs,rfl,Yo,r1.mono (Gr.new s1.seen hp (.tup vs)).g⟩
 ·cases e
def dLst(ga:Ro->Option (List D)):Ro->Option (List D):=fun ρ=>(ga ρ).bind fun l=>if l.length<=cap6 then some l else none
theorem Yxy(h:MA X es ga):MF X (.List es pos) (dLst ga):=PE.imp (Yte h) fun σ H Q hx_=>by
 obtain⟨ρ,d,H0,G0,G,e,s,h⟩:=hx_
 unfold dLst at e
 obtain⟨l,h1,e⟩:=qa e
 split at e
 ·cases e
  refine tAof.at h1 s fun vs H1 G1 g1 r1 s1=>⟨by rw[r1.length];exact Ye3 (by assumption),fun p hp=>?_⟩
  exact h p vs _ G1 (g1.trans (.hid s1.seen hp (.lst vs))) (g1.h.free hp) (s1.seen.free hp) Yo r1
 ·cases e
def cC(ga:Ro->Option (List D))(g:List D->Option D):Ro->Option D:=fun ρ=>(ga ρ).bind g
def cF(ga:Ro->Option (List D))(g:List D->Option (List D)):Ro->Option (List D):=fun ρ=>(ga ρ).bind g
theorem Ytl{r:List V->Hp->VK->Prop}{g:List D->Option D}(hr:SemC K r g){σ:L2.St}{H:Hp}{Q:VK}(h:tOf K (cC ga g) σ H Q):tCB r (tCAof K ga) σ H Q:=by
 obtain⟨ρ,d,H0,G0,G,e,s,h⟩:=h
 unfold cC at e
 obtain⟨l,h1,h2⟩:=qa e
 exact tCAof.at h1 s fun vs H1 G1 g1 r1 s1=>hr vs l d H1 G1 Q h2 s1.seen r1 fun v H' G' g2 r2=>h v H' G' (g1.trans g2) r2
theorem Ypn{r:List V->Hp->VK->Prop}{g:List D->Option (List D)}(hr:SemF K r g){σ:L2.St}{H:Hp}{Q:VK}(h:tFof K (cF ga g) σ H Q):tCB r (tCAof K ga) σ H Q:=by
 obtain⟨ρ,d,H0,G0,G,e,s,h⟩:=h
 unfold cF at e
 obtain⟨l,h1,h2⟩:=qa e
 exact tCAof.at h1 s fun vs H1 G1 g1 r1 s1=>hr vs l d H1 G1 Q h2 s1.seen r1 fun p xs H' G' g2 hp gp e' r2=>h p xs H' G' (g1.trans g2) (g1.h.free hp) gp e' r2
section
variable {x:Str} {p:Pos} {id T:String} {r:List V->Hp->VK->Prop} {g:List D->Option D} {gf:List D->Option (List D)}
theorem Yr7(hc:Yb9 X (.builtin id) r)(hr:SemC X.K r g)(hg:Gl X x)(hm:X.mg x=none)(hv:bootBuiltins x=some (.builtin id))(ha:MCA X (e::es) ga)(hn:x≠"__name__":=by decide)(hdb:(x==("__debug__":Str))=false:=by decide)
 (he:starEach (e::es) X.env=(false,eval e X.env)::starEach es X.env:=by rfl) (hpl:(backTo pos (starEach es X.env)).any (·.1)=false:=by rfl):ME X (.Call (.Name x p) (e::es) [] pos) (cC ga g):=
 PE.imp (Yeh hc hg hm hv ha hn hdb he hpl) fun _ _ _ h=>Ytl hr h
theorem Yr8(hc:Yb9 X (.builtin id) r)(hr:SemF X.K r gf)(hg:Gl X x)(hm:X.mg x=none)(hv:bootBuiltins x=some (.builtin id))(ha:MCA X (e::es) ga)(hn:x≠"__name__":=by decide)(hdb:(x==("__debug__":Str))=false:=by decide)
 (he:starEach (e::es) X.env=(false,eval e X.env)::starEach es X.env:=by rfl) (hpl:(backTo pos (starEach es X.env)).any (·.1)=false:=by rfl):MF X (.Call (.Name x p) (e::es) [] pos) (cF ga gf):=
 PE.imp (Yeh hc hg hm hv ha hn hdb he hpl) fun _ _ _ h=>Ypn hr h
theorem Ypo(hc:Yb9 X (.type T) r)(hr:SemC X.K r g)(hg:Gl X x)(hm:X.mg x=none)(hv:bootBuiltins x=some (.type T))(ha:MCA X (e::es) ga)(hn:x≠"__name__":=by decide)(hdb:(x==("__debug__":Str))=false:=by decide)
 (he:starEach (e::es) X.env=(false,eval e X.env)::starEach es X.env:=by rfl) (hpl:(backTo pos (starEach es X.env)).any (·.1)=false:=by rfl):ME X (.Call (.Name x p) (e::es) [] pos) (cC ga g):=
 PE.imp (Ygz hc hg hm hv ha hn hdb he hpl) fun _ _ _ h=>Ytl hr h
theorem Ypp(hc:Yb9 X (.type T) r)(hr:SemF X.K r gf)(hg:Gl X x)(hm:X.mg x=none)(hv:bootBuiltins x=some (.type T))(ha:MCA X (e::es) ga)(hn:x≠"__name__":=by decide)(hdb:(x==("__debug__":Str))=false:=by decide)
 (he:starEach (e::es) X.env=(false,eval e X.env)::starEach es X.env:=by rfl) (hpl:(backTo pos (starEach es X.env)).any (·.1)=false:=by rfl):MF X (.Call (.Name x p) (e::es) [] pos) (cF ga gf):=
 PE.imp (Ygz hc hg hm hv ha hn hdb he hpl) fun _ _ _ h=>Ypn hr h
end
def spOf(K:W.Frag)(n:Nat)(fn:List D->Option D):Sp:=fun vs H Q _=>vs.length=n/\∃ds d G,Same G H/\RpL K G ds vs/\fn ds=some d/\∀v H' G',Gr H G H' G'->Rp K G' d v->Q v H'
theorem Yuw{k n:Nat}{fa':Addr}{fd':FuncData}{ps:List Str}{x:Str}{p:Pos}{fn:List D->Option D}(F:FnOk X.prog X.w X.K X.mg X.base CX0 k fa' fd' ps (spOf X.K n fn))(hr:Room k X.A)(hg:Gl X x)(hm:X.mg x=some (.ref fa'))(hk:W.keepIn X.K (.ref fa')=true)(hb:Binds X.K fd' ps [])
 (ha:MA X (e::es) ga) (hdb:(x==("__debug__":Str))=false:=by decide) (he:starEach (e::es) X.env=(false,eval e X.env)::starEach es X.env:=by rfl) (hpl:(backTo pos (starEach es X.env)).any (·.1)=false:=by rfl)
 (hl:∀ρ l,ga ρ=some l->l.length=n):ME X (.Call (.Name x p) (e::es) [] pos) (cC ga fn):=
 PE.imp (Yo6 (E:=E0) F hr hg hm hk hb .nil Yrz ha hdb he hpl) fun σ H Q hx_=>by
  obtain⟨ρ,d,H0,G0,G,e,s,h⟩:=hx_
  unfold cC at e
  obtain⟨l,h1,h2⟩:=qa e
  refine tAof.at h1 s fun vs H1 G1 g1 r1 s1=>?_
  rw[List.append_nil]
  exact⟨by rw[r1.length];exact hl ρ l h1,l,d,G1,s1.seen,r1,h2,fun v H' G' g2 r2=>h v H' G' (g1.trans g2) r2⟩
theorem Yr9{ρ:Ro}{l:List D}(h:aNil ρ=some l):l.length=0:=by cases h;rfl
theorem Yfh{f:Ro->Option D}{g:Ro->Option (List D)}{n:Nat}(hg:∀ρ l,g ρ=some l->l.length=n):∀ρ l,Yd f g ρ=some l->l.length=n+1:=fun ρ l h=>by
 unfold Yd at h
 obtain⟨d,h1,e⟩:=qa h
 obtain⟨l',h2,rfl⟩:=qb e
 rw[qq,hg ρ l' h2]
def lenC:List D->Option D
 | [c]=>(Ys c).map fun l=>.int l.length
 | _=>none
theorem Ypq{G H:Hp}{c:D}{l:List D}{v:V}(h:Ys c=some l)(r:Ct K G H c v):∃p xs,v=.ref p/\(SqL K H p xs\/SqT K H p xs)/\RpL K G l xs:=by
 rcases Yav h with rfl | rfl | ⟨ns,rfl,rfl⟩
 ·rw[Ct]at r
  obtain⟨p,xs,rfl,g,rl⟩:=r
  exact⟨p,xs,rfl,.inr (.inl (.inl g.1)),rl⟩
 ·rw[Ct]at r
  obtain⟨p,xs,rfl,g,rl⟩:=r
  exact⟨p,xs,rfl,.inl (.inl g),rl⟩
 ·rw[Ct]at r
  obtain⟨p,rfl,g⟩:=r
  exact⟨p,_,rfl,.inl g,.ints ns⟩
theorem Yg9{G:Hp}{d:D}{vs:List V}(h:RpL K G [d] vs):∃v,vs=[v]/\Rp K G d v:=by
 rw[RpL]at h
 obtain⟨x,r,rfl,h1,h2⟩:=h
 rw[RpL]at h2
 subst h2
 exact⟨x,rfl,h1⟩
theorem Ydj{G H:Hp}{d:D}{vs:List V}(h:CtL K G H [d] vs):∃v,vs=[v]/\Ct K G H d v:=by
 obtain⟨x,r,rfl,h1,h2⟩:=h
 cases (show r=[] from h2)
 exact⟨x,rfl,h1⟩
theorem Ybr:SemC X.K (fun xs H Q=>∃p ys,xs=[.ref p]/\(SqL X.K H p ys\/SqT X.K H p ys)/\Q (.int ys.length) H) lenC:=by
 intro vs ds d H G Q h s r q
 match ds,h,r with
 | [c],h,r=>
   obtain⟨l,h1,rfl⟩:=qb h
   obtain⟨v,rfl,rv⟩:=Ydj r
   obtain⟨p,xs,rfl,h2,rl⟩:=Ypq (K:=X.K) h1 rv
   exact⟨p,xs,rfl,h2,q _ H G (.refl s) (by rw[Rp,rl.length])⟩
def Yn8:List D->Option (List D)
 | [c]=>Ys c
 | _=>none
theorem Ygk:SemF X.K (fun xs H Q=>∃p ys,xs=[.ref p]/\(SqL X.K H p ys\/SqT X.K H p ys)/\∀l,H l=none->Q (.ref l) (upd H l (.lst ys))) Yn8:=by
 intro vs ds l H G Q h s r q
 match ds,h,r with
 | [c],h,r=>
   obtain⟨v,rfl,rv⟩:=Ydj r
   obtain⟨p,xs,rfl,h2,rl⟩:=Ypq (K:=X.K) h rv
   exact⟨p,xs,rfl,h2,fun m hm=>q m xs _ G (.hid s hm _) hm (s.free hm) Yo rl⟩
def tupC:List D->Option D
 | [c]=>(Ys c).map D.tup
 | _=>none
theorem Ydv:SemC X.K (fun xs H Q=>∃p ys,xs=[.ref p]/\((SqL X.K H p ys/\∀l,H l=none->Q (.ref l) (upd H l (.tup ys)))\/(SqT X.K H p ys/\Q (.ref p) H))) tupC:=by
 intro vs ds d H G Q h s r q
 match ds,h,r with
 | [c],h,r=>
   obtain⟨l,h1,rfl⟩:=qb h
   obtain⟨v,rfl,rv⟩:=Ydj r
   rcases Yav h1 with rfl | rfl | ⟨ns,rfl,rfl⟩
   ·rw[Ct]at rv
    obtain⟨p,xs,rfl,g,rl⟩:=rv
    exact⟨p,xs,rfl,.inr ⟨.inl (.inl g.1),q _ H G (.refl s) (by rw[Rp];exact⟨p,xs,rfl,g.2,rl⟩)⟩⟩
   ·rw[Ct]at rv
    obtain⟨p,xs,rfl,g,rl⟩:=rv
    refine⟨p,xs,rfl,.inl ⟨.inl g,fun m hm=>q _ _ _ (.new s hm (.tup xs)) ?_⟩⟩
    rw[Rp]
    exact⟨m,xs,rfl,Yo,rl.mono (Gr.new s hm (.tup xs)).g⟩
   ·rw[Ct]at rv
    obtain⟨p,rfl,g⟩:=rv
    refine⟨p,_,rfl,.inl ⟨g,fun m hm=>q _ _ _ (.new s hm (.tup _)) ?_⟩⟩
    rw[Rp]
    exact⟨m,_,rfl,Yo,.ints ns⟩
def intC:List D->Option D
 | [.int i]=>some (.int i)
 | [.bl k]=>some (.int (if k then 1 else 0))
 | _=>none
theorem Yl0:SemC X.K (fun xs H Q=>(∃i,xs=[.int i]/\Q (.int i) H)\/∃k,xs=[.bl k]/\Q (.int (if k then 1 else 0)) H) intC:=by
 intro vs ds d H G Q h s r q
 match ds,h,r with
 | [.int i],h,r=>
   cases h
   obtain⟨v,rfl,rv⟩:=Ydj r
   rw[Ct]at rv
   subst rv
   exact .inl ⟨i,rfl,q _ H G (.refl s) (by rw[Rp])⟩
 | [.bl k],h,r=>
   cases h
   obtain⟨v,rfl,rv⟩:=Ydj r
   rw[Ct]at rv
   subst rv
   exact .inr ⟨k,rfl,q _ H G (.refl s) (by rw[Rp])⟩
end
end
section
variable {K:W.Frag}
section
variable {X:Cx} {e:Expr} {f:Ro->Option D} {gl:Ro->Option (List D)} {pos pos':Pos} {st:Stmt} {sts:List Stmt} {fs gs:Ro->Option Out}
def sNil:Ro->Option Out:=fun ρ=>some (.nx ρ)
def sSeq(f g:Ro->Option Out):Ro->Option Out:=fun ρ=>(f ρ).bind fun
 | .nx ρ'=>g ρ'
 | o=>some o
theorem Yxz:MB X [] sNil:=PSs.imp Yls fun F σ H hx_=>by
 obtain⟨ρ,out,H0,G0,G,e,s,h⟩:=hx_
 cases e
 exact h σ H G s
theorem Yux(h1:MS X st fs)(h2:MB X sts gs):MB X (st::sts) (sSeq fs gs):=PSs.imp (Ycg h1 h2) fun F σ H hx_=>by
 obtain⟨ρ,out,H0,G0,G,e,s,h⟩:=hx_
 unfold sSeq at e
 obtain⟨o,h3,e⟩:=qa e
 cases o with
 | nx ρ'=>exact⟨ρ,.nx ρ',H0,G0,G,h3,s,fun σ' H' G' s'=>⟨ρ',out,H0,G0,G',e,s',h⟩⟩
 | rt d=>cases e;exact⟨ρ,.rt d,H0,G0,G,h3,s,h⟩
 | bk ρ'=>cases e;exact⟨ρ,.bk ρ',H0,G0,G,h3,s,h⟩
 | ct ρ'=>cases e;exact⟨ρ,.ct ρ',H0,G0,G,h3,s,h⟩
theorem Yx0(h1:MS X st fs):MB X [st] fs:=Ylt h1
def frz1(i:Nat)(ρ:Ro):Ro:=match ρ[i]? with
 | some (some (B.ow l))=>ρ.set i (some (.sh (.lst l)))
 | some (some (B.od t ks vs))=>ρ.set i (some (.sh (.dct t ks vs)))
 | _=>ρ
theorem SR.frz1{H0 G0 H G:Hp}{σ:L2.St}{ρ:Ro}(s:SR K H0 G0 σ H G ρ)(i:Nat):∃G',SR K H0 G0 σ H G' (M.frz1 i ρ):=by
 unfold M.frz1
 split
 ·rename_i l hl
  exact s.freeze hl
 ·rename_i t ks vs hl
  exact s.freezed hl
 ·exact⟨G,s⟩
def frz(is:List Nat)(ρ:Ro):Ro:=is.foldl (fun r i=>frz1 i r) ρ
theorem SR.frz{H0 G0 H:Hp}{σ:L2.St}:∀(is:List Nat) {G:Hp} {ρ:Ro},SR K H0 G0 σ H G ρ->∃G',SR K H0 G0 σ H G' (M.frz is ρ)
 | [],G,_,s=>⟨G,s⟩
 | i::is,_,ρ,s=>by
   obtain⟨G',s'⟩:=s.frz1 i
   exact SR.frz is s'
theorem SR.frz1T{H0 G0 H G:Hp}{σ:L2.St}{ρ:Ro}(s:SR K H0 G0 σ H G ρ)(i:Nat):∃G',SR K H0 G0 σ H G' (M.frz1 i ρ)/\∀b ys,G' b=some (.tup ys)->G b=some (.tup ys):=by
 unfold M.frz1
 split
 ·rename_i l hl
  exact s.freezeT hl
 ·rename_i t ks vs hl
  exact s.freezedT hl
 ·exact⟨G,s,fun _ _ h=>h⟩
theorem SR.frzT{H0 G0 H:Hp}{σ:L2.St}:∀(is:List Nat) {G:Hp} {ρ:Ro},SR K H0 G0 σ H G ρ->∃G',SR K H0 G0 σ H G' (M.frz is ρ)/\∀b ys,G' b=some (.tup ys)->G b=some (.tup ys)
 | [],G,_,s=>⟨G,s,fun _ _ h=>h⟩
 | i::is,_,ρ,s=>by
   obtain⟨G',s',h1⟩:=s.frz1T i
   obtain⟨G2,s2,h2⟩:=SR.frzT is s'
   exact⟨G2,s2,fun b ys e=>h1 b ys (h2 b ys e)⟩
def wF(is:List Nat)(f:Ro->Option Out):Ro->Option Out:=fun ρ=>f (frz is ρ)
theorem Yx1(is:List Nat)(h:MS X st fs):MS X st (wF is fs):=PS.imp h fun F σ H hx_=>by
 obtain⟨ρ,out,H0,G0,G,e,s,h⟩:=hx_
 obtain⟨G',s'⟩:=SR.frz is s
 exact⟨frz is ρ,out,H0,G0,G',e,s',h⟩
def sSet(i:Nat)(f:Ro->Option D):Ro->Option Out:=fun ρ=>(f ρ).map fun d=>.nx (ρ.set i (some (.sh d)))
def sOwn(i:Nat)(f:Ro->Option (List D)):Ro->Option Out:=fun ρ=>(f ρ).map fun l=>.nx (ρ.set i (some (.ow l)))
theorem Yx2{i:Nat}{F:Ends}{σ:L2.St}{H:Hp}(h:sOf K (sSet i f) F σ H):tAsg (tOf K f) (Ynw i) F σ H:=by
 obtain⟨ρ,out,H0,G0,G,e,s,h⟩:=h
 obtain⟨d,h1,rfl⟩:=qb e
 exact tOf.at h1 s fun v H1 G1 g1 r1 s1=>h _ H1 G1 (s1.set_sh i r1)
theorem Yx3{i:Nat}{F:Ends}{σ:L2.St}{H:Hp}(h:sOf K (sOwn i gl) F σ H):tAsg (tFof K gl) (Ynw i) F σ H:=by
 obtain⟨ρ,out,H0,G0,G,e,s,h⟩:=h
 obtain⟨l,h1,rfl⟩:=qb e
 exact⟨ρ,l,H0,G0,G,h1,s,fun p xs H' G' g hp gp e' r=>h _ H' G' (s.set_ow i g hp gp e' r)⟩
theorem Yx4(i:Nat){x:Str}(hN:X.N.Nodup)(he:ME X e f)(hi:X.N[i]?=some x:=by rfl)(hx:Loc X.env.scope x:=by first | exact Or.inl rfl | exact Or.inr rfl)(hs:swapsWith e (some (.Name x pos')) pos.line X.env=pure false:=by rfl)
 (hf:X.fn x=true\/X.env.scope.names.lookup x=some .local:=by first | exact .inl rfl | exact .inr rfl):MS X (.Assign [.Name x pos'] e pos) (sSet i f):=PS.imp (Yov hN hi hx he hs hf) fun _ _ _ h=>Yx2 h
theorem Yx5(i:Nat){x:Str}(hN:X.N.Nodup)(he:MF X e gl)(hi:X.N[i]?=some x:=by rfl)(hx:Loc X.env.scope x:=by first | exact Or.inl rfl | exact Or.inr rfl)(hs:swapsWith e (some (.Name x pos')) pos.line X.env=pure false:=by rfl)
 (hf:X.fn x=true\/X.env.scope.names.lookup x=some .local:=by first | exact .inl rfl | exact .inr rfl):MS X (.Assign [.Name x pos'] e pos) (sOwn i gl):=PS.imp (Yov hN hi hx he hs hf) fun _ _ _ h=>Yx3 h
def sRet(f:Ro->Option D):Ro->Option Out:=fun ρ=>(f ρ).map .rt
theorem Yx6(he:ME X e f):MS X (.Return (some e) pos) (sRet f):=PS.imp (Yta he) fun F σ H hx_=>by
 obtain⟨ρ,out,H0,G0,G,e,s,h⟩:=hx_
 obtain⟨d,h1,rfl⟩:=qb e
 exact tOf.at h1 s fun v H1 G1 g1 r1 s1=>h v H1 G1 s1.gr r1
def sIf(c:Ro->Option Bool)(f g:Ro->Option Out):Ro->Option Out:=fun ρ=>(c ρ).bind fun k=>if k=true then f ρ else g ρ
theorem y0b{c:Expr}{a b:List Stmt}{fc:Ro->Option Bool}(hc:MT X c fc)(ha:MB X a fs)(hb:MB X b gs):MS X (.If c a b pos) (sIf fc fs gs):=PS.imp (Yty hc ha hb) fun F σ H hx_=>by
 obtain⟨ρ,out,H0,G0,G,e,s,h⟩:=hx_
 unfold sIf at e
 obtain⟨k,h1,e⟩:=qa e
 refine tTof.at h1 s fun H1 G1 g1 s1=>?_
 cases k with
 | true=>
   rw[if_pos rfl]at e ⊢
   exact⟨ρ,out,H0,G0,G1,e,s1,h⟩
 | false=>
   rw[if_neg qh]at e ⊢
   exact⟨ρ,out,H0,G0,G1,e,s1,h⟩
def sMut(i:Nat)(f:Ro->Option D)(g:List D->D->Option (List D)):Ro->Option Out:=fun ρ=>(getO i ρ).bind fun l=>(f ρ).bind fun d=>(g l d).map fun l'=>.nx (ρ.set i (some (.ow l')))
theorem Ytm{H0 G0 H G:Hp}{σ:L2.St}{ρ:Ro}{i:Nat}{l:List D}(s:SR K H0 G0 σ H G ρ)(h:getO i ρ=some l):∃a xs,σ[i]?=some (some (V.ref a))/\H a=some (.lst xs)/\RpL K G l xs/\G a=none:=by
 obtain⟨a,xs,h1,h2,h3,h4,h5⟩:=s.ow i l (Yg5 h)
 exact⟨a,xs,h1,h4,h5,h2⟩
def appD(l:List D)(d:D):Option (List D):=if l.length < cap6 then some (l++[d])else none
theorem Ypr(i:Nat){x:Str}{p2 apos cpos:Pos}(he:ME X e f)(hN:X.N[i]?=some x:=by rfl)(hv:Vis X.env.scope x:=by first | exact Or.inl rfl | exact Or.inr (Or.inl rfl) | exact Or.inr (Or.inr rfl))
 (hd:(x==("__debug__":Str))=false:=by decide) (hcd:(x==("__classdict__":Str))=false:=by decide) (hse:swapsWith (.Call (.Attribute (.Name x p2) "append" apos) [e] [] cpos) none pos.line X.env=pure false:=by rfl)
 (hs:starEach [e] X.env=[(false,eval e X.env)]:=by rfl)
 (hfew:((backTo cpos (starEach [e] X.env)).all (fun x=>!x.1)&&(backToKw cpos (keywordEach [] X.env)).all (fun x=>x.1.isSome)&&decide ([e].length+([]:List Keyword).length+(if ([]:List Keyword).isEmpty then 0 else 1) < 30))=true:=by rfl)
 (hline:(apos.endLine==cpos.line)=true:=by rfl) (hbase:attributeBase (.Name x p2) "append" X.env (eval (.Name x p2) X.env)=eval (.Name x p2) X.env:=by rfl) :
 MS X (.Expr (.Call (.Attribute (.Name x p2) "append" apos) [e] [] cpos) pos) (sMut i f appD):=
 PS.imp (Yft (Yuc PySem.F.plainAttrs_list PySem.F.slot_list_append PySem.F.type_list_append Yg0 (Yfa hN hv hd hcd) (Ybd he Ydq hs) hbase hfew hline hs rfl) hse) fun F σ H hx_=>by
  obtain⟨ρ,out,H0,G0,G,e,s,h⟩:=hx_
  unfold sMut at e
  obtain⟨l,h1,e⟩:=qa e
  obtain⟨d,h2,e⟩:=qa e
  obtain⟨l',h3,rfl⟩:=qb e
  unfold appD at h3
  split at h3
  ·rename_i hl
   cases h3
   obtain⟨a,xs,ha,hH,hr,hG⟩:=Ytm s h1
   refine⟨_,ha,.inl ⟨rfl,xs,SqL.of hH⟩,tOf.at h2 s fun v H1 G1 g1 r1 s1=>?_⟩
   refine⟨a,xs,v,rfl,rfl,g1.h _ _ hH,?_,h σ _ G1 (s1.mut (Yg5 h1) ha ((hr.mono g1.g).append (.one r1)))⟩
   rw[hr.length]
   exact Qa hl (Ye3 (qs _))
  ·cases h3
theorem Ysa{J:It}{G':Hp}{ds:List D}(hz:ds.length<=sizeLine)(h:∀(i:Nat) H2 G2,Same G' G2->Same G2 H2->(∀d,ds[i]?=some d->J.go i H2/\∀y H3,J.yld i H2 y H3->H3=H2/\Rp K G2 d y)/\(ds.length<=i->J.stop i H2)):Wk K J G' ds:=
 ⟨hz,fun i H2 G2 s1 s2=>⟨fun d hd=>⟨((h i H2 G2 s1 s2).1 d hd).1,fun y H3 q=>by
  obtain⟨rfl,r⟩:=((h i H2 G2 s1 s2).1 d hd).2 y H3 q
  exact⟨G2,.refl s2,r⟩⟩,(h i H2 G2 s1 s2).2⟩⟩
variable {tg:Expr}
def iSeq(K:W.Frag)(tl:TE):TI:=fun σ H R=>tl σ H fun x H1=>∃a xs,x=.ref a/\((SqL K H1 a xs/\(xs.length<=sizeLine->R (Itl K a) H1))\/(SqT K H1 a xs/\(xs.length<=sizeLine->R (Itt K a) H1)))
theorem Yx7{l:Expr}{tl:TE}(hl:PE X l tl):PI X tg l (iSeq X.K tl):=by
 intro pins s σ H R I h
 refine thn (hl pins s σ H _ I h) fun v s1 hx_=>?_
 obtain⟨x,H1,I1,r1,q1⟩:=hx_
 obtain⟨a,xs,e,q1⟩:=q1
 subst e
 cases r1
 rcases q1 with⟨hq,q⟩ | ⟨hq,q⟩
 ·obtain⟨its,rv,p,hz⟩:=I1.list hq
  refine wpAny_pyIter_list p.isList ?_
  refine⟨s1.heap.objs.size,[s1.heap.objs.size],_,_,H1,rfl,I1.kept (t':=s1.toks) fun b o e=>qd _ e,Yow a _,⟨_,qo _ rfl,rfl,rfl⟩,fun b hb=>?_,q hz⟩
  have e:b=s1.heap.objs.size:=by simpa using hb
  subst e
  exact I1.fpOk (qs _) (I1.hok.fresh (qs _))
 ·obtain⟨its,rv,p,hz⟩:=I1.tuple hq
  refine wpAny_pyIter_tuple (show s1.heap.IsTuple a its.toArray from p) ?_
  refine⟨s1.heap.objs.size,[s1.heap.objs.size],_,_,H1,rfl,I1.kept (t':=s1.toks) fun b o e=>qd _ e,Ynx a _,⟨_,qo _ rfl,rfl,rfl⟩,fun b hb=>?_,q hz⟩
  have e:b=s1.heap.objs.size:=by simpa using hb
  subst e
  exact I1.fpOk (qs _) (I1.hok.fresh (qs _))
theorem Yx8{l:Expr}(hl:ME X l f):MI X tg l (b1 f Ys):=PI.imp (Yx7 hl) fun σ H R hx_=>by
 obtain⟨ρ,ds,H0,G0,G,e,s,h⟩:=hx_
 obtain⟨c,h1,h2⟩:=Yca e
 refine tOf.at h1 s fun v H1 G1 g1 r1 s1=>?_
 rcases Yav h2 with rfl | rfl | ⟨ns,rfl,rfl⟩
 ·rw[Rp]at r1
  obtain⟨p,xs,rfl,g,rl⟩:=r1
  refine⟨p,xs,rfl,.inr ⟨.inl (.inl (s1.seen _ _ g)),fun hz=>h _ H1 G1 g1 (Ysa (by rw[<-rl.length];exact hz) fun i H2 G2 e1 e2=>⟨fun d hd=>?_,fun hi=>⟨xs,.inl (.inl (e2 _ _ (e1 _ _ g))),by rw[rl.length];exact hi⟩⟩)⟩⟩
  obtain⟨x,hx,rx⟩:=rl.get hd
  refine⟨⟨xs,x,.inl (.inl (e2 _ _ (e1 _ _ g))),hx⟩,fun y H3 q=>⟨q.1,?_⟩⟩
  have:=q.2 xs (.inl (.inl (e2 _ _ (e1 _ _ g))))
  rw[hx]at this
  cases this
  exact rx.mono e1
 ·rw[Rp]at r1
  obtain⟨p,xs,rfl,g,rl⟩:=r1
  refine⟨p,xs,rfl,.inl ⟨.inl (Yaz s1.seen g),fun hz=>h _ H1 G1 g1 (Ysa (by rw[<-rl.length];exact hz) fun i H2 G2 e1 e2=>⟨fun d hd=>?_,fun hi=>⟨xs,.inl (Yaz e2 (Yaz e1 g)),by rw[rl.length];exact hi⟩⟩)⟩⟩
  obtain⟨x,hx,rx⟩:=rl.get hd
  refine⟨⟨xs,x,.inl (Yaz e2 (Yaz e1 g)),hx⟩,fun y H3 q=>⟨q.1,?_⟩⟩
  have:=q.2 xs (.inl (Yaz e2 (Yaz e1 g)))
  rw[hx]at this
  cases this
  exact rx.mono e1
 ·rw[Rp]at r1
  obtain⟨p,rfl,g⟩:=r1
  have rl:RpL X.K G1 (ns.map D.int) (ns.map V.int):=.ints ns
  refine⟨p,_,rfl,.inl ⟨s1.seen.seq g,fun hz=>h _ H1 G1 g1 (Ysa (by rw[<-rl.length];exact hz) fun i H2 G2 e1 e2=>⟨fun d hd=>?_,fun hi=>⟨_,e2.seq (e1.seq g),by rw[rl.length];exact hi⟩⟩)⟩⟩
  obtain⟨x,hx,rx⟩:=rl.get hd
  refine⟨⟨_,x,e2.seq (e1.seq g),hx⟩,fun y H3 q=>⟨q.1,?_⟩⟩
  have:=q.2 _ (e2.seq (e1.seq g))
  rw[hx]at this
  cases this
  exact rx.mono e1
def rngD(a n:Int):List D:=(List.range (n - a).toNat).map fun i=>.int (a+(i:Nat))
theorem Yha(a n:Int):(rngD a n).length=(n - a).toNat:=by simp[rngD]
theorem Yx9{a n:Int}{G':Hp}(hz:(n - a).toNat<=sizeLine):Wk K (Itr a (n - a).toNat) G' (rngD a n):=
 Ysa (by rw[Yha];exact hz) fun i H2 G2 _ _=>⟨fun d hd=>by
  unfold rngD at hd
  rw[Qc]at hd
  obtain⟨j,h1,rfl⟩:=qb hd
  have hj:i < (n - a).toNat:=by
   have:=(qm h1).1
   simpa using this
  rw[List.getElem?_range hj]at h1
  cases h1
  exact⟨hj,fun y H3 q=>⟨q.1,by rw[Rp];exact q.2⟩⟩,fun hi=>by rw[Yha]at hi;exact hi⟩
def rng1:List D->Option (List D)
 | [.int n]=>if decide (-(cap6:Int)<=n)&&decide (n<=cap6)then some (rngD 0 n)else none
 | _=>none
theorem Yps{l ds:List D}(h:rng1 l=some ds):∃n:Int,l=[.int n]/\-1000000<=n/\n<=1000000/\ds=rngD 0 n:=by
 unfold rng1 at h
 split at h
 ·rename_i n
  split at h
  ·rename_i hc
   cases h
   simp only[Bool.and_eq_true,decide_eq_true_eq]at hc
   have hcap:(cap6:Int)=1000000:=by decide
   exact⟨n,rfl,by lia,by lia,rfl⟩
  ·cases h
 ·cases h
theorem Ypt{a:Expr}{ga:Ro->Option (List D)}{p:Pos}(hg:Gl X "range")(hm:X.mg "range"=none)(ha:MA X [a] ga)(hs:starEach [a] X.env=[(false,eval a X.env)]:=by rfl):MI X tg (.Call (.Name "range" p) [a] [] pos) (cF ga rng1):=
 PI.imp (Yox hg hm ha hs) fun σ H R hx_=>by
  obtain⟨ρ,ds,H0,G0,G,e,s,h⟩:=hx_
  unfold cF at e
  obtain⟨l,h1,h2⟩:=qa e
  refine tAof.at h1 s fun vs H1 G1 g1 r1 s1=>?_
  obtain⟨n,rfl,c1,c2,rfl⟩:=Yps h2
  obtain⟨v,rfl,rv⟩:=Yg9 r1
  rw[Rp]at rv
  subst rv
  refine⟨n,rfl,by lia,by lia,?_⟩
  have:=h (Itr 0 (n - 0).toNat) H1 G1 g1 (Yx9 (Ye3 (by unfold cap6;lia)))
  simpa using this
def gSet(i:Nat):D->Ro->Option Ro:=fun d ρ=>some (ρ.set i (some (.sh d)))
theorem Yuy(i:Nat){x:Str}(hN:X.N.Nodup)(hi:X.N[i]?=some x:=by rfl)(hx:Loc X.env.scope x:=by first | exact Or.inl rfl | exact Or.inr rfl)(hf:X.fn x=true\/X.env.scope.names.lookup x=some .local:=by first | exact .inl rfl | exact .inr rfl):MG X (.Name x pos) (gSet i):=
 PG.imp (Ylu hN hi hx hf) fun v σ H Q hx_=>by
  obtain⟨d,ρ,ρ',H0,G0,G,e,s,r,h⟩:=hx_
  cases e
  exact h _ (s.set_sh i r)
def Yl1(i j:Nat):D->Ro->Option Ro:=fun d ρ=>match d with
 | .tup [a,b]=>some ((ρ.set i (some (.sh a))).set j (some (.sh b)))
 | _=>none
theorem Yuz(i j:Nat){x y:Str}{px py:Pos}{k:Nat}(hc:X.calm=true)(hN:X.N.Nodup)(hi:X.N[i]?=some x:=by rfl)(hj:X.N[j]?=some y:=by rfl)(hx:Loc X.env.scope x:=by first | exact Or.inl rfl | exact Or.inr rfl)(hy:Loc X.env.scope y:=by first | exact Or.inl rfl | exact Or.inr rfl)
 (hf:X.fn x=true\/X.env.scope.names.lookup x=some .local:=by first | exact .inl rfl | exact .inr rfl) (hf2:X.fn y=true\/X.env.scope.names.lookup y=some .local:=by first | exact .inl rfl | exact .inr rfl):MG X (.Tuple [.Name x px,.Name y py] k pos) (Yl1 i j):=
 PG.imp (Yws (n:=2) hc (Ymv (Ylu hN hi hx hf) (Ymv (Ylu hN hj hy hf2) Ytz))) fun v σ H Q hx_=>by
  obtain⟨d,ρ,ρ',H0,G0,G,e,s,r,h⟩:=hx_
  match d,e,r with
  | .tup [a,b],e,r=>
    cases e
    rw[Rp]at r
    obtain⟨p,xs,rfl,g,rl⟩:=r
    rw[RpL]at rl
    obtain⟨u,us,rfl,ru,rl⟩:=rl
    obtain⟨w,rfl,rw'⟩:=Yg9 rl
    exact⟨p,[u,w],rfl,.inl (.inl (s.seen _ _ g)),rfl,u,[w],rfl,w,[],rfl,rfl,h _ ((s.set_sh i ru).set_sh j rw')⟩
def forM(gt:D->Ro->Option Ro)(fb:Ro->Option Out):List D->Ro->Option Out
 | [],ρ=>some (.nx ρ)
 | d::ds,ρ=>(gt d ρ).bind fun ρ1=>(fb ρ1).bind fun
   | .nx ρ2=>forM gt fb ds ρ2
   | .ct ρ2=>forM gt fb ds ρ2
   | .bk ρ2=>some (.nx ρ2)
   | .rt d=>some (.rt d)
def sFor(gl:Ro->Option (List D))(gt:D->Ro->Option Ro)(fb:Ro->Option Out):Ro->Option Out:=fun ρ=>(gl ρ).bind fun ds=>forM gt fb ds ρ
theorem Ye4{gt:D->Ro->Option Ro}{fb:Ro->Option Out}:∀(ds:List D) (ρ:Ro) (out:Out),forM gt fb ds ρ=some out->(∃ρ',out=.nx ρ')\/∃d,out=.rt d
 | [],ρ,out,h=>by cases h;exact .inl ⟨_,rfl⟩
 | d::ds,ρ,out,h=>by
   rw[forM]at h
   obtain⟨ρ1,h1,h⟩:=qa h
   obtain⟨o,h2,h⟩:=qa h
   cases o with
   | nx ρ2=>exact Ye4 ds ρ2 out h
   | ct ρ2=>exact Ye4 ds ρ2 out h
   | bk ρ2=>cases h;exact .inl ⟨_,rfl⟩
   | rt d=>cases h;exact .inr ⟨_,rfl⟩
theorem Yya{iter:Expr}{body:List Stmt}{gt:D->Ro->Option Ro}(hp:PassesOwn (model X.prog X.w) X.A X.env X.xe)(hc:X.calm=true)(hi:MI X tg iter gl)(hg:MG X tg gt)(hb:MB X body fs)
 (hs:∀x,foldedSetIterable iter X.env x=pure x:=by intro _;rfl):MS X (.For tg iter body [] pos) (sFor gl gt fs):=
 PS.imp (Ytb hp hc hi hg hb hs) fun F σ H hx_=>by
  obtain⟨ρ,out,H0,G0,G,e,s,h⟩:=hx_
  unfold sFor at e
  obtain⟨ds,h1,h2⟩:=qa e
  refine⟨ρ,ds,H0,G0,G,h1,s,fun J H1 G1 g1 wk=>?_⟩
  obtain⟨Hb,sb,back⟩:=(s.grow g1).rebase
  have hout:=Ye4 ds ρ out h2
  refine⟨fun i m σ' H'=>m=ds.length - i/\i<=ds.length/\∃ρ' G',SR X.K Hb G1 σ' H' G' ρ'/\forM gt fs (ds.drop i) ρ'=some out,⟨_,rfl,Nat.zero_le _,ρ,G1,sb,h2⟩,?_⟩
  rintro i m σ' H' ⟨rfl,hi,ρ',G',s',e'⟩
  have W:=wk.2 i H' G' s'.gr.g s'.seen
  by_cases hlt:i < ds.length
  ·have hd:ds[i]?=some ds[i]:=qp hlt
   obtain⟨go,yl⟩:=W.1 _ hd
   rw[List.drop_eq_getElem_cons hlt,forM]at e'
   obtain⟨ρ1,e1,e'⟩:=qa e'
   obtain⟨o,e2,e'⟩:=qa e'
   refine .inr ⟨go,fun σ' H'=>i+1<=ds.length/\∃ρ' G',SR X.K Hb G1 σ' H' G' ρ'/\forM gt fs (ds.drop (i+1)) ρ'=some out,fun σ2 H2 q=>⟨ds.length - (i+1),by lia,rfl,q.1,q.2⟩,fun x H2 y=>?_⟩
   obtain⟨G2,g2,r2⟩:=yl x H2 y
   refine⟨_,ρ',ρ1,Hb,G1,G2,e1,s'.grow g2,r2,fun σ3 s3=>?_⟩
   refine⟨ρ1,o,Hb,G1,G2,e2,s3,?_⟩
   cases o with
   | nx ρ2=>exact fun σ4 H4 G4 s4=>⟨hlt,ρ2,G4,s4,e'⟩
   | ct ρ2=>exact fun σ4 H4 G4 s4=>⟨hlt,ρ2,G4,s4,e'⟩
   | bk ρ2=>
     cases e'
     exact fun σ4 H4 G4 s4=>h σ4 H4 G4 (back _ _ _ _ s4)
   | rt d=>
     cases e'
     refine fun v H4 G4 g4 r4=>h v H4 G4 ?_ r4
     have:=(back [] H4 G4 [] (SR.mkSh g4 rfl (fun i d e=>(by simp at e)) (fun i l e=>(by simp at e)) (fun i t ks vs e=>(by simp at e)))).gr
     exact this
  ·have ei:i=ds.length:=by lia
   subst ei
   rw[List.drop_length,forM]at e'
   cases e'
   exact .inl ⟨W.2 (qs _),h σ' H' G' (back _ _ _ _ s')⟩
def capR(src:List (Option Nat))(ρ:Ro):Ro:=src.map fun o=>o.bind fun j=>match ρ[j]? with
 | some (some (B.sh d))=>some (.sh d)
 | _=>none
theorem SR.cap{H0 G0 H G:Hp}{σ:L2.St}{ρ:Ro}(s:SR K H0 G0 σ H G ρ)(src:List (Option Nat)):SR K H G (capσ src σ) H G (capR src ρ):=by
 have noow:∀(i:Nat) l,(capR src ρ)[i]?≠some (some (B.ow l)):=fun i l h=>by
  unfold capR at h
  rw[Qc]at h
  obtain⟨o,h1,h2⟩:=qb h
  obtain⟨j,rfl,h3⟩:=qa h2
  split at h3<;>cases h3
 have nood:∀(i:Nat) t ks vs,(capR src ρ)[i]?≠some (some (B.od t ks vs)):=fun i t ks vs h=>by
  unfold capR at h
  rw[Qc]at h
  obtain⟨o,h1,h2⟩:=qb h
  obtain⟨j,rfl,h3⟩:=qa h2
  split at h3<;>cases h3
 refine SR.mkSh (.refl s.seen) (by simp[capσ,capR]) (fun i d h=>?_) noow nood
 unfold capR at h
 rw[Qc]at h
 obtain⟨o,h1,h2⟩:=qb h
 obtain⟨j,rfl,h3⟩:=qa h2
 split at h3
 ·rename_i d' hd
  cases h3
  obtain⟨v,q1,q2⟩:=s.sh j _ hd
  refine⟨v,?_,q2⟩
  unfold capσ
  rw[Qc,h1]
  show some ((σ[j]?).join)=some (some v)
  rw[q1]
  rfl
 ·cases h3
def Ye5(gt:D->Ro->Option Ro)(fc:Ro->Option Bool)(fe:Ro->Option D)(ρ:Ro):List D->Option (List D)
 | []=>some []
 | d::ds=>(gt d ρ).bind fun ρ1=>(fc ρ1).bind fun k=>if k=true then (fe ρ1).bind fun v=>(Ye5 gt fc fe ρ ds).map (v::·)else Ye5 gt fc fe ρ ds
def Yc3(gl:Ro->Option (List D))(src:List (Option Nat))(gt:D->Ro->Option Ro)(fc:Ro->Option Bool)(fe:Ro->Option D):Ro->Option (List D):=fun ρ=>(gl ρ).bind fun ds=>Ye5 gt fc fe (capR src ρ) ds
def tY:Ro->Option Bool:=fun _=>some true
theorem Yu0{σ:L2.St}{H:Hp}{Q:Bool->Hp->Prop}(h:tTof K tY σ H Q):tYes σ H Q:=by
 obtain⟨ρ,k,H0,G0,G,e,s,h⟩:=h
 cases e
 exact h H G (.refl s.seen)
theorem Yyb:PIfs X [] (tTof X.K tY):=fun pins s σ H Q I h=>Yue pins s σ H Q I (Yu0 h)
theorem Ybs{src:List (Option Nat)}{i:Nat}(h:src[i]?=some none):∀ρ d ρ1,gSet i d (capR src ρ)=some ρ1->Le (capR src ρ) ρ1:=fun ρ d ρ1 e=>by
 cases e
 refine⟨by simp,fun j b hb=>?_⟩
 by_cases hj:j=i
 ·subst hj
  unfold capR at hb
  rw[Qc,h]at hb
  cases hb
 ·rw[qy (Ne.symm hj)];exact hb
theorem Ysb{src:List (Option Nat)}{i k:Nat}(h:src[i]?=some none)(h':src[k]?=some none):∀ρ d ρ1,Yl1 i k d (capR src ρ)=some ρ1->Le (capR src ρ) ρ1:=fun ρ d ρ1 e=>by
 unfold Yl1 at e
 split at e
 ·cases e
  refine⟨by simp,fun j b hb=>?_⟩
  have ne:∀n,src[n]?=some none->j≠n:=fun n hn z=>by
   subst z
   unfold capR at hb
   rw[Qc,hn]at hb
   cases hb
  rw[qy (Ne.symm (ne k h')),qy (Ne.symm (ne i h))];exact hb
 ·cases e
theorem Ypu{src:List (Option Nat)}{gt:D->Ro->Option Ro}{fc:Ro->Option Bool}{fe:Ro->Option D}(hle:∀ρ d ρ1,gt d (capR src ρ)=some ρ1->Le (capR src ρ) ρ1){σ:L2.St}{H:Hp}{Q:VK}
 (h:tFof K (Yc3 gl src gt fc fe) σ H Q):tLC (tIof K gl) src (gOf K gt) (tTof K fc) (tOf K fe) σ H Q:=by
 obtain⟨ρ,l,H0,G0,G,e,s,h⟩:=h
 unfold Yc3 at e
 obtain⟨ds,h1,h2⟩:=qa e
 refine⟨ρ,ds,H0,G0,G,h1,s,fun J H1 G1 g1 wk p hp=>?_⟩
 have s1:=s.grow g1
 have sc:=s1.cap src
 have gp:G1 p=none:=s1.seen.free hp
 refine⟨fun i m σ' H'=>m=ds.length - i/\i<=ds.length/\∃G' done xs rest,SR K H1 G1 σ' H' G' (capR src ρ)/\H' p=some (.lst xs)/\G' p=none/\RpL K G' done xs/\xs.length<=i/\Ye5 gt fc fe (capR src ρ) (ds.drop i)=some rest/\done++rest=l,
  ⟨_,rfl,Nat.zero_le _,G1,[],[],l,sc.grow (Gr.hid s1.seen hp _),Yo,gp,.nil,Nat.zero_le _,h2,rfl⟩,?_⟩
 rintro i m σ' H' ⟨rfl,hi,G',done,xs,rest,s',hx,gx,rx,hl,e',hd⟩
 have W:=wk.2 i H' G' s'.gr.g s'.seen
 by_cases hlt:i < ds.length
 ·have hdi:ds[i]?=some ds[i]:=qp hlt
  obtain⟨go,yl⟩:=W.1 _ hdi
  rw[List.drop_eq_getElem_cons hlt,Ye5]at e'
  obtain⟨ρ1,e1,e'⟩:=qa e'
  obtain⟨k,e2,e'⟩:=qa e'
  refine .inr ⟨go,fun x H2 y=>?_⟩
  obtain⟨G2,g2,r2⟩:=yl x H2 y
  have keep:∀{Ha Ga Hb Gb:Hp},Gr Ha Ga Hb Gb->Ha p=some (.lst xs)->Ga p=none->Hb p=some (.lst xs)/\Gb p=none:=fun {Ha Ga Hb Gb} g e1 e2=>by
   refine⟨g.h _ _ e1,?_⟩
   cases q:Gb p with
   | none=>rfl
   | some o=>
     have:=g.n p e2 (by rw[q];exact fun z=>nomatch z)
     rw[e1]at this
     cases this
  obtain⟨hx2,gx2⟩:=keep g2 hx gx
  refine⟨_,capR src ρ,ρ1,H1,G1,G2,e1,s'.grow g2,r2,fun σ3 s3=>?_⟩
  refine tTof.at e2 s3 fun H4 G4 g4 s4=>?_
  obtain⟨hx4,gx4⟩:=keep g4 hx2 gx2
  have le:=hle ρ _ ρ1 e1
  cases k with
  | false=>
    rw[if_neg qh]at e' ⊢
    exact⟨ds.length - (i+1),by lia,rfl,hlt,G4,done,xs,rest,s4.le le,hx4,gx4,(rx.mono g2.g).mono g4.g,by lia,e',hd⟩
  | true=>
    rw[if_pos rfl]at e' ⊢
    obtain⟨v,e3,e'⟩:=qa e'
    obtain⟨rest',e4,rfl⟩:=qb e'
    refine tOf.at e3 s4 fun w H5 G5 g5 r5 s5=>?_
    obtain⟨hx5,gx5⟩:=keep g5 hx4 gx4
    have hz:=wk.1
    refine⟨xs,hx5,by lia,ds.length - (i+1),by lia,rfl,hlt,G5,done++[v],xs++[w],rest',?_,Yo,gx5,(((rx.mono g2.g).mono g4.g).mono g5.g).append (.one r5),by simp;lia,e4,by simpa using hd⟩
    have s6:=s5.le le
    have noow:∀(i:Nat) l,(capR src ρ)[i]?≠some (some (B.ow l)):=fun i l h=>by
     unfold capR at h
     rw[Qc]at h
     obtain⟨o,h1,h2⟩:=qb h
     obtain⟨j,rfl,h3⟩:=qa h2
     split at h3<;>cases h3
    have nood:∀(i:Nat) t ks vs,(capR src ρ)[i]?≠some (some (B.od t ks vs)):=fun i t ks vs h=>by
     unfold capR at h
     rw[Qc]at h
     obtain⟨o,h1,h2⟩:=qb h
     obtain⟨j,rfl,h3⟩:=qa h2
     split at h3<;>cases h3
    refine SR.mkSh ⟨fun b o q=>?_,s6.gr.g,fun b o q=>?_,s6.gr.n⟩ s6.len s6.sh noow nood
    ·rw[Yk (Yv q hp)];exact s6.gr.h b o q
    ·rw[Yk (Yv q gx5)];exact s6.gr.s b o q
 ·have ei:i=ds.length:=by lia
  subst ei
  rw[List.drop_length,Ye5]at e'
  cases e'
  rw[List.append_nil]at hd
  subst hd
  exact .inl ⟨W.2 (qs _),h p xs H' G' (g1.trans s'.gr) (g1.h.free hp) gx hx rx⟩
section
variable {elt iter:Expr} {ifs:List Expr} {scope:Scope} {N:List Str} {src:List (Option Nat)} {gt:D->Ro->Option Ro} {fc:Ro->Option Bool} {fe:Ro->Option D}
theorem Yu1(S:CompSc X.N X.env.scope N src scope)(hc:X.calm=true)(hit:MI X tg iter gl)(hg:∀cl C fp s H,MG (Yal X scope N cl C fp s H) tg gt)(hi:∀cl C fp s H,PIfs (Yal X scope N cl C fp s H) ifs (tTof X.K fc))(he:∀cl C fp s H,ME (Yal X scope N cl C fp s H) elt fe)
 (hle:∀ρ d ρ1,gt d (capR src ρ)=some ρ1->Le (capR src ρ) ρ1) (hs:∀x,foldedSetIterable iter X.env x=pure x:=by intro _;rfl):MF X (.ListComp elt [⟨tg,iter,ifs,0⟩] scope pos) (Yc3 gl src gt fc fe):=
 PE.imp (Yug S hc hit hg hi he hs) fun _ _ _ h=>Ypu hle h
theorem Yu2(i:Nat){y:Str}{py spos:Pos}(hN:X.N.Nodup)(S:CompSc X.N X.env.scope N src scope)(hc:X.calm=true)(hit:MI X tg iter gl)(hg:∀cl C fp s H,MG (Yal X scope N cl C fp s H) tg gt)(hi:∀cl C fp s H,PIfs (Yal X scope N cl C fp s H) ifs (tTof X.K fc))(he:∀cl C fp s H,ME (Yal X scope N cl C fp s H) elt fe)
 (hle:∀ρ d ρ1,gt d (capR src ρ)=some ρ1->Le (capR src ρ) ρ1) (hsw:swapsWith (.ListComp elt [⟨tg,iter,ifs,0⟩] scope pos) (some (.Name y py)) spos.line X.env=pure true:=by rfl) (hy:X.N[i]?=some y:=by rfl) (hx:Loc X.env.scope y:=by first | exact Or.inl rfl | exact Or.inr rfl)
 (hf:X.fn y=true\/X.env.scope.names.lookup y=some .local:=by first | exact .inl rfl | exact .inr rfl) (hs:∀x,foldedSetIterable iter X.env x=pure x:=by intro _;rfl):MS X (.Assign [.Name y py] (.ListComp elt [⟨tg,iter,ifs,0⟩] scope pos) spos) (sOwn i (Yc3 gl src gt fc fe)):=
 PS.imp (Yuh S hc hit hg hi he hN hy hx hsw hf hs) fun F σ H h=>by
  obtain⟨ρ,out,H0,G0,G,e,s,h⟩:=h
  obtain⟨l,h1,rfl⟩:=qb e
  exact Ypu hle ⟨ρ,l,H0,G0,G,h1,s,fun p xs H' G' g hp gp e' r=>h _ H' G' (s.set_ow i g hp gp e' r)⟩
end
def Yr(n:Nat)(ds:List D):Ro:=ds.map (fun d=>some (.sh d))++List.replicate (n - ds.length) none
def runB(k n:Nat)(fb:Ro->Option Out)(ds:List D):Option D:=if ds.length=k then (fb (Yr n ds)).bind fun
 | .rt d=>some d
 | .nx _=>some .non
 | _=>none
 else none
theorem SR.start{H G:Hp}{ds:List D}{vs:List V}{N:List Str}(s:Same G H)(r:RpL K G ds vs):SR K H G (start N vs) H G (Yr N.length ds):=by
 have hl:=r.length
 have noow:∀(i:Nat) l,(Yr N.length ds)[i]?≠some (some (B.ow l)):=fun i l h=>by
  unfold Yr at h
  rw[List.getElem?_append]at h
  split at h
  ·rw[Qc]at h
   obtain⟨d,_,h2⟩:=qb h
   cases h2
  ·rw[List.getElem?_replicate]at h
   split at h<;>cases h
 have nood:∀(i:Nat) t ks vs,(Yr N.length ds)[i]?≠some (some (B.od t ks vs)):=fun i t ks vs h=>by
  unfold Yr at h
  rw[List.getElem?_append]at h
  split at h
  ·rw[Qc]at h
   obtain⟨d,_,h2⟩:=qb h
   cases h2
  ·rw[List.getElem?_replicate]at h
   split at h<;>cases h
 refine SR.mkSh (.refl s) (by simp[L2.start,Yr,hl]) (fun i d h=>?_) noow nood
 unfold Yr at h
 rw[List.getElem?_append]at h
 split at h
 ·rename_i hi
  rw[Qc]at h
  obtain⟨d',h1,h2⟩:=qb h
  cases h2
  obtain⟨v,h3,h4⟩:=r.get h1
  refine⟨v,?_,h4⟩
  unfold L2.start
  rw[List.getElem?_append_left (by rw[qe,hl];simpa using hi),Qc,h3]
  rfl
 ·rw[List.getElem?_replicate]at h
  split at h<;>cases h
section
variable {P:Program} {w:World} {mg:Str->Option Value} {base:Heap}
theorem Ypv{x qual:Str}{st:Stmt}{f:Addr}{fd:FuncData}{N ps:List Str}{k n m:Nat}{fb:Ro->Option Out}(F:Fun K x qual st f fd)(S:FnScope N ps (defScope st))(hn:N.length=n)(hm:ps.length=m)
 (hb:∀(cdv:Value) (A:Around) (outer:List Env) (s:Shared) (H:Hp) (E:XK),Room k (A.deeper (envOfC qual (defScope st) s.heap.objs.size f cdv))->MB (cxOf CX0 P w K mg base N qual (defScope st) f cdv A outer s H E).nox (defBody st) fb) :
 FnOk P w K mg base CX0 (k+1) f fd ps (spOf K m (runB m n fb)):=by
 refine F.ok S (fun vs H Q E h=>by rw[h.1,hm]) fun cdv A outer s H vs Q E hr h=>?_
 obtain⟨hl,ds,d,G,sm,r,e,q⟩:=h
 refine⟨_,hb cdv A outer s H E hr,?_⟩
 unfold runB at e
 split at e
 ·rename_i hds
  obtain⟨o,h1,h2⟩:=qa e
  refine⟨Yr n ds,o,H,G,G,h1,by rw[<-hn];exact SR.start sm r,?_⟩
  cases o with
  | rt d'=>cases h2;exact fun v H' G' g r'=>q v H' G' g r'
  | nx ρ=>cases h2;exact fun σ' H' G' s'=>q .non H' G' s'.gr (by rw[Rp])
  | bk ρ=>cases h2
  | ct ρ=>cases h2
 ·cases e
end
end
end
section
variable {K:W.Frag}
def Okf(P:Program)(w:World)(K:W.Frag)(mg:Str->Option Value)(base:Heap)(k n:Nat)(x:Str)(ps:List Str)(fn:List D->Option D):Prop:=
 ∃a fd,FnOk P w K mg base CX0 k a fd ps (spOf K n fn)/\Binds K fd ps []/\W.keepIn K (.ref a)=true/\mg x=some (.ref a)
theorem Yyc{P:Program}{w:World}{K:W.Frag}{mg:Str->Option Value}{base:Heap}{k n:Nat}{x q:Str}{ps:List Str}{fn:List D->Option D}{st:Stmt}{a:Addr}{fd:FuncData}(F:Fun K x q st a fd)(b:Binds K fd ps [])
 (hm:mg x=some (.ref a)) (h:FnOk P w K mg base CX0 k a fd ps (spOf K n fn)):Okf P w K mg base k n x ps fn:=⟨a,fd,h,b,F.kp,hm⟩
section
variable {X:Cx} {a b e:Expr} {es:List Expr} {fa fb:Ro->Option D} {ga:Ro->Option (List D)} {pos:Pos}
theorem Ysc{j k n:Nat}{x:Str}{p:Pos}{ps:List Str}{fn:List D->Option D}(c:Okf X.prog X.w X.K X.mg X.base j n x ps fn)(hr:Room k X.A)(hg:Gl X x)(ha:MA X (e::es) ga)(hl:∀ρ l,ga ρ=some l->l.length=n)
 (hj:j<=k:=by first | exact qs _ | lia) (hdb:(x==("__debug__":Str))=false:=by decide) (he:starEach (e::es) X.env=(false,eval e X.env)::starEach es X.env:=by rfl) (hpl:(backTo pos (starEach es X.env)).any (·.1)=false:=by rfl) :
 ME X (.Call (.Name x p) (e::es) [] pos) (cC ga fn):=by
 obtain⟨a,fd,F,hb,hk,hm⟩:=c
 exact Yuw F (hr.mono hj) hg hm hk hb ha hdb he hpl hl
theorem Yyd(ha:MC X a fa)(hb:MC X b fb):ME X (.BinOp a .Add b pos) (b2 fa fb addI):=Yiv Ywu Yph ha hb
def negI:D->Option D
 | .int i=>some (.int (-i))
 | _=>none
theorem Yye(ha:MC X a fa):ME X (.UnaryOp .USub a pos) (b1 fa negI):=PE.imp (Yzq Ywz ha) fun σ H Q hx_=>by
 obtain⟨ρ,d,H0,G0,G,e,s,h⟩:=hx_
 obtain⟨x,h1,h2⟩:=Yca e
 refine tCof.at h1 s fun v H1 G1 g1 r1 s1=>?_
 cases x<;>simp[negI]at h2
 subst h2
 rw[Ct]at r1
 exact⟨_,r1,h _ H1 G1 g1 (by rw[Rp])⟩
def catD:D->D->Option (List D)
 | .lst a,.lst b=>if a.length+b.length<=cap6 then some (a++b)else none
 | _,_=>none
def y0c:R2:=fun x y H Q=>∃l b xs zs,x=.ref l/\y=.ref b/\Rd H l (.lst xs)/\Rd H b (.lst zs)/\xs.length+zs.length<=sizeLine/\∀p,H p=none->Q (.ref p) (upd H p (.lst (xs++zs)))
theorem Yu3:OpR X (binaryOp .Add) y0c:=by
 intro pins s σ H x y v u Q I rx ry h
 obtain⟨l,b,xs,zs,rfl,rfl,hH,hB,hz,q⟩:=h
 cases rx
 cases ry
 obtain⟨z,its,n,r,e⟩:=hH.ok I.hok
 obtain⟨z2,its2,n2,r2,e2⟩:=hB.ok I.hok
 have hl:=r.length
 have hl2:=r2.length
 refine PySem.P.add_list e e2 ?_ (by rw[qj,qj];lia)
 have ea:its.toArray++its2.toArray=(its++its2).toArray:=by simp
 rw[ea]
 exact⟨.ref _,_,I.lnew (t':=s.toks) (r.append r2) (by rw[qw];lia),rfl,q _ I.fresh⟩
theorem Yyf(ha:MC X a fa)(hb:MC X b fb):MF X (.BinOp a .Add b pos) (b2 fa fb catD):=PE.imp (Ywt Yu3 ha hb) fun σ H Q hx_=>by
 obtain⟨ρ,l,H0,G0,G,e,s,h⟩:=hx_
 obtain⟨dx,dy,h1,h2,h3⟩:=Yjm e
 refine tCof.at h1 s fun v H1 G1 g1 r1 s1=>tCof.at h2 s1 fun u H2 G2 g2 r2 s2=>?_
 unfold catD at h3
 split at h3
 ·rename_i l1 l2
  split at h3
  ·rename_i hz
   cases h3
   have r1':=r1.grow g2
   rw[Ct]at r1' r2
   obtain⟨p,xs,rfl,gp,rl⟩:=r1'
   obtain⟨q,zs,rfl,gq,rm⟩:=r2
   refine⟨p,q,xs,zs,rfl,rfl,gp,gq,by rw[rl.length,rm.length];exact Ye3 hz,fun m hm=>?_⟩
   exact h m _ _ G2 ((g1.trans g2).trans (.hid s2.seen hm _)) (g1.h.free (g2.h.free hm)) (s2.seen.free hm) Yo (rl.append rm)
  ·cases h3
 ·cases h3
def Yf9:D->String
 | .non=>"NoneType"
 | .bl _=>"bool"
 | .int _=>"int"
 | .str _=>"str"
 | .tup _=>"tuple"
 | .lst _=>"list"
 | .scr _=>"list"
 | .dct _ _ _=>"dict"
 | .obj _ _ _=>"dict"
 | .adr _=>"dict"
def Yu4:D->Bool
 | .scr _=>false
 | .dct t _ _=>!t
 | .obj _ _ _=>false
 | .adr _=>false
 | _=>true
def isiD(T:String)(d:D):Option Bool:=if Yu4 d=true then some (Yf9 d==T||(T=="int"&&Yf9 d=="bool"))else none
theorem Yu5{G H:Hp}{d:D}{v:V}(hn:Yu4 d=true)(r:Ct K G H d v):TyOf K H v (.type (Yf9 d)):=by
 cases d<;>rw[Ct]at r
 ·subst r;exact .non
 ·subst r;exact .bl _
 ·subst r;exact .int _
 ·obtain⟨rfl,_⟩:=r;exact .str _
 ·obtain⟨a,xs,rfl,g,_⟩:=r;exact .tup g.1
 ·obtain⟨a,xs,rfl,g,_⟩:=r
  rcases g with g | ⟨o,g⟩
  ·exact .lst g
  ·exact .frz g
 ·cases hn
 ·rename_i t _ _
  cases t with
  | true=>cases hn
  | false=>
    obtain⟨a,_,_,rfl,g,_⟩:=r
    rcases g with⟨_,_,g,_⟩ | ⟨g,_⟩
    ·exact .dK g
    ·cases g
 ·cases hn
 ·cases hn
def Kit(T:String):Prop:=∀(K:W.Frag) (d:D),W.kitOne K (.type (Yf9 d)) (.type T)=some (Yf9 d==T||(T=="int"&&Yf9 d=="bool"))
theorem Yu6:Kit "str":=fun K d=>by cases d<;>rfl
theorem Ysd{T:String}(hk:Kit T):Yb9 X (.builtin "isinstance") (fun xs H Q=>∃x d G,xs=[x,.ty T]/\Yu4 d=true/\Ct X.K G H d x/\Q (.bl (Yf9 d==T||(T=="int"&&Yf9 d=="bool"))) H):=by
 intro pins s σ H xs us Q I r h
 obtain⟨x,d,G,rfl,hn,rx,q⟩:=h
 obtain⟨u,w',rfl,r1,r2⟩:=Yn0 r
 cases (show w'=Value.type T from r2)
 exact Yo4 I r1 (Yu5 hn rx) (hk X.K d) fun tk=>⟨.bl _,H,I.tok tk,rfl,q⟩
theorem Yyg{T:String}{tn:Str}{p p2:Pos}(ha:MC X a fa)(hg:Gl X "isinstance")(hg2:Gl X tn)(hm:X.mg "isinstance"=none)(hm2:X.mg tn=none)(hv2:bootBuiltins tn=some (.type T))(hk:Kit T)(hv:bootBuiltins "isinstance"=some (.builtin "isinstance"):=by decide +kernel)
 (hn2:tn≠"__name__":=by decide) (hd2:(tn==("__debug__":Str))=false:=by decide)
 (hs:starEach [a,.Name tn p2] X.env=(false,eval a X.env)::starEach [.Name tn p2] X.env:=by rfl) (hs2:starEach [.Name tn p2] X.env=(false,eval (.Name tn p2) X.env)::starEach [] X.env:=by rfl) (hpl:(backTo pos (starEach [.Name tn p2] X.env)).any (·.1)=false:=by rfl) :
 ME X (.Call (.Name "isinstance" p) [a,.Name tn p2] [] pos) (mB (b1 fa (isiD T))):=
 PE.imp (Yeh (Ysd hk) hg hm hv (Ybd ha (Ybd (You hg2 hm2 hv2 (v:=.ty T) rfl hn2 hd2) Ydq hs2) hs) (by decide) (by decide) hs hpl) fun σ H Q hx_=>by
  obtain⟨ρ,d,H0,G0,G,e,s,h⟩:=hx_
  obtain⟨k,ek,rfl⟩:=Ylz e
  obtain⟨x,h1,h2⟩:=Yca ek
  unfold isiD at h2
  split at h2
  ·cases h2
   exact tCof.at h1 s fun v H1 G1 g1 r1 s1=>⟨v,x,G1,rfl,by assumption,r1,h _ H1 G1 g1 (by rw[Rp])⟩
  ·cases h2
end
end
section
variable {K:W.Frag}
def insI(a:Int):List Int->List Int
 | []=>[a]
 | b::l=>if a<=b then a::b::l else b::insI a l
def Yda:List Int->List Int
 | []=>[]
 | a::l=>insI a (Yda l)
theorem Yhb(a:Int):∀l:List Int,(insI a l).Perm (a::l)
 | []=>.refl _
 | b::l=>by
   rw[insI]
   split
   ·exact .refl _
   ·exact((Yhb a l).cons b).trans (.swap a b l)
theorem Ya4:∀l:List Int,(Yda l).Perm l
 | []=>.refl _
 | a::l=>(Yhb a _).trans ((Ya4 l).cons a)
theorem Yhc(a:Int):∀l:List Int,l.Pairwise (·<=·)->(insI a l).Pairwise (·<=·)
 | [],_=>by simp[insI]
 | b::l,h=>by
   rw[insI]
   split
   ·rename_i hab
    refine List.pairwise_cons.mpr ⟨fun x hx=>?_,h⟩
    rcases qr hx with rfl | hx
    ·exact hab
    ·exact Int.le_trans hab ((List.pairwise_cons.mp h).1 x hx)
   ·rename_i hab
    refine List.pairwise_cons.mpr ⟨fun x hx=>?_,Yhc a l (List.pairwise_cons.mp h).2⟩
    rcases qr ((Yhb a l).mem_iff.mp hx)with rfl | hx
    ·lia
    ·exact(List.pairwise_cons.mp h).1 x hx
theorem Ya0:∀l:List Int,(Yda l).Pairwise (·<=·)
 | []=>.nil
 | a::l=>Yhc a _ (Ya0 l)
section
variable {prog:Program} {w:World} {A:Around} {E:Value->Shared->Prop} {s:Shared}
theorem Yn9{l:Addr}{vs:List Value}{Q:Value->Shared->Prop}(hl:s.heap.IsList l vs.toArray)(h2:vs.length < 2)
 (h:Q (.ref (s.heap.objs.size+1)) { s with heap:=sortedAll s.heap vs vs.toArray }):wpAny (model prog w) A (call (.builtin "sorted") [.ref l]) Q E s:=by
 refine Calls.call_function_entry kind_sorted plain_sorted entry_sorted (args_sorted1 _) ?_
 unfold Builtin.«sorted»
 refine wpAny_bind (m:=checkCount "sorted" 1 1 _) (wpAny_pure ?_)
 refine wpAny_bind (collect_list hl ?_ (by rw[sizeLine_eq];lia))
 refine wpAny_bind (wpAny_newList ?_ (by rw[sizeLine_eq];lia))
 have hsz:((s.heap.push (seqObj "list" #[] 0)).update s.heap.objs.size (Obj.mapSeq (·++vs.toArray))).objs.size=s.heap.objs.size+1:=by
  rw[Heap.size_update,size_push']
 have hoL:(((s.heap.push (seqObj "list" #[] 0)).update s.heap.objs.size (Obj.mapSeq (·++vs.toArray))).push (seqObj "list" vs.toArray 0)).get? (s.heap.objs.size+1)=some (seqObj "list" vs.toArray 0):=by
  rw[<-hsz];exact qo _ rfl
 show wpAny _ _ _ _ _ { s with heap:=((s.heap.push (seqObj "list" #[] 0)).update s.heap.objs.size (Obj.mapSeq (·++vs.toArray))).push (seqObj "list" vs.toArray 0) }
 rw[hsz]
 refine wpAny_bind (wpAny_holding (wpAny_call_entry slot_list_sort ⟨_,hoL,rfl⟩ entry_list_sort ?body (args_list_sort _)))
 case body=>
  rw[list_sort_plain]
  generalize hS:({ s with heap:=((s.heap.push (seqObj "list" #[] 0)).update s.heap.objs.size (Obj.mapSeq (·++vs.toArray))).push (seqObj "list" vs.toArray 0) }:Shared)=S at *
  have hoS:S.heap.get? (s.heap.objs.size+1)=some (seqObj "list" vs.toArray 0):=by rw[<-hS];exact hoL
  have ha:s.heap.objs.size+1 < S.heap.objs.size:=qk hoS
  refine wpAny_bind (listItems_at hoS rfl ?_)
  refine wpAny_bind (listUpdate_at hoS rfl ?_ (by rw[qj,sizeLine_eq];lia) (Nat.zero_le _))
  obtain⟨e1,ho1⟩:∃e1,(S.heap.update (s.heap.objs.size+1) (Obj.mapSeq fun _=>#[])).get? (s.heap.objs.size+1)=some (seqObj "list" #[] e1):=⟨_,get?_update_seq hoS (fun _=>#[])⟩
  refine wpAny_bind (seqEpoch_at ho1 rfl ?_)
  refine wpAny_bind (wpAny_newTuple ?_ (by show vs.length<=_;rw[sizeLine_eq];lia))
  refine wpAny_bind (wpAny_newList ?_ (Nat.zero_le _))
  refine wpAny_holding ?_
  have ho6:(((S.heap.update (s.heap.objs.size+1) (Obj.mapSeq fun _=>#[])).push (seqObj "tuple" vs.toArray 0)).push (seqObj "list" #[] 0)).get? (s.heap.objs.size+1)=some (seqObj "list" #[] e1):=by
   rw[Heap.get?_push_ne _ _ _ (by rw[size_push',Heap.size_update];exact ql (qu ha)),Heap.get?_push_ne _ _ _ (by rw[Heap.size_update];exact ql ha)]
   exact ho1
  show wpAny (model prog w) _ _ _ _ { S with heap:=((S.heap.update (s.heap.objs.size+1) (Obj.mapSeq fun _=>#[])).push (seqObj "tuple" vs.toArray 0)).push (seqObj "list" #[] 0) }
  dsimp only
  have hlt:vs.toArray.size < 2:=by rw[qj];exact h2
  rw[if_pos hlt,if_pos hlt]
  refine wpAny_bind (wpAny_pure ?_)
  rw[StateT.run_pure]
  refine wpAny_bind (wpAny_pure ?_)
  dsimp only
  refine wpAny_bind (seqEpoch_at ho6 rfl ?_)
  refine wpAny_bind (listUpdate_at ho6 rfl ?_ (hsz2:=by rw[Array.size_map];show(pairsOf vs).size<=_;rw[pairsOf_size,sizeLine_eq];lia))
  simp only[bne_self_eq_false,Bool.false_eq_true,if_false]
  have hout:(arrOf (SortSt.mk' general' (vs.toArray.zip vs.toArray) #[] 7 none)).map (·.2)=vs.toArray:=by
   show(vs.toArray.zip vs.toArray).map (·.2)=vs.toArray
   apply Array.toList_inj.mp
   simp[List.map_snd_zip]
  refine wpAny_pure ⟨_,rfl,wpAny_pure ⟨_,rfl,?_⟩⟩
  have hh:=h
  unfold sortedAll sortedHeap at hh
  rw[<-hS,hout]
  exact hh
def plt(j:Int)(q:Bool)(i:Int)(p:Bool):Bool:=if j=i then (!q&&p)else decide (j < i)
theorem Yu7{b c:Addr}{i j:Int}{p q:Bool}{t u:Tok}{R:Bool->Shared->Prop}(hb:IsTup s.heap b #[.int i t,.bool p])(hc:IsTup s.heap c #[.int j u,.bool q])(h:R (plt j q i p) s) :
 wpAny (model prog w) A (keyLt' (tuples' true) (.ref c) (.ref b)) R E s:=by
 obtain⟨ob,h1,_,n1,d1⟩:=hb
 obtain⟨oc,h2,_,n2,d2⟩:=hc
 refine W.kat_lt h2 d2 h1 d1 ?_
 show W.KatLex prog w A true false R [(.int j u,.int i t),(.bool q,.bool p)] 0 s
 unfold plt at h
 refine W.kat_cons (SeqAt.EqAt.int_int j u i t prog w _ _ (W.kat_go (fun e=>W.kat_yes (W.kat_cons (SeqAt.EqAt.bool_bool q p prog w _ _ (W.kat_go (fun e2=>W.kat_yes (W.kat_nil ?_)) fun e2=>W.kat_no (W.kat_one _ _ (lt_bool ?_)))))) fun e=>W.kat_no ?_))
 ·have e':j=i:=by simpa using e
  have e2':q=p:=by simpa using e2
  rw[if_pos e',e2']at h
  cases p<;>exact h
 ·have e':j=i:=by simpa using e
  rw[if_pos e']at h
  show R _ s
  cases p<;>cases q<;>first | exact h | simp at e2
 ·have e':¬j=i:=by simpa using e
  rw[if_neg e']at h
  exact oneLt_int h
theorem Yoa{cmp:Nat->Nat->(Bool->Shared->Prop)->Shared->Prop}{G:Array Nat->Shared->Prop}{S:Shared}(h:cmp 1 0 (fun k s'=>if k=true then G #[1,0] s' else G #[0,1] s') S):(W.kas_sort 2).kasWp cmp G S:=by
 show cmp 1 0 (fun k s'=>W.KasT.kasWp cmp _ G s') S
 have e:∀(k:Bool) (s':Shared),(if k=true then G #[1,0] s' else G #[0,1] s')=W.KasT.kasWp cmp (W.KasT.bind (W.KasT.bind (if k=true then W.KasT.ret 1 else W.kas_asc (List.toArray (List.range 2)) 0 2)
  fun n=>if (n==2)=true then W.KasT.ret (n,List.toArray (List.range 2))else if n > 1 then .ask ((List.toArray (List.range 2)).getD 0 0) ((List.toArray (List.range 2)).getD (n - 1) 0) fun c=>if c=true then .ret (n,List.toArray (List.range 2))else W.kas_descPart n 2 (W.kas_rev (List.toArray (List.range 2)) 0 n)
   else W.kas_descPart n 2 (List.toArray (List.range 2))) fun r=>if r.1 < 2 then W.kas_bin (2 - max r.1 1) r.2 (max r.1 1)else .ret r.2) G s':=fun k s'=>by cases k<;>rfl
 have e2:(fun(k:Bool) (s':Shared)=>if k=true then G #[1,0] s' else G #[0,1] s')=_:=funext fun k=>funext fun s'=>e k s'
 rw[e2]at h
 exact h
theorem Yob{l b c:Addr}{i j:Int}{p q:Bool}{t u:Tok}{Q:Value->Shared->Prop}(hl:s.heap.IsList l #[.ref b,.ref c])(hb:IsTup s.heap b #[.int i t,.bool p])(hc:IsTup s.heap c #[.int j u,.bool q])
 (h:Q (.ref (s.heap.objs.size+1)) { s with heap:=sortedAll s.heap [.ref b,.ref c] (if plt j q i p=true then #[.ref c,.ref b]else #[.ref b,.ref c]) }):wpAny (model prog w) A (call (.builtin "sorted") [.ref l]) Q E s:=by
 generalize hvs:[Value.ref b,Value.ref c]=vs at *
 have hl':s.heap.IsList l vs.toArray:=hl
 have hlen:vs.length=2:=by rw[<-hvs];rfl
 refine Calls.call_function_entry kind_sorted plain_sorted entry_sorted (args_sorted1 _) ?_
 unfold Builtin.«sorted»
 refine wpAny_bind (m:=checkCount "sorted" 1 1 _) (wpAny_pure ?_)
 refine wpAny_bind (collect_list hl' ?_ (by rw[sizeLine_eq];lia))
 refine wpAny_bind (wpAny_newList ?_ (by rw[sizeLine_eq];lia))
 have hsz:((s.heap.push (seqObj "list" #[] 0)).update s.heap.objs.size (Obj.mapSeq (·++vs.toArray))).objs.size=s.heap.objs.size+1:=by
  rw[Heap.size_update,size_push']
 have hoL:(((s.heap.push (seqObj "list" #[] 0)).update s.heap.objs.size (Obj.mapSeq (·++vs.toArray))).push (seqObj "list" vs.toArray 0)).get? (s.heap.objs.size+1)=some (seqObj "list" vs.toArray 0):=by
  rw[<-hsz];exact qo _ rfl
 have keep0:∀b o,s.heap.get? b=some o->(((s.heap.push (seqObj "list" #[] 0)).update s.heap.objs.size (Obj.mapSeq (·++vs.toArray))).push (seqObj "list" vs.toArray 0)).get? b=some o:=fun b o q=>by
  have hlt:b < s.heap.objs.size:=qk q
  rw[Heap.get?_push_ne _ _ _ (by rw[hsz];exact ql (qu hlt)),Heap.get?_update_ne _ _ _ _ (ql hlt),Heap.get?_push_ne _ _ _ (ql hlt)]
  exact q
 show wpAny _ _ _ _ _ { s with heap:=((s.heap.push (seqObj "list" #[] 0)).update s.heap.objs.size (Obj.mapSeq (·++vs.toArray))).push (seqObj "list" vs.toArray 0) }
 rw[hsz]
 refine wpAny_bind (wpAny_holding (wpAny_call_entry slot_list_sort ⟨_,hoL,rfl⟩ entry_list_sort ?body (args_list_sort _)))
 case body=>
  rw[list_sort_plain]
  generalize hS:({ s with heap:=((s.heap.push (seqObj "list" #[] 0)).update s.heap.objs.size (Obj.mapSeq (·++vs.toArray))).push (seqObj "list" vs.toArray 0) }:Shared)=S at *
  have hoS:S.heap.get? (s.heap.objs.size+1)=some (seqObj "list" vs.toArray 0):=by rw[<-hS];exact hoL
  have keepS:∀b o,s.heap.get? b=some o->S.heap.get? b=some o:=by rw[<-hS];exact keep0
  have ha:s.heap.objs.size+1 < S.heap.objs.size:=qk hoS
  refine wpAny_bind (listItems_at hoS rfl ?_)
  refine wpAny_bind (listUpdate_at hoS rfl ?_ (by rw[qj,sizeLine_eq];lia) (Nat.zero_le _))
  obtain⟨e1,ho1⟩:∃e1,(S.heap.update (s.heap.objs.size+1) (Obj.mapSeq fun _=>#[])).get? (s.heap.objs.size+1)=some (seqObj "list" #[] e1):=⟨_,get?_update_seq hoS (fun _=>#[])⟩
  refine wpAny_bind (seqEpoch_at ho1 rfl ?_)
  refine wpAny_bind (wpAny_newTuple ?_ (by show vs.length<=_;rw[sizeLine_eq];lia))
  refine wpAny_bind (wpAny_newList ?_ (Nat.zero_le _))
  refine wpAny_holding ?_
  have ho6:(((S.heap.update (s.heap.objs.size+1) (Obj.mapSeq fun _=>#[])).push (seqObj "tuple" vs.toArray 0)).push (seqObj "list" #[] 0)).get? (s.heap.objs.size+1)=some (seqObj "list" #[] e1):=by
   rw[Heap.get?_push_ne _ _ _ (by rw[size_push',Heap.size_update];exact ql (qu ha)),Heap.get?_push_ne _ _ _ (by rw[Heap.size_update];exact ql ha)]
   exact ho1
  have keep6:∀b o,s.heap.get? b=some o->(((S.heap.update (s.heap.objs.size+1) (Obj.mapSeq fun _=>#[])).push (seqObj "tuple" vs.toArray 0)).push (seqObj "list" #[] 0)).get? b=some o:=fun b o q=>by
   have hlt:b < s.heap.objs.size:=qk q
   refine qd _ (qd _ ?_)
   rw[Heap.get?_update_ne _ _ _ _ (ql (qu hlt))]
   exact keepS b o q
  generalize hS6:({ S with heap:=((S.heap.update (s.heap.objs.size+1) (Obj.mapSeq fun _=>#[])).push (seqObj "tuple" vs.toArray 0)).push (seqObj "list" #[] 0) }:Shared)=S6
  have ho7:S6.heap.get? (s.heap.objs.size+1)=some (seqObj "list" #[] e1):=by rw[<-hS6];exact ho6
  have tb:IsTup S6.heap b #[.int i t,.bool p]:=by
   obtain⟨o,a1,a2⟩:=hb
   exact⟨o,by rw[<-hS6];exact keep6 b o a1,a2⟩
  have tc:IsTup S6.heap c #[.int j u,.bool q]:=by
   obtain⟨o,a1,a2⟩:=hc
   exact⟨o,by rw[<-hS6];exact keep6 c o a1,a2⟩
  dsimp only
  have hn2:¬vs.toArray.size < 2:=by rw[qj];lia
  rw[if_neg hn2,if_neg hn2]
  have kt:W.KatTups S6.heap vs [.int i t,.int j u]:=by
   obtain⟨ob,b1,b2,n1,b3⟩:=tb
   obtain⟨oc,c1,c2,n2,c3⟩:=tc
   rw[<-hvs]
   exact .cons b1 b2 b3 rfl (.cons c1 c2 c3 rfl .nil)
  refine wpAny_bind (W.kat_kind (T:=.type "int") kt (qu (qx 0)) (fun v hv=>?_) (by decide) ?_)
  ·rcases qr hv with rfl | hv
   ·exact .of_pure rfl
   ·rcases qr hv with rfl | hv
    ·exact .of_pure rfl
    ·cases hv
  have hcmp:wpAny (model prog w) A.in1.in1 (keyLt' (tuples' true) (vs.getD 1 Value.none) (vs.getD 0 Value.none)) (fun k s'=>k=plt j q i p/\s'=S6) (fun _ _=>False) S6:=by
   rw[<-hvs]
   exact Yu7 tb tc ⟨rfl,rfl⟩
  refine wpAny_bind (wpAny_mono (W.kat_run (ks:=vs) (vs:=vs) (κ:=tuples' true) (G:=fun pm s'=>s'=S6/\pm=if plt j q i p=true then #[1,0]else #[0,1])
   (Q:=fun st' s'=>s'=S6/\failedOf st'=none/\(arrOf st').map (·.2)=if plt j q i p=true then #[.ref c,.ref b]else #[.ref b,.ref c]) rfl (by lia) (by lia) (fun pm st' s' a1 a2 a3 a4=>?_) ?_) ?_ fun _ _ e=>e)
  ·obtain⟨rfl,rfl⟩:=a4
   refine⟨rfl,a3,?_⟩
   rw[W.kat_snds rfl a2,<-hvs]
   cases plt j q i p<;>rfl
  ·rw[hlen]
   refine Yoa ?_
   refine wpAny_mono hcmp (fun k s' hk=>?_) fun _ _ x=>x
   obtain⟨rfl,rfl⟩:=hk
   cases plt j q i p
   ·exact⟨rfl,rfl⟩
   ·exact⟨rfl,rfl⟩
  rintro⟨⟨⟩,st'⟩ s' ⟨rfl,hf,hout⟩
  dsimp only
  refine wpAny_bind (seqEpoch_at ho7 rfl ?_)
  refine wpAny_bind (listUpdate_at ho7 rfl ?_ (Nat.zero_le _) (by rw[hout,sizeLine_eq];cases plt j q i p<;>exact(by decide:2<=16777216+1)))
  rw[hf]
  simp only[bne_self_eq_false,Bool.false_eq_true,if_false]
  refine wpAny_pure ⟨_,rfl,wpAny_pure ⟨_,rfl,?_⟩⟩
  have hh:=h
  unfold sortedAll sortedHeap at hh
  rw[<-hS6,<-hS,hout]
  subst hvs
  exact hh
end
def Ydk:List D->Option (List Int)
 | []=>some []
 | .int i::l=>(Ydk l).map (i::·)
 | _=>none
def prI:D->Option (Int × Bool)
 | .tup [.int j,.bl q]=>some (j,q)
 | _=>none
def Ytn(e d:D):Option Bool:=(prI e).bind fun x=>(prI d).map fun y=>plt x.1 x.2 y.1 y.2
theorem Yfx{α:Type}{x:α}{P:Prop}(h:none=some x):P:=by cases h
theorem Ym8{d:D}{x:Int × Bool}(h:prI d=some x):d=.tup [.int x.1,.bl x.2]:=by
 cases d with
 | tup l=>cases l with
   | nil=>exact Yfx h
   | cons a l=>cases a with
     | int j=>cases l with
       | nil=>exact Yfx h
       | cons b l=>cases b with
         | bl q=>cases l with
           | nil=>exact Option.some.inj h ▸ rfl
           | cons _ _=>exact Yfx h
         | _=>exact Yfx h
     | _=>exact Yfx h
 | _=>exact Yfx h
def Yse(l:List D):Option (List D):=match Ydk l with
 | some ns=>if ns.length < 64 then some ((Yda ns).map D.int)else none
 | none=>match l with
   | [d]=>some [d]
   | [d,e]=>(Ytn e d).map fun k=>if k=true then [e,d]else [d,e]
   | _=>none
def Ykv:List D->Option (List D)
 | [.lst l]=>Yse l
 | _=>none
theorem Yek:∀{l:List D} {ns:List Int},Ydk l=some ns->l=ns.map D.int
 | [],ns,h=>by cases h;rfl
 | .int i::l,ns,h=>by
   rw[Ydk]at h
   obtain⟨m,h1,rfl⟩:=qb h
   rw[Yek h1]
   rfl
 | .non::l,ns,h=>by simp[Ydk]at h
 | .bl _::l,ns,h=>by simp[Ydk]at h
 | .str _::l,ns,h=>by simp[Ydk]at h
 | .tup _::l,ns,h=>by simp[Ydk]at h
 | .lst _::l,ns,h=>by simp[Ydk]at h
 | .scr _::l,ns,h=>by simp[Ydk]at h
 | .dct _ _ _::l,ns,h=>by simp[Ydk]at h
 | .obj _ _ _::l,ns,h=>by simp[Ydk]at h
 | .adr _::l,ns,h=>by simp[Ydk]at h
theorem Ygl{G:Hp}:∀{ns:List Int} {xs:List V},RpL K G (ns.map D.int) xs->xs=ns.map V.int
 | [],xs,h=>by rw[List.map_nil,RpL]at h;exact h
 | n::ns,xs,h=>by
   rw[qz,RpL]at h
   obtain⟨x,r,rfl,h1,h2⟩:=h
   rw[Rp]at h1
   rw[h1,Ygl h2]
   rfl
def Ypw(H:Hp)(x:V)(i:Int)(p:Bool):Prop:=∃a,x=.ref a/\H a=some (.tup [.int i,.bl p])
def Yyh:List V->Hp->VK->Prop:=fun vs H Q=>∃a xs,vs=[.ref a]/\Rd H a (.lst xs)/\
 ((∃ns:List Int,xs=ns.map V.int/\ns.length < 64/\∀p,H p=none->Q (.ref p) (upd H p (.lst ((Yda ns).map V.int))))\/
  (xs.length < 2/\∀p,H p=none->Q (.ref p) (upd H p (.lst xs)))\/
  (∃x y i p j q,xs=[x,y]/\Ypw H x i p/\Ypw H y j q/\∀r,H r=none->Q (.ref r) (upd H r (.lst (if plt j q i p=true then [y,x]else [x,y])))))
theorem Ydw{X:Cx}:Yb9 X (.builtin "sorted") Yyh:=by
 intro pins s σ H xs us Q I r h
 obtain⟨a,ys,rfl,hr,h⟩:=h
 obtain⟨u,rfl,ru⟩:=Yfu r
 cases ru
 obtain⟨its,rv,pl,hz⟩:=I.list (.inl hr)
 have fin:∀(out:Array Value) (zs:List V),Vals zs out.toList->zs.length<=sizeLine->Q (.ref (s.heap.objs.size+1)) (upd H (s.heap.objs.size+1) (.lst zs))->EP X pins σ Q (.ref (s.heap.objs.size+1)) { s with heap:=sortedAll s.heap its out }:=fun out zs hv hz' hq=>by
  obtain⟨e,he⟩:=sortedAll_at s.heap its out
  exact⟨.ref (s.heap.objs.size+1),_,I.laid (t':=s.toks) (fun b o q=>sortedAll_old q) (Nat.le_succ _) (show ObjOk X.prog X.w _ _ _ (.lst zs) from⟨hz',out.toList,e,hv,by rw[Array.toArray_toList];exact he⟩),rfl,hq⟩
 have fr:H (s.heap.objs.size+1)=none:=I.hok.fresh (Nat.le_succ _)
 have hl:=rv.length
 rcases h with⟨ns,rfl,h64,q⟩ | ⟨h2,q⟩ | ⟨x,y,i,p,j,k,rfl,px,py,q⟩
 ·have hI:=Yei rv
  refine sorted_ints pl.isList hI (by rw[hI.length];exact h64) fun out ns' h1 h2 h3=>?_
  have e:ns'=Yda ns:=W.ksm_same (h2.trans (Ya4 ns).symm) h3 (Ya0 ns)
  subst e
  have hn:(Yda ns).length=ns.length:=(Ya4 ns).length_eq
  exact fin out _ (Yfb h1) (by rw[qe,hn,sizeLine_eq];lia) (q _ fr)
 ·refine Yn9 pl.isList (by lia) ?_
  exact fin its.toArray ys (by simpa using rv) hz (q _ fr)
 ·obtain⟨b,rfl,hb⟩:=px
  obtain⟨c,rfl,hc⟩:=py
  obtain⟨u1,u2,rfl,r1,r2⟩:=Yn0 rv
  cases r1
  cases r2
  obtain⟨_,ib,vb,tb⟩:=(show ObjOk X.prog X.w H s.heap b (.tup [.int i,.bl p]) from I.hok b _ hb)
  obtain⟨_,ic,vc,tc⟩:=(show ObjOk X.prog X.w H s.heap c (.tup [.int j,.bl k]) from I.hok c _ hc)
  obtain⟨w1,w2,rfl,⟨t,rfl⟩,w2e⟩:=Yn0 vb
  cases w2e
  obtain⟨w3,w4,rfl,⟨t',rfl⟩,w4e⟩:=Yn0 vc
  cases w4e
  refine Yob (by simpa using pl.isList) (by simpa using tb) (by simpa using tc) ?_
  refine fin _ (if plt j k i p=true then [.ref c,.ref b]else [.ref b,.ref c]) ?_ (by rw[sizeLine_eq];cases plt j k i p<;>exact(by decide:2<=16777216)) (q _ fr)
  cases plt j k i p
  ·exact .cons rfl (.cons rfl .nil)
  ·exact .cons rfl (.cons rfl .nil)
theorem Ykw{G H:Hp}{d:D}{v:V}{i:Int}{p:Bool}(s:Same G H)(e:d=.tup [.int i,.bl p])(r:Rp K G d v):Ypw H v i p:=by
 subst e
 rw[Rp]at r
 obtain⟨a,xs,rfl,g,rl⟩:=r
 rw[RpL]at rl
 obtain⟨x,r',rfl,h1,h2⟩:=rl
 obtain⟨y,rfl,h3⟩:=Yg9 h2
 rw[Rp]at h1
 rw[Rp]at h3
 subst h1;subst h3
 exact⟨a,rfl,s _ _ g⟩
theorem Yl2{e d:D}{k:Bool}(h:Ytn e d=some k):∃j q i p,e=.tup [.int j,.bl q]/\d=.tup [.int i,.bl p]/\k=plt j q i p:=by
 obtain⟨x,h1,h2⟩:=qa h
 obtain⟨y,h3,h4⟩:=qb h2
 exact⟨x.1,x.2,y.1,y.2,Ym8 h1,Ym8 h3,h4.symm⟩
theorem Ye6:SemF K Yyh Ykv:=by
 intro vs ds l H G Q h s r q
 unfold Ykv at h
 split at h
 ·rename_i m
  obtain⟨v,rfl,rv⟩:=Ydj r
  rw[Ct]at rv
  obtain⟨a,xs,rfl,g,rl⟩:=rv
  refine⟨a,xs,rfl,g,?_⟩
  unfold Yse at h
  split at h
  ·rename_i ns hns
   split at h
   ·rename_i h64
    cases h
    cases Yek hns
    refine .inl ⟨ns,Ygl rl,h64,fun p hp=>?_⟩
    exact q p _ _ G (.hid s hp _) hp (s.free hp) Yo (.ints _)
   ·cases h
  ·split at h
   ·cases h
    refine .inr (.inl ⟨by rw[rl.length];exact qx 1,fun p hp=>?_⟩)
    exact q p _ _ G (.hid s hp _) hp (s.free hp) Yo rl
   ·rename_i d e
    obtain⟨k,h1,rfl⟩:=qb h
    obtain⟨j,y,i,x,rfl,rfl,rfl⟩:=Yl2 h1
    rw[RpL]at rl
    obtain⟨v1,r1,rfl,p1,rl⟩:=rl
    obtain⟨v2,rfl,p2⟩:=Yg9 rl
    refine .inr (.inr ⟨v1,v2,i,x,j,y,rfl,Ykw s rfl p1,Ykw s rfl p2,fun p hp=>?_⟩)
    refine q p _ _ G (.hid s hp _) hp (s.free hp) Yo ?_
    cases plt j y i x
    ·exact .cons p1 (.one p2)
    ·exact .cons p2 (.one p1)
   ·cases h
 ·cases h
end
section
variable {K:W.Frag}
section
variable {X:Cx} {e:Expr} {f fb:Ro->Option D} {pos pos':Pos}
def blsD:List D->Option (List Bool)
 | []=>some []
 | .bl b::l=>(blsD l).map (b::·)
 | _=>none
theorem Ykx:∀{l:List D} {bs:List Bool},blsD l=some bs->l=bs.map D.bl
 | [],bs,h=>by cases h;rfl
 | .bl i::l,bs,h=>by
   rw[blsD]at h
   obtain⟨m,h1,rfl⟩:=qb h
   rw[Ykx h1]
   rfl
 | .non::l,ns,h=>by simp[blsD]at h
 | .int _::l,ns,h=>by simp[blsD]at h
 | .str _::l,ns,h=>by simp[blsD]at h
 | .tup _::l,ns,h=>by simp[blsD]at h
 | .lst _::l,ns,h=>by simp[blsD]at h
 | .scr _::l,ns,h=>by simp[blsD]at h
 | .dct _ _ _::l,ns,h=>by simp[blsD]at h
 | .obj _ _ _::l,ns,h=>by simp[blsD]at h
 | .adr _::l,ns,h=>by simp[blsD]at h
theorem Ypx{G:Hp}:∀{bs:List Bool} {xs:List V},RpL K G (bs.map D.bl) xs->xs=bs.map V.bl
 | [],xs,h=>by rw[List.map_nil,RpL]at h;exact h
 | n::ns,xs,h=>by
   rw[qz,RpL]at h
   obtain⟨x,r,rfl,h1,h2⟩:=h
   rw[Rp]at h1
   rw[h1,Ypx h2]
   rfl
theorem Ygm:∀{bs:List Bool} {us:List Value},Vals (bs.map V.bl) us->us=bs.map Value.bool
 | [],us,h=>by cases h;rfl
 | b::bs,us,h=>by
   cases h with
   | cons r t=>
     cases (show _=Value.bool b from r)
     rw[Ygm t]
     rfl
theorem Yky(bs:List Bool):((List.range bs.length).any fun i=>bs.getD i false)=bs.any id:=by
 induction bs with
 | nil=>rfl
 | cons b bs ih=>
   rw[qq,List.range_succ_eq_map,List.any_cons,List.any_map,List.any_cons]
   have:(List.range bs.length).any ((fun i=>(b::bs).getD i false) ∘ Nat.succ)=(List.range bs.length).any fun i=>bs.getD i false:=by
    congr 1
   rw[this,ih]
   rfl
theorem Ypy(bs:List Bool):((List.range bs.length).all fun i=>bs.getD i false)=bs.all id:=by
 induction bs with
 | nil=>rfl
 | cons b bs ih=>
   rw[qq,List.range_succ_eq_map,List.all_cons,List.all_map,List.all_cons]
   have:(List.range bs.length).all ((fun i=>(b::bs).getD i false) ∘ Nat.succ)=(List.range bs.length).all fun i=>bs.getD i false:=by
    congr 1
   rw[this,ih]
   rfl
def rBls(g:List Bool->V):List V->Hp->VK->Prop:=fun vs H Q=>∃(a:Addr) (bs:List Bool),vs=[.ref a]/\Rd H a (.lst (bs.map V.bl))/\Q (g bs) H
theorem Yhd(A:Around)(prog:Program)(w:World)(bs:List Bool):TruthOf prog w A (fun i v=>((bs.map Value.bool).toArray)[i]?=some v) (fun i=>bs.getD i false):=fun i v s Q E hP hQ=>by
 have hP':(bs.map Value.bool)[i]?=some v:=by simpa using hP
 rw[Qc]at hP'
 obtain⟨b,h1,rfl⟩:=qb hP'
 refine wpAny_truthy_bool ?_
 have:bs.getD i false=b:=by simp[h1]
 rw[<-this]
 exact hQ
theorem Ykz{pins:List (Addr × Obj)}{s:Shared}{σ:L2.St}{H:Hp}{a:Addr}{its:List Value}{A:Around}{E:Value->Shared->Prop}{Q:Value->Shared->Prop}(hh:A.handled=none)(hl:s.heap.IsList a its.toArray)
 (h:∀s₂,s₂={ s with heap:=s.heap.push { cls:=.type "list_iterator",data:=.fields #[.ref a,.int 0 0] } }->Walks X.prog X.w A s.heap.objs.size [s.heap.objs.size,a] [s.heap.objs.size] its.toArray.size (fun i v=>its.toArray[i]?=some v) (fun i h=>h.IsListIter s.heap.objs.size a i/\h.IsList a its.toArray)->
  (s₂.heap.IsListIter s.heap.objs.size a 0/\s₂.heap.IsList a its.toArray)->Q (.ref s.heap.objs.size) s₂):wpAny (model X.prog X.w) A (pyIter (.ref a)) Q E s:=by
 have hne:a≠s.heap.objs.size:=by
  obtain⟨o,ho,_⟩:=hl
  exact ql (qk ho)
 refine wpAny_pyIter_list hl (h _ rfl (Walks.list hh _ a hne _) ⟨⟨_,qo _ rfl,rfl,rfl⟩,?_⟩)
 obtain⟨o,ho,r⟩:=hl
 exact⟨o,qd _ ho,r⟩
theorem Ydx{pins:List (Addr × Obj)}{s:Shared}{σ:L2.St}{H:Hp}{h':Heap}{tk:Nat}{o:Obj}(I:Inv X pins σ H s)(k:∀b u,b∉[s.heap.objs.size]->(s.heap.push o).get? b=some u->h'.get? b=some u):Inv X pins σ H { s with heap:=h',toks:=tk }:=
 I.kept fun b u q=>k b u (by
  intro z
  have e:b=s.heap.objs.size:=by simpa using z
  exact absurd (qk q) (by rw[e];exact Nat.lt_irrefl _)) (qd _ q)
theorem Yfi(hc:X.calm=true):Yb9 X (.builtin "any") (rBls fun bs=>.bl (bs.any id)):=by
 intro pins s σ H xs us Q I r h
 obtain⟨a,bs,rfl,hr,q⟩:=h
 obtain⟨u,rfl,ru⟩:=Yfu r
 cases ru
 obtain⟨its,rv,pl,hz⟩:=I.list (.inl hr)
 cases Ygm rv
 refine call_any_walk (Ykz (X:=X) (pins:=pins) (σ:=σ) (H:=H) (show X.A.in1.handled=none from I.ok.hd hc) pl.isList fun s₂ e W st=>?_)
 subst e
 refine⟨_,_,_,_,_,_,fun i=>bs.getD i false,rfl,W,st,Yhd _ _ _ bs,fun h' tk k=>⟨.bl _,H,(show Inv X pins σ H { s with heap:=h',toks:=tk } from Ydx I k),?_,q⟩⟩
 show Value.bool _=Value.bool _
 rw[qj,qe,Yky]
theorem Yk0(hc:X.calm=true):Yb9 X (.builtin "all") (rBls fun bs=>.bl (bs.all id)):=by
 intro pins s σ H xs us Q I r h
 obtain⟨a,bs,rfl,hr,q⟩:=h
 obtain⟨u,rfl,ru⟩:=Yfu r
 cases ru
 obtain⟨its,rv,pl,hz⟩:=I.list (.inl hr)
 cases Ygm rv
 refine call_all_walk (Ykz (X:=X) (pins:=pins) (σ:=σ) (H:=H) (show X.A.in1.handled=none from I.ok.hd hc) pl.isList fun s₂ e W st=>?_)
 subst e
 refine⟨_,_,_,_,_,_,fun i=>bs.getD i false,rfl,W,st,Yhd _ _ _ bs,fun h' tk k=>⟨.bl _,H,(show Inv X pins σ H { s with heap:=h',toks:=tk } from Ydx I k),?_,q⟩⟩
 show Value.bool _=Value.bool _
 rw[qj,qe,Ypy]
def anyC:List D->Option D
 | [.lst l]=>(blsD l).map fun bs=>.bl (bs.any id)
 | _=>none
def allC:List D->Option D
 | [.lst l]=>(blsD l).map fun bs=>.bl (bs.all id)
 | _=>none
theorem Ypz{g:List Bool->V}{gd:List Bool->D}{m:List D->Option D}(hm:∀ds d,m ds=some d->∃l bs,ds=[.lst l]/\blsD l=some bs/\d=gd bs)(hg:∀G bs,Rp K G (gd bs) (g bs)):SemC K (rBls g) m:=by
 intro vs ds d H G Q h s r q
 obtain⟨l,bs,rfl,h1,rfl⟩:=hm ds d h
 obtain⟨v,rfl,rv⟩:=Ydj r
 rw[Ct]at rv
 obtain⟨a,xs,rfl,g',rl⟩:=rv
 cases Ykx h1
 cases Ypx rl
 exact⟨a,bs,rfl,g',q _ H G (.refl s) (hg G bs)⟩
theorem Ydy:SemC K (rBls fun bs=>.bl (bs.any id)) anyC:=Ypz (gd:=fun bs=>.bl (bs.any id)) (fun ds d h=>by
 unfold anyC at h
 split at h
 ·obtain⟨bs,h1,rfl⟩:=qb h
  exact⟨_,bs,rfl,h1,rfl⟩
 ·cases h) fun G bs=>by rw[Rp]
theorem Yp0:SemC K (rBls fun bs=>.bl (bs.all id)) allC:=Ypz (gd:=fun bs=>.bl (bs.all id)) (fun ds d h=>by
 unfold allC at h
 split at h
 ·obtain⟨bs,h1,rfl⟩:=qb h
  exact⟨_,bs,rfl,h1,rfl⟩
 ·cases h) fun G bs=>by rw[Rp]
end
end
section
variable {K:W.Frag}
section
variable {prog:Program} {w:World} {A:Around} {E:Value->Shared->Prop} {s:Shared}
theorem Yfy{it t:Addr}{i:Nat}{items:Array Value}{x:Value}{Q:Value->Shared->Prop}(hit:s.heap.IsTupleIter it t i)
 (ht:s.heap.IsTuple t items) (hx:items[i]?=some x)
 (hQ:∀h',h'.IsTupleIter it t (i+1)->Heap.SameBut it s.heap h'->Q x { s with heap:=h' }) :
 wpAny (model prog w) A (Builtin.SmallTypes.nextOf (.ref it)) Q E s:=by
 obtain⟨o,ho,hc,hd⟩:=id hit
 obtain⟨ol,hol,_,nl,hdl⟩:=ht
 unfold Builtin.SmallTypes.nextOf
 refine wpAny_bind (wpAny_callSpecial?_slot (name:=Str.ofString "__next__") hit.typeIs F.slot_tuple_iterator_next
  (wpAny_call_entry F.slot_tuple_iterator_next hit.typeIs F.entry_tuple_iterator_next ?_ (F.args_tuple_iterator_next_1 _)))
 show wpAny _ _ (field (.ref it) 0 >>= _) _ _ s
 refine wpAny_bind (wpAny_field ho hd (x:=.ref t) rfl ?_)
 show wpAny _ _ (if (Value.ref t==Value.none)=true then _ else _) _ _ s
 rw[if_neg (show ¬((Value.ref t==Value.none)=true) from qh)]
 show wpAny _ _ (field (.ref it) 1 >>= _) _ _ s
 refine wpAny_bind (wpAny_field ho hd (x:=.int i 0) rfl ?_)
 show wpAny _ _ (seqItems? (.ref t) >>= _) _ _ s
 refine wpAny_bind (wpAny_seqItems hol hdl ?_)
 simp only[Int.toNat_natCast,hx]
 refine wpAny_bind (wpAny_setField ho hd (by simp) (wpAny_pure ⟨x,rfl,wpAny_pure (hQ _ ?_ (Heap.SameBut.update ..))⟩))
 exact⟨_,Heap.get?_update_self _ ho (Obj.isFreed_of_fields (Obj.data_mapFields hd _)),(Obj.cls_mapFields ..).trans hc,by
  rw[Obj.data_mapFields hd];simp[rawInt]⟩
theorem Ygc{it l:Addr}{i:Nat}{items:Array Value}{Q:Value->Shared->Prop}(hh:A.handled=none)
 (hit:s.heap.IsTupleIter it l i) (hl:s.heap.IsTuple l items) (hx:items[i]?=none)
 (hE:∀h' e,Heap.ExtBut it s.heap h'->(∃o,h'.get? e=some o/\o.cls=.type "StopIteration")->E (.ref e) { s with heap:=h' }) :
 wpAny (model prog w) A (Builtin.SmallTypes.nextOf (.ref it)) Q E s:=by
 obtain⟨o,ho,hc,hd⟩:=id hit
 obtain⟨ol,hol,_,nl,hdl⟩:=hl
 unfold Builtin.SmallTypes.nextOf
 refine wpAny_bind (wpAny_callSpecial?_slot (name:=Str.ofString "__next__") hit.typeIs F.slot_tuple_iterator_next
  (wpAny_call_entry F.slot_tuple_iterator_next hit.typeIs F.entry_tuple_iterator_next ?_ (F.args_tuple_iterator_next_1 _)))
 show wpAny _ _ (field (.ref it) 0 >>= _) _ _ s
 refine wpAny_bind (wpAny_field ho hd (x:=.ref l) rfl ?_)
 show wpAny _ _ (if (Value.ref l==Value.none)=true then _ else _) _ _ s
 rw[if_neg (show ¬((Value.ref l==Value.none)=true) from qh)]
 show wpAny _ _ (field (.ref it) 1 >>= _) _ _ s
 refine wpAny_bind (wpAny_field ho hd (x:=.int i 0) rfl ?_)
 show wpAny _ _ (seqItems? (.ref l) >>= _) _ _ s
 refine wpAny_bind (wpAny_seqItems hol hdl ?_)
 simp only[Int.toNat_natCast,hx]
 refine wpAny_bind (wpAny_rule (wpAny_bind (wpAny_setField ho hd (by simp) ?_)))
 show wpAny _ _ (newExc (.type "StopIteration") [] >>= _) _ _ _
 refine wpAny_bind ?_
 simp only[newExc,newTuple]
 refine wpAny_bind (wpAny_newObj_type ?_ (by size_fits))
 refine wpAny_bind (m:=firstArgMember _ _) (wpAny_of_eq (a:=Value.none) (by first | rfl | (simp only[firstArgMember];rfl)) ?_)
 refine wpAny_newObj_type ?_ (by size_fits)
 simp only[raiseNew]
 refine wpAny_bind (wpAny_handled ?_)
 first | rw[show A.in1.handled=none from hh] | rw[hh]
 refine wpAny_bind (wpAny_pure (wpAny_throw ?_))
 exact hE _ _ (((Heap.SameBut.update ..).extBut.push _).push _) ⟨_,qo _ rfl,rfl⟩
theorem Yhe{e it l:Addr}{i:Nat}{items:Array Value}{x old:Value}{Q:Value->Shared->Prop}
 (he:IsEnum s.heap e it i old) (hit:s.heap.IsTupleIter it l i) (hl:s.heap.IsTuple l items) (hx:items[i]?=some x) (hne:e≠it)
 (hQ:∀h',IsEnumOut h' e it ((i:Int)+1) x s.heap.objs.size->h'.IsTupleIter it l (i+1)->
  h'.get? s.heap.objs.size=some { cls:=.type "tuple",data:=.seq #[.int i s.toks,x] }->h'.objs.size=s.heap.objs.size+1->
  (∀b o,b≠e->b≠it->s.heap.get? b=some o->h'.get? b=some o)->Q (.ref s.heap.objs.size) { s with heap:=h',toks:=s.toks+1 }) :
 wpAny (model prog w) A (Builtin.«enumerate.__next__» ⟨[.ref e],[]⟩) (fun fin s'=>∃v,fin=.done (.ret v)/\Q v s') E s:=by
 obtain⟨hp,g,d,tk,os⟩:=s
 show wpAny _ _ (field (.ref e) 2 >>= _) _ _ _
 refine wpAny_bind (wpAny_field he rfl (x:=.ref it) rfl ?_)
 refine wpAny_bind (Yfy hit hl hx fun h₁ hit₁ hs₁=>?_)
 replace hs₁:Heap.SameBut it hp h₁:=hs₁
 have he₁:IsEnum h₁ e it i old:=(hs₁.2 e hne).trans he
 show wpAny _ _ (field (.ref e) 3 >>= _) _ _ ⟨h₁,g,d,tk,os⟩
 refine wpAny_bind (wpAny_field he₁ rfl (x:=rawInt i) rfl ?_)
 show wpAny _ _ (field (.ref e) 4 >>= _) _ _ ⟨h₁,g,d,tk,os⟩
 refine wpAny_bind (wpAny_field he₁ rfl (x:=.none) rfl ?_)
 show wpAny _ _ (mkInt i >>= _) _ _ ⟨h₁,g,d,tk,os⟩
 refine wpAny_bind (wpAny_mkInt ?_)
 show wpAny _ _ (setField (.ref e) 3 (rawInt ((i:Int)+1)) >>= _) _ _ ⟨h₁,g,d,tk+1,os⟩
 refine wpAny_bind (wpAny_setField_rec he₁ (by simp) fun h₂ he₂ hs₂=>?_)
 replace hs₂:Heap.SameBut e h₁ h₂:=hs₂
 replace he₂:IsEnum h₂ e it ((i:Int)+1) old:=he₂
 show wpAny _ _ (setField (.ref e) 4 .none >>= _) _ _ ⟨h₂,g,d,tk+1,os⟩
 refine wpAny_bind (wpAny_setField_rec he₂ (by simp) fun h₃ he₃ hs₃=>?_)
 replace hs₃:Heap.SameBut e h₂ h₃:=hs₃
 replace he₃:IsEnum h₃ e it ((i:Int)+1) old:=he₃
 show wpAny _ _ (newTuple [.int i tk,x] >>= _) _ _ ⟨h₃,g,d,tk+1,os⟩
 refine wpAny_bind (wpAny_newTuple ?_)
 have he₄:IsEnum (h₃.push { cls:=.type "tuple",data:=.seq #[.int i tk,x] }) e it ((i:Int)+1) old:=qd _ he₃
 generalize hh₄:h₃.push { cls:=.type "tuple",data:=.seq #[.int i tk,x] }=h₄ at he₄
 have hsz:h₃.objs.size=hp.objs.size:=by rw[hs₃.1,hs₂.1,hs₁.1]
 have hel:e < hp.objs.size:=qk he
 have ht₄:h₄.get? hp.objs.size=some { cls:=.type "tuple",data:=.seq #[.int i tk,x] }:=by rw[<-hh₄,<-hsz];exact qo _ rfl
 have hz₄:h₄.objs.size=hp.objs.size+1:=by rw[<-hh₄,Heap.size_push,hsz]
 have hk₄:∀b o,b≠e->b≠it->hp.get? b=some o->h₄.get? b=some o:=fun b o hbe hbi hb=>by
  rw[<-hh₄];exact qd _ (hs₃.extBut b o hbe (hs₂.extBut b o hbe (hs₁.extBut b o hbi hb)))
 have hit₄:h₄.IsTupleIter it l (i+1):=by
  rw[<-hh₄];obtain⟨o,ho,r⟩:=(hit₁.at fun o q=>hs₃.extBut it o (Ne.symm hne) (hs₂.extBut it o (Ne.symm hne) q));exact⟨o,qd _ ho,r⟩
 show wpAny _ _ (Builtin.SmallTypes.ownedTupleIsFree (.ref e) >>= _) _ _ ⟨h₄,g,d,tk+1,os⟩
 rw[hsz]
 clear hh₄ he₃ hs₃ he₂ hs₂ he₁ hs₁ hit₁ hsz h₃ h₂ h₁
 refine wpAny_bind ?_
 ·unfold Builtin.SmallTypes.ownedTupleIsFree
  refine wpAny_bind (wpAny_field he₄ rfl (x:=.none) rfl (wpAny_pure ?_))
  simp only[if_true]
  refine wpAny_bind (wpAny_rule ?_)
  refine wpAny_bind (wpAny_field he₄ rfl (x:=old) rfl ?_)
  refine wpAny_bind (wpAny_setField_rec he₄ (by simp) fun h₅ he₅ hs₅=>?_)
  replace hs₅:Heap.SameBut e h₄ h₅:=hs₅
  replace he₅:IsEnum h₅ e it ((i:Int)+1) x:=he₅
  show wpAny _ _ (Builtin.SmallTypes.ownedTupleHandOut (.ref e) (.ref hp.objs.size) >>= _) _ _ ⟨h₅,g,d,tk+1,os⟩
  refine wpAny_bind ?_
  ·unfold Builtin.SmallTypes.ownedTupleHandOut
   refine wpAny_bind (wpAny_setField_rec he₅ (by simp) fun h₆ he₆ hs₆=>?_)
   replace hs₆:Heap.SameBut e h₅ h₆:=hs₆
   replace he₆:IsEnumOut h₆ e it ((i:Int)+1) x hp.objs.size:=he₆
   refine wpAny_setField_rec he₆ (by simp) fun h₇ he₇ hs₇=>?_
   replace hs₇:Heap.SameBut e h₆ h₇:=hs₇
   replace he₇:IsEnumOut h₇ e it ((i:Int)+1) x hp.objs.size:=he₇
   refine wpAny_bind (wpAny_letGo (wpAny_pure ⟨_,rfl,hQ h₇ he₇ ?_ ?_ ?_ ?_⟩))
   ·exact hit₄.at fun o q=>hs₇.extBut it o (Ne.symm hne) (hs₆.extBut it o (Ne.symm hne) (hs₅.extBut it o (Ne.symm hne) q))
   ·exact hs₇.extBut _ _ (Nat.ne_of_gt hel) (hs₆.extBut _ _ (Nat.ne_of_gt hel) (hs₅.extBut _ _ (Nat.ne_of_gt hel) ht₄))
   ·rw[hs₇.1,hs₆.1,hs₅.1,hz₄]
   ·exact fun b o hbe hbi hb=>hs₇.extBut b o hbe (hs₆.extBut b o hbe (hs₅.extBut b o hbe (hk₄ b o hbe hbi hb)))
theorem Yfz{e it l:Addr}{i:Nat}{items:Array Value}{x old:Value}{Q:Option Value->Shared->Prop}
 (he:IsEnum s.heap e it i old) (hit:s.heap.IsTupleIter it l i) (hl:s.heap.IsTuple l items) (hx:items[i]?=some x) (hne:e≠it)
 (hQ:∀h',IsEnumOut h' e it ((i:Int)+1) x s.heap.objs.size->h'.IsTupleIter it l (i+1)->
  h'.get? s.heap.objs.size=some { cls:=.type "tuple",data:=.seq #[.int i s.toks,x] }->h'.objs.size=s.heap.objs.size+1->
  (∀b o,b≠e->b≠it->s.heap.get? b=some o->h'.get? b=some o)->Q (some (.ref s.heap.objs.size)) { s with heap:=h',toks:=s.toks+1 }) :
 wpAny (model prog w) A (pyNext (.ref e)) Q E s:=by
 have hT:s.TypeIs (.ref e) "enumerate":=⟨_,he,rfl⟩
 unfold pyNext
 exact wpAny_bind (wpAny_attempt (wpAny_callSpecial?_slot (name:=Str.ofString "__next__") hT F.slot_enumerate_next
  (wpAny_call_entry F.slot_enumerate_next hT F.entry_enumerate_next
   (Yhe he hit hl hx hne fun h' a b c d k=>wpAny_pure (hQ h' a b c d k)) (F.args_enumerate_next_1 _))))
theorem Ygd{e it l:Addr}{i:Nat}{items:Array Value}{old:Value}{Q:Option Value->Shared->Prop}(hh:A.handled=none)
 (he:IsEnum s.heap e it i old) (hit:s.heap.IsTupleIter it l i) (hl:s.heap.IsTuple l items) (hx:items[i]?=none)
 (hQ:∀h',Heap.ExtBut it s.heap h'->Q none { s with heap:=h' }):wpAny (model prog w) A (pyNext (.ref e)) Q E s:=by
 have hT:s.TypeIs (.ref e) "enumerate":=⟨_,he,rfl⟩
 unfold pyNext
 refine wpAny_bind (wpAny_attempt (wpAny_callSpecial?_slot (name:=Str.ofString "__next__") hT F.slot_enumerate_next
  (wpAny_call_entry F.slot_enumerate_next hT F.entry_enumerate_next ?_ (F.args_enumerate_next_1 _))))
 show wpAny _ _ (field (.ref e) 2 >>= _) _ _ _
 refine wpAny_bind (wpAny_field he rfl (x:=.ref it) rfl ?_)
 refine wpAny_bind (Ygc hh hit hl hx fun h' x he' hx'=>?_)
 obtain⟨o,ho,hc⟩:=hx'
 refine wpAny_bind (wpAny_isInstance (T:="StopIteration") (b:=true) ⟨o,ho,hc⟩ isSubtype_stop ?_)
 exact wpAny_pure (hQ _ he')
theorem Yhf(l:Addr)(items:Array Value)(n:Nat)(dct:Option Addr)(sl:Array (Option Value)) :
 Meets (Builtin.«enumerate.__new__» ⟨[.type "enumerate",.ref l],[]⟩) (fun _ R s=>s.heap.get? l=some { cls:=.type "tuple",dict:=dct,data:=.seq items n,slots:=sl }/\
  R (.ok (.ret (.ref (s.heap.push { cls:=.type "tuple_iterator",data:=.fields #[.ref l,.int 0 0] }).objs.size)))
   { s with heap:=(s.heap.push { cls:=.type "tuple_iterator",data:=.fields #[.ref l,.int 0 0] }).push { cls:=.type "enumerate",data:=.fields #[.none,.bool false,.ref s.heap.objs.size,rawInt 0,.none,.none] } }):=
 .of_wp fun prog w A R s h=>by
  obtain⟨hp,g,d,tk,os⟩:=s;obtain⟨hl,h⟩:=h
  have hsub:=sub_enumerate
  have hL:Heap.IsTuple (Shared.heap ⟨hp,g,d,tk,os⟩) l items:=⟨_,hl,rfl,n,rfl⟩
  wp_walk using PySem.AutoSeq1.wpAny_loadPart' hl
  refine wpAny_stack_any fun st=>wpAny_pure ?_
  split
  ·rename_i c _ _ _ _ _
   cases (c==Value.type "enumerate")
   ·wp_walk using PySem.AutoSeq1.wpAny_loadPart' hl,wpAny_pyIter_tuple hL
    exact⟨_,rfl,h⟩
   ·wp_walk using PySem.AutoSeq1.wpAny_loadPart' hl,wpAny_pyIter_tuple hL
    exact⟨_,rfl,h⟩
  ·wp_walk using PySem.AutoSeq1.wpAny_loadPart' hl,wpAny_pyIter_tuple hL
   exact⟨_,rfl,h⟩
theorem Yew{l:Addr}{items:Array Value}{Q:Value->Shared->Prop}(hL:s.heap.IsTuple l items)
 (h:∀h',IsEnum h' (s.heap.objs.size+1) s.heap.objs.size 0 .none->h'.IsTupleIter s.heap.objs.size l 0->h'.objs.size=s.heap.objs.size+2->
  (∀b o,s.heap.get? b=some o->h'.get? b=some o)->Q (.ref (s.heap.objs.size+1)) { s with heap:=h' }) :
 wpAny (model prog w) A (call (.type "enumerate") [.ref l]) Q E s:=by
 obtain⟨⟨c,dct,dt,sl⟩,hl,hc,n,hd⟩:=hL
 replace hc:c=.type "tuple":=hc
 replace hd:dt=.seq items n:=hd
 subst hc hd
 refine callType_new F.called_enumerate (by decide) (F.typeCall_enumerate_1 _) (F.newCall_enumerate_1 _) (fun obj=>F.args_object_init_2 obj _) F.entry_enumerate_new
  (Yhf l items n dct sl) ⟨hl,?_⟩
 have hz:(s.heap.push { cls:=.type "tuple_iterator",data:=.fields #[.ref l,.int 0 0] }).objs.size=s.heap.objs.size+1:=Heap.size_push ..
 show _/\_
 rw[hz]
 have he:IsEnum ((s.heap.push { cls:=.type "tuple_iterator",data:=.fields #[.ref l,.int 0 0] }).push
  { cls:=.type "enumerate",data:=.fields #[.none,.bool false,.ref s.heap.objs.size,rawInt 0,.none,.none] }) (s.heap.objs.size+1) s.heap.objs.size 0 .none:=by
  have:=qo (s.heap.push { cls:=.type "tuple_iterator",data:=.fields #[.ref l,.int 0 0] })
   (o:={ cls:=.type "enumerate",data:=.fields #[.none,.bool false,.ref s.heap.objs.size,rawInt 0,.none,.none] }) rfl
  rw[hz]at this;exact this
 refine⟨⟨_,he,rfl⟩,h _ he ⟨_,qd _ (qo _ rfl),rfl,rfl⟩ (by rw[Heap.size_push,hz]) fun b o x=>qd _ (qd _ x)⟩
end
theorem Yfj{X:Cx}{pins:List (Addr × Obj)}{σ:L2.St}{H:Hp}{s:Shared}{h':Heap}{t':Nat}{ch:List Addr}{T:Addr}{o:HO}(I:Inv X pins σ H s)(hf:∀b∈ch,FpOk X pins H b)
 (k:∀b u,b∉ch->s.heap.get? b=some u->h'.get? b=some u) (hT:s.heap.objs.size<=T) (new:ObjOk X.prog X.w (upd H T o) h' T o):Inv X pins σ (upd H T o) { s with heap:=h',toks:=t' }:=by
 have fr:H T=none:=I.hok.fresh hT
 have nch:∀b u,H b=some u->b∉ch:=fun b u e z=>by rw[(hf b z).1]at e;cases e
 refine I.step (g':=s.gens) (d':=s.drawn) (ch:=ch) (fun b hb=>?_) (fun b u _ _ hc e _=>k b u hc e) (fun b u _ _ hc e _=>⟨u.slots,k b u hc e⟩) (fun b u _ e n=>?_)
  (fun b u hc e=>⟨u,k b u hc e⟩) (fun b xs e=>?_) (fun b u xs e=>?_) (fun b ps e=>⟨#[],?_⟩) (fun m hm=>?_) (fun b u e=>?_) I.bare
 ·obtain⟨_,f1,_,f3,f4,f5⟩:=hf b hb
  exact⟨f3,f1,f4,f5⟩
 ·rw[Yk (ql (Qa (qk e) hT))];exact n
 ·rw[Yk (Yv e fr)];exact e
 ·rw[Yk (Yv e fr)];exact e
 ·rw[Yk (Yv e fr),e];simp
 ·obtain⟨ob,es,ep,ho,r⟩:=hm
  exact⟨ob,es,ep,k _ ob (fun z=>(hf _ z).2.1 rfl) ho,r⟩
 ·by_cases hb:b=T
  ·subst hb;rw[Yo]at e;cases e;exact new
  ·rw[Yk hb]at e
   refine(I.hok b u e).stay (fun c v hc q=>k c v ?_ q) (fun c q=>by rw[Yk (Yv q fr)];exact q) fun c xs q=>by rw[Yk (Yv q fr)];exact q
   rcases hc with z | z
   ·rw[z];exact nch b u e
   ·exact nch c _ z
def IteL(K:W.Frag)(a:Addr):It:=
 ⟨fun i H=>∃xs x,SqL K H a xs/\xs[i]?=some x,fun i H x H'=>∃y p,(∀xs,SqL K H a xs->xs[i]?=some y)/\H p=none/\x=.ref p/\H'=upd H p (.tup [.int i,y]),fun i H=>∃xs,SqL K H a xs/\xs.length<=i⟩
def IteT(K:W.Frag)(a:Addr):It:=
 ⟨fun i H=>∃xs x,SqT K H a xs/\xs[i]?=some x,fun i H x H'=>∃y p,(∀xs,SqT K H a xs->xs[i]?=some y)/\H p=none/\x=.ref p/\H'=upd H p (.tup [.int i,y]),fun i H=>∃xs,SqT K H a xs/\xs.length<=i⟩
section
variable {elts:List Expr} {x1:Nat} {pt:Pos}
theorem Yoc{P:Program}{w:World}(a it e:Addr)(hei:e≠it):Turn P w K (.Tuple elts x1 pt) (IteL K a) [e,it] e (fun i h=>(∃old,IsEnum h e it i old)/\h.IsListIter it a i) where
 mem:=by simp
 obj:=fun i h st b hb=>by
  obtain⟨⟨old,he⟩,hit⟩:=st
  rcases qr hb with rfl | hb
  ·exact⟨_,he,fun v z=>by cases z⟩
  ·have z:b=it:=by simpa using hb
   subst z
   obtain⟨o,q,c,d⟩:=hit
   exact⟨o,q,fun v z=>by rw[d]at z;cases z⟩
 keep:=fun i h h' st k=>by
  obtain⟨⟨old,he⟩,hit⟩:=st
  exact⟨⟨old,k e (by simp) _ he⟩,hit.at fun o q=>k it (by simp) o q⟩
 item:=by
  intro X hP hw hK hc i pins s σ H E I hf st hg
  subst hP hw hK
  obtain⟨xs,x,hq,hx⟩:=hg
  obtain⟨its,rv,p,hz⟩:=I.list hq
  obtain⟨u,hu,ru⟩:=rv.get hx
  obtain⟨⟨old,he⟩,hit⟩:=st
  refine wpAny_pyNext_enum_item he hit p.isList (x:=u) (by simpa using hu) hei fun h' ho hit' hT hsz hk=>?_
  refine⟨_,rfl,wpAny_letOwnedTupleGo_enum ho fun h2 he2 hs2=>?_⟩
  have fr:H s.heap.objs.size=none:=I.fresh
  have hne:∀b∈[e,it],b≠s.heap.objs.size:=fun b hb z=>by
   rcases qr hb with rfl | hb
   ·exact absurd (qk he) (by rw[z];exact Nat.lt_irrefl _)
   ·have z2:b=it:=by simpa using hb
    subst z2
    obtain⟨o,q,_⟩:=hit
    exact absurd (qk q) (by rw[z];exact Nat.lt_irrefl _)
  have kk:∀b o,b∉[e,it]->s.heap.get? b=some o->h2.get? b=some o:=fun b o hb q=>by
   have h1:b≠e:=fun z=>hb (by simp[z])
   have h3:b≠it:=fun z=>hb (by simp[z])
   exact(hs2.2 b h1).trans (hk b o h1 h3 q)
  have tT:h2.get? s.heap.objs.size=some { cls:=.type "tuple",data:=.seq #[.int i s.toks,u] }:=(hs2.2 _ (Ne.symm (hne e (by simp)))).trans hT
  refine⟨.ref s.heap.objs.size,upd H s.heap.objs.size (.tup [.int i,x]),(show Inv X pins σ _ { s with heap:=h2,toks:=s.toks+1 } from Yfj (s:=s) (t':=s.toks+1) I hf kk (qs _) ?_),rfl,⟨x,s.heap.objs.size,fun ys hy=>by rw[I.list_inj hy hq];exact hx,fr,rfl,rfl⟩,⟨⟨_,by simpa using he2⟩,hit'.at fun o q=>(hs2.2 it (Ne.symm hei)).trans q⟩,fun b hb=>?_⟩
  ·exact⟨by rw[sizeLine_eq];show 2<=16777216;decide,[.int i s.toks,u],.cons ⟨_,rfl⟩ (.cons ru .nil),_,tT,rfl,0,rfl⟩
  ·rw[Yk (hne b hb)];exact(hf b hb).1
 done:=by
  intro X hP hw hK hc i pins s σ H E I hf st hg
  subst hP hw hK
  obtain⟨xs,hq,hx⟩:=hg
  obtain⟨its,rv,p,hz⟩:=I.list hq
  obtain⟨⟨old,he⟩,hit⟩:=st
  obtain⟨f0,f1,f2,f3,f4,f5⟩:=hf it (by simp)
  have hl:=rv.length
  exact wpAny_pyNext_enum_end (I.ok.hd hc) he hit p.isList (by simp;lia) fun h' eb=>⟨rfl,I.turned (t':=s.toks) (fun b o hb e=>eb b o hb e) f0 f1 f3 f4 f5⟩
 self:=fun _ _ _ _ _ st h=>let ⟨⟨_,he⟩,_⟩:=st;wpAny_pyIter_enum he h
theorem Yod{P:Program}{w:World}(a it e:Addr)(hei:e≠it):Turn P w K (.Tuple elts x1 pt) (IteT K a) [e,it] e (fun i h=>(∃old,IsEnum h e it i old)/\h.IsTupleIter it a i) where
 mem:=by simp
 obj:=fun i h st b hb=>by
  obtain⟨⟨old,he⟩,hit⟩:=st
  rcases qr hb with rfl | hb
  ·exact⟨_,he,fun v z=>by cases z⟩
  ·have z:b=it:=by simpa using hb
   subst z
   obtain⟨o,q,c,d⟩:=hit
   exact⟨o,q,fun v z=>by rw[d]at z;cases z⟩
 keep:=fun i h h' st k=>by
  obtain⟨⟨old,he⟩,hit⟩:=st
  exact⟨⟨old,k e (by simp) _ he⟩,hit.at fun o q=>k it (by simp) o q⟩
 item:=by
  intro X hP hw hK hc i pins s σ H E I hf st hg
  subst hP hw hK
  obtain⟨xs,x,hq,hx⟩:=hg
  obtain⟨its,rv,p,hz⟩:=I.tuple hq
  obtain⟨u,hu,ru⟩:=rv.get hx
  obtain⟨⟨old,he⟩,hit⟩:=st
  refine Yfz he hit (show s.heap.IsTuple a its.toArray from p) (x:=u) (by simpa using hu) hei fun h' ho hit' hT hsz hk=>?_
  refine⟨_,rfl,wpAny_letOwnedTupleGo_enum ho fun h2 he2 hs2=>?_⟩
  have fr:H s.heap.objs.size=none:=I.fresh
  have hne:∀b∈[e,it],b≠s.heap.objs.size:=fun b hb z=>by
   rcases qr hb with rfl | hb
   ·exact absurd (qk he) (by rw[z];exact Nat.lt_irrefl _)
   ·have z2:b=it:=by simpa using hb
    subst z2
    obtain⟨o,q,_⟩:=hit
    exact absurd (qk q) (by rw[z];exact Nat.lt_irrefl _)
  have kk:∀b o,b∉[e,it]->s.heap.get? b=some o->h2.get? b=some o:=fun b o hb q=>by
   have h1:b≠e:=fun z=>hb (by simp[z])
   have h3:b≠it:=fun z=>hb (by simp[z])
   exact(hs2.2 b h1).trans (hk b o h1 h3 q)
  have tT:h2.get? s.heap.objs.size=some { cls:=.type "tuple",data:=.seq #[.int i s.toks,u] }:=(hs2.2 _ (Ne.symm (hne e (by simp)))).trans hT
  refine⟨.ref s.heap.objs.size,upd H s.heap.objs.size (.tup [.int i,x]),(show Inv X pins σ _ { s with heap:=h2,toks:=s.toks+1 } from Yfj (s:=s) (t':=s.toks+1) I hf kk (qs _) ?_),rfl,⟨x,s.heap.objs.size,fun ys hy=>by rw[I.tuple_inj hy hq];exact hx,fr,rfl,rfl⟩,⟨⟨_,by simpa using he2⟩,hit'.at fun o q=>(hs2.2 it (Ne.symm hei)).trans q⟩,fun b hb=>?_⟩
  ·exact⟨by rw[sizeLine_eq];show 2<=16777216;decide,[.int i s.toks,u],.cons ⟨_,rfl⟩ (.cons ru .nil),_,tT,rfl,0,rfl⟩
  ·rw[Yk (hne b hb)];exact(hf b hb).1
 done:=by
  intro X hP hw hK hc i pins s σ H E I hf st hg
  subst hP hw hK
  obtain⟨xs,hq,hx⟩:=hg
  obtain⟨its,rv,p,hz⟩:=I.tuple hq
  obtain⟨⟨old,he⟩,hit⟩:=st
  obtain⟨f0,f1,f2,f3,f4,f5⟩:=hf it (by simp)
  have hl:=rv.length
  exact Ygd (I.ok.hd hc) he hit (show s.heap.IsTuple a its.toArray from p) (by simp;lia) fun h' eb=>⟨rfl,I.turned (t':=s.toks) (fun b o hb e=>eb b o hb e) f0 f1 f3 f4 f5⟩
 self:=fun _ _ _ _ _ st h=>let ⟨⟨_,he⟩,_⟩:=st;wpAny_pyIter_enum he h
variable {X:Cx} {pos:Pos}
def y0d(K:W.Frag)(ta:TA):TI:=fun σ H R=>ta σ H fun vs H1=>∃a xs,vs=[.ref a]/\((SqL K H1 a xs/\(xs.length<=sizeLine->R (IteL K a) H1))\/(SqT K H1 a xs/\(xs.length<=sizeLine->R (IteT K a) H1)))
theorem Yu8{l:Expr}{ta:TA}{p:Pos}(hg:Gl X "enumerate")(hm:X.mg "enumerate"=none)(ha:PA X [l] ta)(hs:starEach [l] X.env=[(false,eval l X.env)]:=by rfl):PI X (.Tuple elts x1 pt) (.Call (.Name "enumerate" p) [l] [] pos) (y0d X.K ta):=by
 intro pins s σ H R I h
 refine Call_ (Ykf I hg hm boot_enumerate (PyProof.Rows.callWith_type1 (thn (ha pos pins s σ H _ I h) fun us s1 hx_=>?_) hs rfl))
 obtain⟨vs,H1,I1,r1,q1⟩:=hx_
 obtain⟨a,xs,rfl,q⟩:=q1
 obtain⟨u,rfl,ru⟩:=Yfu r1
 cases ru
 have fin:∀(h':Heap),h'.objs.size=s1.heap.objs.size+2->(∀b o,s1.heap.get? b=some o->h'.get? b=some o)->∀b∈[s1.heap.objs.size+1,s1.heap.objs.size],FpOk X pins H1 b:=fun h' hz hk b hb=>by
  have hb':s1.heap.objs.size<=b:=by
   rcases qr hb with rfl | hb
   ·exact Nat.le_succ _
   ·have:b=s1.heap.objs.size:=by simpa using hb
    lia
  exact I1.fpOk hb' (I1.hok.fresh hb')
 rcases q with⟨hq,q⟩ | ⟨hq,q⟩
 ·obtain⟨its,rv,pl,hz⟩:=I1.list hq
  refine call_enumerate_list pl.isList fun h' he hit hsz hk=>wpAny_pyIter_enum (s:={ s1 with heap:=h' }) he ?_
  exact⟨_,[s1.heap.objs.size+1,s1.heap.objs.size],_,_,H1,rfl,I1.kept (t':=s1.toks) hk,Yoc a s1.heap.objs.size _ (Nat.succ_ne_self _),⟨⟨_,he⟩,hit⟩,fin h' hsz hk,q hz⟩
 ·obtain⟨its,rv,pl,hz⟩:=I1.tuple hq
  refine Yew (show s1.heap.IsTuple a its.toArray from pl) fun h' he hit hsz hk=>wpAny_pyIter_enum (s:={ s1 with heap:=h' }) he ?_
  exact⟨_,[s1.heap.objs.size+1,s1.heap.objs.size],_,_,H1,rfl,I1.kept (t':=s1.toks) hk,Yod a s1.heap.objs.size _ (Nat.succ_ne_self _),⟨⟨_,he⟩,hit⟩,fin h' hsz hk,q hz⟩
def Yjo(l:List D):List D:=(List.range l.length).map fun i:Nat=>.tup [.int (i:Int),l.getD i .non]
def Ysf(c:D):Option (List D):=(Ys c).map Yjo
theorem Yhg{l:List D}{i:Nat}{d:D}(h:(Yjo l)[i]?=some d):∃e,l[i]?=some e/\d=.tup [.int i,e]:=by
 unfold Yjo at h
 rw[Qc]at h
 obtain⟨j,h1,rfl⟩:=qb h
 have hj:i < l.length:=by
  have:=(qm h1).1
  simpa using this
 rw[List.getElem?_range hj]at h1
 cases h1
 exact⟨l[i],qp hj,by simp[hj]⟩
theorem Ybg(l:List D):(Yjo l).length=l.length:=by simp[Yjo]
theorem Gr.newTup{H G:Hp}{d:D}{x:V}(s:Same G H){p:Addr}(hp:H p=none)(i:Nat)(r:Rp K G d x):∃G3,Gr H G (upd H p (.tup [.int i,x])) G3/\Rp K G3 (.tup [.int i,d]) (.ref p):=by
 refine⟨_,Gr.new s hp (.tup [.int i,x]),?_⟩
 rw[Rp]
 exact⟨p,_,rfl,Yo,.cons (by rw[Rp]) (.one (r.mono (Gr.new s hp _).g))⟩
theorem Yk1{l:Expr}{f:Ro->Option D}{p:Pos}(hg:Gl X "enumerate")(hm:X.mg "enumerate"=none)(hl:ME X l f)(hs:starEach [l] X.env=[(false,eval l X.env)]:=by rfl) :
 MI X (.Tuple elts x1 pt) (.Call (.Name "enumerate" p) [l] [] pos) (b1 f Ysf):=
 PI.imp (Yu8 hg hm (Ypl hl Ytk hs) hs) fun σ H R hx_=>by
  obtain⟨ρ,ds,H0,G0,G,e,s,h⟩:=hx_
  obtain⟨c,h1,h2⟩:=Yca e
  obtain⟨l,h3,rfl⟩:=qb h2
  refine tAof.at (show Yd f aNil ρ=some [c] by simp[Yd,aNil,h1]) s fun vs H1 G1 g1 r1 s1=>?_
  obtain⟨v,rfl,rv⟩:=Yg9 r1
  rcases Yav h3 with rfl | rfl | ⟨ns,rfl,rfl⟩
  ·rw[Rp]at rv
   obtain⟨p,xs,rfl,g,rl⟩:=rv
   refine⟨p,xs,rfl,.inr ⟨.inl (.inl (s1.seen _ _ g)),fun hz=>h _ H1 G1 g1 ⟨by rw[Ybg,<-rl.length];exact hz,fun i H2 G2 e1 e2=>⟨fun d hd=>?_,fun hi=>⟨xs,.inl (.inl (e2 _ _ (e1 _ _ g))),by rw[rl.length,<-Ybg l];exact hi⟩⟩⟩⟩⟩
   obtain⟨d',hd',rfl⟩:=Yhg hd
   obtain⟨x,hx,rx⟩:=rl.get hd'
   refine⟨⟨xs,x,.inl (.inl (e2 _ _ (e1 _ _ g))),hx⟩,fun y H3 q=>?_⟩
   obtain⟨y',q',a1,a2,rfl,rfl⟩:=q
   have:=a1 xs (.inl (.inl (e2 _ _ (e1 _ _ g))))
   rw[hx]at this
   cases this
   exact Gr.newTup e2 a2 i (rx.mono e1)
  ·rw[Rp]at rv
   obtain⟨p,xs,rfl,g,rl⟩:=rv
   refine⟨p,xs,rfl,.inl ⟨.inl (Yaz s1.seen g),fun hz=>h _ H1 G1 g1 ⟨by rw[Ybg,<-rl.length];exact hz,fun i H2 G2 e1 e2=>⟨fun d hd=>?_,fun hi=>⟨xs,.inl (Yaz e2 (Yaz e1 g)),by rw[rl.length,<-Ybg l];exact hi⟩⟩⟩⟩⟩
   obtain⟨d',hd',rfl⟩:=Yhg hd
   obtain⟨x,hx,rx⟩:=rl.get hd'
   refine⟨⟨xs,x,.inl (Yaz e2 (Yaz e1 g)),hx⟩,fun y H3 q=>?_⟩
   obtain⟨y',q',a1,a2,rfl,rfl⟩:=q
   have:=a1 xs (.inl (Yaz e2 (Yaz e1 g)))
   rw[hx]at this
   cases this
   exact Gr.newTup e2 a2 i (rx.mono e1)
  ·rw[Rp]at rv
   obtain⟨p,rfl,g⟩:=rv
   have rl:RpL X.K G1 (ns.map D.int) (ns.map V.int):=.ints ns
   refine⟨p,_,rfl,.inl ⟨s1.seen.seq g,fun hz=>h _ H1 G1 g1 ⟨by rw[Ybg,<-rl.length];exact hz,fun i H2 G2 e1 e2=>⟨fun d hd=>?_,fun hi=>⟨_,e2.seq (e1.seq g),by rw[rl.length,<-Ybg];exact hi⟩⟩⟩⟩⟩
   obtain⟨d',hd',rfl⟩:=Yhg hd
   obtain⟨x,hx,rx⟩:=rl.get hd'
   refine⟨⟨_,x,e2.seq (e1.seq g),hx⟩,fun y H3 q=>?_⟩
   obtain⟨y',q',a1,a2,rfl,rfl⟩:=q
   have:=a1 _ (e2.seq (e1.seq g))
   rw[hx]at this
   cases this
   exact Gr.newTup e2 a2 i (rx.mono e1)
end
end
section
variable {K:W.Frag}
end
section
open Sem (wp)
variable {K:W.Frag}
end
section
variable {K:W.Frag}
section
variable {X:Cx} {e ie:Expr} {f fb:Ro->Option D} {pos:Pos}
def rExt:V->List V->Hp->VK->Prop:=fun x vs H Q=>∃l b xs zs,x=.ref l/\vs=[.ref b]/\H l=some (.lst xs)/\Rd H b (.lst zs)/\xs.length+zs.length<=sizeLine/\Q .non (upd H l (.lst (xs++zs)))
theorem Yyi:MtM X "list.extend" rExt:=by
 intro pins s σ H x vs v us Q I rx rv h
 obtain⟨l,b,xs,zs,rfl,rfl,hH,hB,hz,q⟩:=h
 cases rx
 obtain⟨u,rfl,ru⟩:=rv.one
 cases ru
 obtain⟨z,its,n,r,hl,e⟩:=I.lstM hH
 obtain⟨z2,its2,n2,r2,e2⟩:=hB.ok I.hok
 have hl2:=r2.length
 have hsz:its.toArray.size+its2.toArray.size<=sizeLine:=by rw[qj,qj];lia
 have hlong:¬(!its.toArray.isEmpty&&Builtin.List.listTooLong (its.toArray.size+its2.toArray.size))=true:=by
  rw[Yrx hsz,Bool.and_false]
  exact qh
 refine call_meets F.slot_list_extend ⟨_,e,rfl⟩ F.entry_list_extend (F.args_list_extend_2 _ _)
  (AutoSeq1.list_extend_list_list_0 l its.toArray n b its2.toArray n2 hlong (by rw[qj];lia) (by lia)) ⟨e,e2,?_⟩
 refine⟨.non,_,I.lset (its':=its++its2) hH e (by simp) (r.append r2) ?_,rfl,q⟩
 rw[qw]
 lia
def extD(l:List D)(d:D):Option (List D):=match d with
 | .lst m=>if l.length+m.length<=cap6 then some (l++m)else none
 | _=>none
theorem Yp1(i:Nat){x:Str}{p2 apos cpos:Pos}(he:ME X e f)(hN:X.N[i]?=some x:=by rfl)(hv:Vis X.env.scope x:=by first | exact Or.inl rfl | exact Or.inr (Or.inl rfl) | exact Or.inr (Or.inr rfl))
 (hd:(x==("__debug__":Str))=false:=by decide) (hcd:(x==("__classdict__":Str))=false:=by decide) (hse:swapsWith (.Call (.Attribute (.Name x p2) "extend" apos) [e] [] cpos) none pos.line X.env=pure false:=by rfl)
 (hs:starEach [e] X.env=[(false,eval e X.env)]:=by rfl)
 (hfew:((backTo cpos (starEach [e] X.env)).all (fun x=>!x.1)&&(backToKw cpos (keywordEach [] X.env)).all (fun x=>x.1.isSome)&&decide ([e].length+([]:List Keyword).length+(if ([]:List Keyword).isEmpty then 0 else 1) < 30))=true:=by rfl)
 (hline:(apos.endLine==cpos.line)=true:=by rfl) (hbase:attributeBase (.Name x p2) "extend" X.env (eval (.Name x p2) X.env)=eval (.Name x p2) X.env:=by rfl) :
 MS X (.Expr (.Call (.Attribute (.Name x p2) "extend" apos) [e] [] cpos) pos) (sMut i f extD):=
 PS.imp (Yft (Yuc PySem.F.plainAttrs_list PySem.F.slot_list_extend PySem.F.type_list_extend Yyi (Yfa hN hv hd hcd) (Ybd he Ydq hs) hbase hfew hline hs rfl) hse) fun F σ H hx_=>by
  obtain⟨ρ,out,H0,G0,G,e,s,h⟩:=hx_
  unfold sMut at e
  obtain⟨l,h1,e⟩:=qa e
  obtain⟨d,h2,e⟩:=qa e
  obtain⟨l',h3,rfl⟩:=qb e
  unfold extD at h3
  split at h3
  ·rename_i m
   split at h3
   ·rename_i hl
    cases h3
    obtain⟨a,xs,ha,hH,hr,hG⟩:=Ytm s h1
    refine⟨_,ha,.inl ⟨rfl,xs,SqL.of hH⟩,tOf.at h2 s fun v H1 G1 g1 r1 s1=>?_⟩
    rw[Rp]at r1
    obtain⟨b,zs,rfl,gb,rz⟩:=r1
    refine⟨a,b,xs,zs,rfl,rfl,g1.h _ _ hH,Yaz s1.seen gb,?_,h σ _ G1 (s1.mut (Yg5 h1) ha ((hr.mono g1.g).append rz))⟩
    rw[hr.length,rz.length]
    exact Ye3 hl
   ·cases h3
  ·cases h3
end
end
section
variable {K:W.Frag}
def GI(mg:Str->Option Value)(x:Str)(i:Int):Prop:=∃t,mg x=some (.int i t)
section
variable {X:Cx} {ke:Expr} {fk:Ro->Option D} {pos px:Pos} {x:Str}
theorem Yu9{i:Int}(g:GI X.mg x i)(hg:Gl X x)(hd:(x==("__debug__":Str))=false:=by decide):ME X (.Name x px) (kD (.int i)):=by
 obtain⟨t,hm⟩:=g
 exact Yff (v:=.int i) (Ylr (v:=.int i) hg hm ⟨t,rfl⟩ hd) (fun _ _ _ q=>q) fun _=>by rw[Rp]
end
def tK(x:Str):TE:=fun _ H Q=>Q (.str x) H
structure MP(X:Cx)(pos:Pos)(keys:List (Option Expr))(values:List Expr)(ks:List Str)(fs:List (Ro->Option D)):Prop where
 len:ks.length=fs.length
 pps:PPs X pos keys values ((ks.zip fs).map fun p=>(tK p.1,tOf X.K p.2))
 all:keys.all (·.isSome)=true
 kv:keys.length=values.length
 kk:keys.length=ks.length
end
section
variable {K:W.Frag}
structure DtH(H:Hp)(a:Addr)(nks:List (List Int × Addr))(vxs:List V):Prop where
 at':∃ep,H a=some (dTo a nks vxs ep)
 len:nks.length=vxs.length
 nd:(nks.map (·.1)).Nodup
 keys:∀p∈nks,∃ys,H p.2=some (.tup ys)/\Yul ys=some p.1
end
section
end
section
section
variable {X:Cx} {a b c e:Expr} {fa fb fc:Ro->Option D} {pos:Pos} {st:Stmt}
def nS:Ro->Option Out:=fun _=>none
theorem Ysg:MS X st nS:=fun _ _ _ _ _ _ ⟨_,_,_,_,_,h,_⟩=>nomatch h
end
end
section
section
variable {X:Cx} {e:Expr} {f:Ro->Option D} {fc:Ro->Option Bool} {gl:Ro->Option (List D)} {K:W.Frag}
def Ysh:D->Bool
 | .non | .bl _ | .int _ | .str _=>true
 | _=>false
def scal(d:D):Option D:=if Ysh d=true then some d else none
theorem Rp.scal{G G':Hp}{d:D}{v:V}(h:Ysh d=true)(r:Rp K G d v):Rp K G' d v:=by
 cases d<;>first | (rw[Rp]at r ⊢;exact r) | cases h
theorem Gr.back{H G H' G' G1:Hp}(s:Same G H)(g:Gr H G1 H' G'):Gr H G H' G:=⟨g.h,Same.refl _,s.trans g.h,fun _ h h'=>absurd h h'⟩
mutual
def plB:D->Bool
 | .non=>true
 | .bl _=>true
 | .int _=>true
 | .str _=>true
 | .tup l=>plBL l
 | .lst _=>false
 | .scr _=>false
 | .dct _ _ _=>false
 | .obj _ _ _=>false
 | .adr _=>false
def plBL:List D->Bool
 | []=>true
 | d::l=>plB d&&plBL l
end
mutual
theorem Rp.plain{G G':Hp}(hG:∀b ys,G b=some (HO.tup ys)->G' b=some (HO.tup ys)):∀{d:D} {v:V},plB d=true->Rp K G d v->Rp K G' d v
 | .non,_,_,r=>by rw[Rp]at r ⊢;exact r
 | .bl _,_,_,r=>by rw[Rp]at r ⊢;exact r
 | .int _,_,_,r=>by rw[Rp]at r ⊢;exact r
 | .str _,_,_,r=>by rw[Rp]at r ⊢;exact r
 | .tup l,_,h,r=>by
   rw[Rp]at r ⊢
   rw[plB]at h
   obtain⟨a,xs,e,g,q⟩:=r
   exact⟨a,xs,e,hG _ _ g,RpL.plain hG h q⟩
 | .lst _,_,h,_=>by rw[plB]at h;cases h
 | .scr _,_,h,_=>by rw[plB]at h;cases h
 | .dct _ _ _,_,h,_=>by rw[plB]at h;cases h
 | .obj _ _ _,_,h,_=>by rw[plB]at h;cases h
 | .adr _,_,h,_=>by rw[plB]at h;cases h
theorem RpL.plain{G G':Hp}(hG:∀b ys,G b=some (HO.tup ys)->G' b=some (HO.tup ys)):∀{l:List D} {xs:List V},plBL l=true->RpL K G l xs->RpL K G' l xs
 | [],_,_,r=>by rw[RpL]at r ⊢;exact r
 | d::l,_,h,r=>by
   rw[RpL]at r ⊢
   rw[plBL,Bool.and_eq_true]at h
   obtain⟨x,xs,e,g,q⟩:=r
   exact⟨x,xs,e,Rp.plain hG h.1 g,RpL.plain hG h.2 q⟩
end
end
end
section
variable {K:W.Frag}
set_option maxRecDepth 100000
end
section
section
variable {X:Cx} {a b e:Expr} {fa fb f:Ro->Option D} {pos:Pos} {K:W.Frag}
theorem Yic{M:Model}{A:Around}{E:Value->Shared->Prop}{s:Shared}{Q:Value->Shared->Prop}{v:Value}{k:Bool}(hb:∀id,v≠.builtin id)(h:Q (.bool (!(v==.bool k))) s):wpAny M A (compareOp .IsNot v (.bool k)) Q E s:=by
 cases v<;>first | exact wpAny_pure h | exact absurd rfl (hb _)
def isBl(k:Bool):D->Bool
 | .bl j=>j==k
 | _=>false
def isB(neg:Bool):D->D->Option Bool
 | d,.bl k=>some (isBl k d != neg)
 | _,_=>none
theorem vbl{x:V}{v:Value}(r:RelV x v)(k:Bool):(v==.bool k)=decide (x=.bl k):=by
 cases x with
 | bl j=>
   cases (show v=Value.bool j from r)
   by_cases h:j=k
   ·subst h;simp
   ·simp[h]
 | non=>cases (show v=Value.none from r);rfl
 | int i=>obtain⟨t,rfl⟩:=r;rfl
 | str i=>obtain⟨t,rfl⟩:=r;rfl
 | ref i=>cases (show v=Value.ref i from r);rfl
 | _=>first | (obtain⟨t,rfl⟩:=r;rfl) | (cases r;rfl)
theorem nobl{x:V}{v:Value}(r:RelV x v):∀id,v≠.builtin id:=fun id z=>by
 subst z
 cases x<;>first | (obtain⟨t,h⟩:=r;cases h;done) | (cases r;done)
theorem Yva:OpR X (compareOp .IsNot) (fun x y H Q=>∃k,y=.bl k/\Q (.bl (decide (x=.bl k) != true)) H):=by
 intro pins s σ H x y v u Q I rx ry h
 obtain⟨k,rfl,q⟩:=h
 cases ry
 refine Yic (nobl rx) ⟨_,H,I,?_,q⟩
 rw[vbl rx]
 simp
 rfl
theorem Yvb{G H:Hp}{d:D}{v:V}(r:Ct K G H d v)(k:Bool):decide (v=.bl k)=isBl k d:=by
 cases d with
 | bl j=>
   rw[Ct]at r
   subst r
   by_cases h:j=k
   ·subst h;simp[isBl]
   ·simp[isBl,h]
 | non=>rw[Ct]at r;subst r;simp[isBl]
 | int i=>rw[Ct]at r;subst r;simp[isBl]
 | str i=>rw[Ct]at r;obtain⟨rfl,_⟩:=r;simp[isBl]
 | tup l=>rw[Ct]at r;obtain⟨a,xs,rfl,_⟩:=r;simp[isBl]
 | lst l=>rw[Ct]at r;obtain⟨a,xs,rfl,_⟩:=r;simp[isBl]
 | scr l=>rw[Ct]at r;obtain⟨a,rfl,_⟩:=r;simp[isBl]
 | dct t l m=>rw[Ct]at r;obtain⟨a,xs,ys,rfl,_⟩:=r;simp[isBl]
 | obj t l m=>rw[Ct]at r;obtain⟨a,C,dx,xs,rfl,_⟩:=r;simp[isBl]
 | adr a=>rw[Ct]at r;subst r;simp[isBl]
theorem Yvc{neg:Bool}:Yib K (fun x y H Q=>∃k,y=.bl k/\Q (.bl (decide (x=.bl k) != neg)) H) (isB neg):=by
 intro x y dx dy c H G Q h s rx ry q
 unfold isB at h
 split at h
 ·rename_i k
  cases h
  have e:=Yvb rx k
  rw[Ct]at ry
  subst ry
  exact⟨k,rfl,by rw[e];exact q⟩
 ·cases h
theorem Yvd(ha:MC X a fa)(hb:MC X b fb):MT X (.Compare a [.IsNot] [b] pos) (b2 fa fb (isB true)):=Yfg Yva Yvc ha hb (Yc9 _)
theorem nr2{α:Sort _}{a b:α}(h:a=b):a=b:=h
@[simp] theorem isB_bl(neg:Bool)(d:D)(k:Bool):isB neg d (.bl k)=some (isBl k d != neg):=nr2 rfl
end
end
section
set_option maxRecDepth 100000
def Yto:List D->Option (List (Int × D))
 | []=>some []
 | .tup [.int i,v]::l=>(Yto l).map ((i,v)::·)
 | _=>none
def pairsOf:D->Option (List (Int × D))
 | .lst l=>Yto l
 | _=>none
variable {K:W.Frag}
end
section
def Yve:List Value->List Str->Prop:=Paired fun v k=>(∃t,v=.str k t)/\PyData.strOk k=true
def GT(K:W.Frag)(mg:Str->Option Value)(x:Str)(ks:List Str):Prop:=∃p o its n,mg x=some (.ref p)/\K.lookup p=some o/\o.cls=.type "tuple"/\o.data=.seq its n/\Yve its.toList ks
theorem Yix{h:Heap}:∀{vs:List Value} {ks:List Str},Yve vs ks->∃as,ReadsAll h vs (ks.map PyData.str) as/\PyData.canLayAll0 (ks.map PyData.str)=true
 | _,_,.nil=>⟨_,.nil,by simp[PyData.canLayAll0]⟩
 | _,_,.cons r t=>by
   obtain⟨⟨tk,rfl⟩,hk⟩:=r
   obtain⟨as,h1,h2⟩:=Yix (h:=h) t
   exact⟨_,.cons (.str _ tk) h1,by simp[PyData.canLayAll0,PyData.canLay0,h2,hk]⟩
def inG(neg:Bool)(ks:List Str):D->Option Bool
 | .str k=>some (decide (k∈ks) != neg)
 | _=>none
def rInG(p:Addr)(ks:List Str)(neg:Bool):R2:=fun x y H Q=>∃k,x=.str k/\PyData.strOk k=true/\y=.ref p/\Q (.bl (decide (k∈ks) != neg)) H
theorem Yp2(k:Str):∀ks:List Str,((ks.map PyData.str).any fun y=>PyData.eqv y (.str k))=decide (k∈ks)
 | []=>rfl
 | a::ks=>by
   rw[qz,List.any_cons,Yp2 k ks]
   have e:PyData.eqv (.str a) (.str k)=decide (k=a):=by
    simp only[PyData.eqv]
    rw[show(a==k)=decide (a=k) from rfl]
    exact decide_eq_decide.mpr ⟨fun h=>h.symm,fun h=>h.symm⟩
   rw[e]
   by_cases h:k=a<;>simp[h]
end
section
end
section
set_option maxRecDepth 100000
section
variable {prog:Program} {w:World} {A:Around} {E:Value->Shared->Prop} {s:Shared}
theorem Yl3:isSubtype (.type "set") (.type "set")=pure true:=by rw[isSubtype_type];kernel_rfl
theorem Yvf{vals:List Int}:∀{acc:List Value},acc.length=vals.length->(∀(j:Nat) v,acc[j]?=some v->PInt vals j v)->IntsAre acc vals:=by
 induction vals with
 | nil=>
   intro acc h _
   rw[List.length_eq_zero_iff.mp h]
   exact .nil
 | cons k r ih=>
   intro acc h hp
   match acc,h with
   | v::acc,h=>
     obtain⟨k',t,e1,e2⟩:=hp 0 v rfl
     simp at e1
     subst e1
     subst e2
     refine .cons _ t (ih (by simpa using h) fun j v hj=>?_)
     obtain⟨k',t,e1,e2⟩:=hp (j+1) v (by simpa using hj)
     exact⟨k',t,by simpa using e1,e2⟩
theorem Yl4{a:Addr}{ns:List Int}(hh:A.handled=none)(hS:SetI prog w s.heap a ns){Q:List Value->Shared->Prop}
 (hQ:∀(h':Heap) (d':Drawn) (tk:Nat) (acc:List Value) (vals:List Int),s.heap.objs.size<=h'.objs.size->(∀b o,s.heap.get? b=some o->h'.get? b=some o)->IntsAre acc vals->vals.Perm ns->Q acc { s with heap:=h',drawn:=d',toks:=tk }) :
 wpAny (model prog w) A (collect (.ref a)) Q E s:=by
 obtain⟨o,es,ep,t,ho,hex,hd,_⟩:=id hS
 have hlt:a < s.heap.objs.size:=qk ho
 have hlen:=hS.len
 unfold collect
 refine wpAny_bind (wpAny_runValue (codeAny_builtin F.entry_proto_collect ?_))
 rw[Around.under_plainId F.plain_proto_collect _]
 show wpAny _ A.in1 (newList [] >>= fun l=>again (.builtin "list.__iadd__" ⟨[l,.ref a],[]⟩)) _ _ s
 refine wpAny_bind (wpAny_newObj_type ?_)
 refine wpAny_pure ⟨plainId_quiet F.plain_list_iadd _,codeAny_builtin F.entry_list_iadd ?_⟩
 rw[Around.under_plainId F.plain_list_iadd _]
 generalize hH:s.heap.push { cls:=.type "list",data:=.seq ([]:List Value).toArray }=H
 have hHs:H.objs.size=s.heap.objs.size+1:=by rw[<-hH,Heap.size_push]
 have keepH:∀b o,s.heap.get? b=some o->H.get? b=some o:=fun b o e=>by rw[<-hH];exact qd _ e
 have hL:H.get? s.heap.objs.size=some { cls:=.type "list",data:=.seq ([]:List Value).toArray }:=by rw[<-hH];exact qo _ rfl
 have hoH:=keepH a o ho
 have hT:Shared.TypeIs { s with heap:=H } (.ref a) "set":=⟨o,hoH,hex.1⟩
 have hSI:s.heap.objs.size≠a:=fun z=>by rw[<-z]at hlt;exact absurd hlt (Nat.lt_irrefl _)
 have h1:Builtin.List.listSameRef (.ref s.heap.objs.size) (.ref a)=false:=by simp[Builtin.List.listSameRef,hSI]
 show wpAny _ A.in1 (Builtin.List.listExtendWith (.ref s.heap.objs.size) (.ref a) (.ref s.heap.objs.size)) _ _ _
 unfold Builtin.List.listExtendWith
 refine wpAny_bind (wpAny_typeOf hT ?_)
 have h2:(Value.type "set"==Value.type "list")=false:=by decide
 have h3:(Value.type "set"==Value.type "tuple")=false:=by decide
 simp only[h1,h2,h3,Bool.or_false,Bool.false_eq_true,if_false]
 refine wpAny_bind (Yr3 (s:={ s with heap:=H }) (hS.at fun o e=>keepH a o e) fun h' d' I fp vals St keep hI hIf hfp hp hW hst hty=>?_)
 have ho':=keep a o hoH
 have hT':Shared.TypeIs { s with heap:=h',drawn:=d' } (.ref a) "set":=⟨o,ho',hex.1⟩
 refine wpAny_bind (wpAny_holding ?_)
 unfold Builtin.List.listLengthHint
 refine wpAny_bind (wpAny_specialOf hT' F.slot_set_len.lookup ?_)
 (generalize hid:("set.__len__":String)=id0;(fail_if_success (clear hid id0));wp_delta;rw[show splitId id0=some ("set","__len__") from by subst hid;decide +kernel];subst hid)
 refine wpAny_bind (wpAny_isInstance (b:=true) hT' Yl3 ?_)
 show wpAny _ A.in1 (typeOf (Value.ref a) >>= _) _ _ _
 refine wpAny_bind (wpAny_typeOf hT' ?_)
 refine wpAny_pure ?_
 rw[if_pos (by decide)]
 refine wpAny_bind (wpAny_rule ?_)
 have hSf:s.heap.objs.size∉fp:=fun hm=>by
  rcases(hfp _ hm).2 with z | z
  ·exact hSI z
  ·rw[show({ s with heap:=H }:Shared).heap.objs.size=H.objs.size from rfl,hHs]at z
   exact absurd z (Nat.not_le.mpr (qx _))
 have hS₁:h'.get? s.heap.objs.size=some { cls:=.type "list",data:=.seq ([]:List Value).toArray }:=keep _ _ hL
 refine wpAny_bind ?_
 show wpAny _ A.in1 (updateSeq s.heap.objs.size (·.push .none) >>= fun _=>updateSeq s.heap.objs.size (·.pop)) _ _ _
 refine wpAny_bind (wpAny_updateSeq hS₁ rfl ?_)
 have hS₂:=Heap.get?_update_self (Obj.mapSeq (·.push Value.none)) hS₁ rfl
 refine wpAny_updateSeq hS₂ rfl ?_
 have hS₃:=Heap.get?_update_self (Obj.mapSeq (·.pop)) hS₂ rfl
 have oth:∀b o,b≠s.heap.objs.size->h'.get? b=some o->
  ((h'.update s.heap.objs.size (Obj.mapSeq (·.push Value.none))).update s.heap.objs.size (Obj.mapSeq (·.pop))).get? b=some o:=
  fun b o hb e=>(Heap.get?_update_other _ _ (Ne.symm hb)).trans ((Heap.get?_update_other _ _ (Ne.symm hb)).trans e)
 have W:=(hW A.in1 hh).toS
 refine wpAny_pure ⟨plainId_quiet F.plain_extend_loop _,codeAny_extend_loopS W (fits_of_scanBound hlen) _ hSf _ ns.length 0 _ _ _ rfl (Nat.zero_le _)
  (W.frame 0 ({ s with heap:=h',drawn:=d' }:Shared) _ s.toks hst (qs _) fun b hb o e=>oth b o (fun h=>hSf (h ▸ hb)) e) hS₃ (ItemsOf.nil _) fun s' acc' c' hm hS' hacc=>?_⟩
 show wpAny _ A (load s.heap.objs.size >>= _) _ _ s'
 refine wpAny_bind (wpAny_load hS' ?_)
 have eg:s'.gens=s.gens:=hm.gens
 have ed:s'.drawn=d':=hm.drawn
 have eo:s'.os=s.os:=hm.os
 have es':s'={ s with heap:=s'.heap,drawn:=d',toks:=s'.toks }:=by
  obtain⟨a1,a2,a3,a4,a5⟩:=s'
  simp only at eg ed eo
  subst eg;subst ed;subst eo
  rfl
 rw[es']
 refine wpAny_pure (hQ s'.heap d' s'.toks acc'.toList vals (Nat.le_of_lt (qk hS')) (fun b ob e=>?_) (Yvf (by rw[qi,hacc.1,hp.length_eq]) fun j v hj=>hacc.2 j v (by rw[<-Array.getElem?_toList];exact hj)) hp)
 have hb:b < s.heap.objs.size:=qk e
 refine hm.heap b ob (fun hm'=>?_) (oth b ob (ql hb) (keep b ob (keepH b ob e)))
 rcases qr hm' with z | z
 ·rw[z]at hb;exact absurd hb (Nat.lt_irrefl _)
 ·rw[List.mem_singleton.mp z]at hb
  have:H.objs.size<=I:=hI
  rw[hHs]at this
  exact absurd (Qa hb (Qb (Nat.le_succ _) this)) (Nat.lt_irrefl _)
theorem Yoe{a:Addr}{ns:List Int}(hh:A.handled=none)(hS:SetI prog w s.heap a ns)(h64:ns.length < 64){Q:Value->Shared->Prop}
 (hQ:∀(h':Heap) (d':Drawn) (tk e:Nat) (p:Addr) (out:Array Value) (ns':List Int),(∀b o,s.heap.get? b=some o->h'.get? b=some o)->s.heap.objs.size<=p->h'.get? p=some (seqObj "list" out e)->IntsAre out.toList ns'->ns'.Perm ns->ns'.Pairwise (·<=·)->
  Q (.ref p) { s with heap:=h',drawn:=d',toks:=tk }):wpAny (model prog w) A (call (.builtin "sorted") [.ref a]) Q E s:=by
 refine Calls.call_function_entry kind_sorted plain_sorted entry_sorted (args_sorted1 _) ?_
 unfold Builtin.«sorted»
 refine wpAny_bind (m:=checkCount "sorted" 1 1 _) (wpAny_pure ?_)
 refine wpAny_bind (Yl4 (A:=A.in1) hh hS fun h' d' tk acc vals hle keep hI hp=>?_)
 have hl:acc.length=vals.length:=IntsAre.length hI
 have h64':acc.length < 64:=by rw[hl,hp.length_eq];exact h64
 refine wpAny_bind (wpAny_newList ?_ (by rw[sizeLine_eq];lia))
 have hoL:(h'.push (seqObj "list" acc.toArray 0)).get? h'.objs.size=some (seqObj "list" acc.toArray 0):=qo _ rfl
 show wpAny _ _ _ _ _ { s with heap:=h'.push (seqObj "list" acc.toArray 0),drawn:=d',toks:=tk }
 refine wpAny_bind (wpAny_holding (wpAny_call_entry slot_list_sort ⟨_,hoL,rfl⟩ entry_list_sort (list_sort_tree (s:={ s with heap:=h'.push (seqObj "list" acc.toArray 0),drawn:=d',toks:=tk }) hoL hI h64' fun out ns' a1 a2 a3=>⟨_,rfl,?_⟩) (args_list_sort _)))
 obtain⟨e,he⟩:=sortedHeap_at (n:=0) (out:=out) hoL
 refine wpAny_pure ⟨_,rfl,hQ _ d' tk e h'.objs.size out ns' (fun b o eb=>?_) hle he a1 (a2.trans hp) a3⟩
 have hb:=qk (keep b o eb)
 rw[sortedHeap_old (ql hb) (by rw[size_push'];exact qu hb)]
 exact qd _ (keep b o eb)
end
def setO(P:Program)(w:World)(p:Addr)(ms:List Int):HO:=.ext fun h=>SetI P w h p ms
theorem Yp3{P:Program}{w:World}{H:Hp}{h:Heap}{p:Addr}{ms:List Int}(x:SetI P w h p ms):ObjOk P w H h p (setO P w p ms):=by
 refine⟨x,?_,fun h1 h2 e k=>e.at k⟩
 obtain⟨o,_,_,_,ho,_⟩:=x
 exact⟨o,ho⟩
section
variable {X:Cx} {pins:List (Addr × Obj)} {σ:L2.St} {H:Hp} {s:Shared} {e:Expr} {f:Ro->Option D} {p p2 pos pos2:Pos}
theorem _root_.L2.Inv.dr(I:Inv X pins σ H s)(d':Drawn):Inv X pins σ H { s with drawn:=d' }:=⟨I.ok,I.os,I.bare,I.base,I.loc,I.cell,I.free,I.freeC,I.pin,I.hok,I.len⟩
theorem Yk2{ns:List Int}{us:List Value}(r:Vals (ns.map V.int) us):IntsAre us ns:=Yei r
def y0e(K:W.Frag)(P:Program)(w:World):List V->Hp->VK->Prop:=fun xs H Q=>∃a ns,xs=[.ref a]/\(SqL K H a (ns.map V.int)\/SqT K H a (ns.map V.int))/\ns.length < 4000/\∀p ms,H p=none->ms.Perm (ddup [] ns)->Q (.ref p) (upd H p (setO P w p ms))
theorem Yp4(hc:X.calm=true):Yb9 X (.type "set") (y0e X.K X.prog X.w):=by
 intro pins s σ H xs us Q I r h
 obtain⟨a,ns,rfl,hq,hl,q⟩:=h
 obtain⟨u,rfl,rx⟩:=Yfu r
 cases rx
 have hh:X.A.handled=none:=I.ok.hd hc
 have hsb:scanBound=4096:=rfl
 rcases hq with hq | hq
 ·obtain⟨its,rv,pl,hz⟩:=I.list hq
  have hlen:=rv.length
  rw[qe]at hlen
  refine Yjk hh pl.isList (by simpa using Yk2 rv) (by rw[qj,hsb];lia) fun h' tk ms hS hp hk=>?_
  exact⟨.ref s.heap.objs.size,_,I.laid (t':=tk) (fun b o e=>hk b o (qk e) e) (qs _) (Yp3 hS),rfl,q _ ms (I.hok.fresh (qs _)) hp⟩
 ·obtain⟨its,rv,pl,hz⟩:=I.tuple hq
  have hlen:=rv.length
  rw[qe]at hlen
  refine Yh9 hh pl (by simpa using Yk2 rv) (by rw[qj,hsb];lia) fun h' tk ms hS hp hk=>?_
  exact⟨.ref s.heap.objs.size,_,I.laid (t':=tk) (fun b o e=>hk b o (qk e) e) (qs _) (Yp3 hS),rfl,q _ ms (I.hok.fresh (qs _)) hp⟩
def Yyj(P:Program)(w:World):List V->Hp->VK->Prop:=fun xs H Q=>∃a ms,xs=[.ref a]/\H a=some (setO P w a ms)/\ms.length < 64/\∀p,H p=none->Q (.ref p) (upd H p (.lst ((Yda ms).map V.int)))
theorem Yof(hc:X.calm=true):Yb9 X (.builtin "sorted") (Yyj X.prog X.w):=by
 intro pins s σ H xs us Q I r h
 obtain⟨a,ms,rfl,hq,hl,q⟩:=h
 obtain⟨u,rfl,rx⟩:=Yfu r
 cases rx
 have hh:X.A.handled=none:=I.ok.hd hc
 have hS:SetI X.prog X.w s.heap a ms:=(show ObjOk X.prog X.w H s.heap a (setO X.prog X.w a ms) from I.hok a _ hq).1
 refine Yoe hh hS hl fun h' d' tk e p out ns' keep hp he hI hpm hs=>?_
 have en:ns'=Yda ms:=W.ksm_same (hpm.trans (Ya4 ms).symm) hs (Ya0 ms)
 subst en
 have hn:(Yda ms).length=ms.length:=(Ya4 ms).length_eq
 refine⟨.ref p,_,Inv.laid (t':=tk) (I.dr d') keep hp (show ObjOk X.prog X.w _ _ _ (.lst ((Yda ms).map V.int)) from⟨by rw[qe,hn,sizeLine_eq];lia,out.toList,e,Yfb hI,by rw[Array.toArray_toList];exact he⟩),rfl,q _ (I.hok.fresh hp)⟩
def Yp5(l:List D):Option (List D):=match Ydk l with
 | some ns=>if ns.length < 4000/\(ddup [] ns).length < 64 then some ((Yda (ddup [] ns)).map D.int)else none
 | none=>none
theorem Yjp{a b:List Int}(h:a.Perm b):Yda a=Yda b:=W.ksm_same (((Ya4 a).trans h).trans (Ya4 b).symm) (Ya0 a) (Ya0 b)
def Yfk(f:Ro->Option D):Ro->Option (List D):=fun ρ=>(b1 f Ys ρ).bind Yp5
theorem nr0{α:Sort _}{a b:α}(h:a=b):a=b:=h
@[simp] theorem ap_sortsetF{ρ:Ro}:Yfk f ρ=((f ρ).bind Ys).bind Yp5:=nr0 rfl
theorem Yog(hc:X.calm=true)(hg:Gl X "sorted")(hm:X.mg "sorted"=none)(hg2:Gl X "set")(hm2:X.mg "set"=none)(ha:MC X e f)(hs:starEach [e] X.env=[(false,eval e X.env)]:=by rfl)
 (he:starEach [.Call (.Name "set" p2) [e] [] pos2] X.env=[(false,eval (.Call (.Name "set" p2) [e] [] pos2) X.env)]:=by rfl)
 (hpl:(backTo pos2 (starEach [] X.env)).any (·.1)=false:=by rfl) (hpl2:(backTo pos (starEach [] X.env)).any (·.1)=false:=by rfl) :
 MF X (.Call (.Name "sorted" p) [.Call (.Name "set" p2) [e] [] pos2] [] pos) (Yfk f):=
 PE.imp (Yeh (Yof hc) hg hm boot_sorted (Ybd (Ygz (Yp4 hc) hg2 hm2 boot_set (Ym7 ha Ypm hs) (by decide) (by decide) hs hpl) Ydq he) (by decide) (by decide) he hpl2) fun σ H Q hx_=>by
  obtain⟨ρ,l,H0,G0,G,e,s,h⟩:=hx_
  unfold Yfk at e
  obtain⟨l0,h1,e⟩:=qa e
  obtain⟨d,h2,h3⟩:=Yca h1
  refine tCAof.at (show Yd f aNil ρ=some [d] by simp[Yd,aNil,h2]) s fun vs H1 G1 g1 r1 s1=>?_
  obtain⟨v,rfl,rv⟩:=Ydj r1
  obtain⟨q,xs,rfl,hq,rl⟩:=Ypq (K:=X.K) h3 rv
  unfold Yp5 at e
  split at e
  ·rename_i ns hns
   split at e
   ·rename_i hl
    cases e
    cases Yek hns
    cases Ygl rl
    refine⟨q,ns,rfl,hq,hl.1,fun m ms hm' hp=>?_⟩
    have g2:=Gr.hid s1.seen hm' (setO X.prog X.w m ms)
    have s2:=s1.grow g2
    refine⟨m,ms,rfl,Yo,by rw[hp.length_eq];exact hl.2,fun r hr=>?_⟩
    rw[Yjp hp]
    refine h r _ _ G1 ((g1.trans g2).trans (.hid s2.seen hr _)) ((g1.trans g2).h.free hr) (s2.seen.free hr) Yo (.ints _)
   ·cases e
  ·cases e
end
end
section
def y0f:List Nat:=[8,16,32,64,128]
end
section
end
section
set_option maxRecDepth 100000
end
section
set_option maxRecDepth 100000
section
variable {prog:Program} {w:World} {A:Around} {E:Value->Shared->Prop} {s:Shared}
structure SetQ(w:World)(h:Heap)(a:Addr)(us:List (Int × Addr)):Prop where
 ex:∃o es ep t,h.get? a=some o/\o.ExactSet/\o.data=.set es ep t/\es.toList=us.map (fun u=>(u.1,Value.ref u.2))/\t.fits es.size=true/\t.mask=7/\t.dummies=#[]/\t.place.toList=us.map (fun u=>SetTable.bits u.1 % 8)/\Tab (byT w) t
end
end
section
set_option maxRecDepth 100000
end
section
end
section
set_option maxRecDepth 100000
def advM(mask:Nat)(p:SetTable.Probe):SetTable.Probe:=SetTable.advance { mask:=mask,place:=#[],dummies:=#[],finger:=0,led:=false,moves:=0,plain:=false } p
def itP(mask:Nat):Nat->SetTable.Probe->SetTable.Probe
 | 0,p=>p
 | k+1,p=>itP mask k (advM mask p)
def stP(mask i perturb:Nat):SetTable.Probe:={ j:=i,more:=SetTable.runEnd mask i - i,i,perturb,dummy:=none }
def Way(mask:Nat)(occ:Nat->Prop)(p:SetTable.Probe)(j:Nat):Prop:=∃k,(itP mask k p).j=j/\∀m,m < k->occ (itP mask m p).j
abbrev hSt(mask:Nat)(h:Int):SetTable.Probe:=stP mask (SetTable.bits h % (mask+1)) (SetTable.bits h)
section
variable {t:SetTable} {hA:Nat->Int} {h:Int}
structure Clean(t:SetTable)(n:Nat):Prop where
 hs:t.mask+1∈y0f
 dm:t.dummies=#[]
 rise:Rise t.place
 le:∀j∈t.place.toList,j<=t.mask
 sz:t.place.size=n
 room:n<=t.mask
end
end
section
set_option maxRecDepth 100000
def bI(b:Bool):Int:=if b then 1 else 0
def bH(bs:List Bool):Int:=Yxd (bs.map bI)
def TupB(h:Heap)(u:Addr)(bs:List Bool):Prop:=bs.length<=4/\∃o n,h.get? u=some o/\o.cls=.type "tuple"/\o.data=.seq (bs.map Value.bool).toArray n
structure SetB(w:World)(h:Heap)(S:Addr)(us:List (Addr × List Bool)):Prop where
 ex:∃o es ep t,h.get? S=some o/\o.ExactSet/\o.data=.set es ep t/\es.toList.Perm (us.map fun u=>(bH u.2,Value.ref u.1))/\t.fits es.size=true/\Clean t es.size/\Tab (byT w) t/\es.size * 5 < t.mask * 3/\∀q∈es.toList.zip t.place.toList,Way t.mask (·∈t.place.toList) (hSt t.mask q.1.1) q.2
 keys:(us.map (·.2)).Nodup
 tups:∀u∈us,TupB h u.1 u.2
 few:us.length<=24
end
section
set_option maxRecDepth 100000
section
variable {n:Nat} {key:Nat->Nat} {cmp:Nat->Nat->(Bool->Shared->Prop)->Shared->Prop} {s:Shared}
variable (hinj:∀i j,i < n->j < n->key i=key j->i=j) (hc:∀i j (C:Bool->Shared->Prop),i < n->j < n->C (decide (key i < key j)) s->cmp i j C s)
include hinj hc
omit hinj hc in
omit hinj hc in
omit hinj hc in
end
end
section
section
variable {X:Cx} {e:Expr} {f:Ro->Option D} {p p2 pos pos2:Pos}
def sExp(f:Ro->Option D):Ro->Option Out:=fun ρ=>(f ρ).map fun _=>.nx ρ
theorem Yvg(he:ME X e f)(hse:swapsWith e none pos.line X.env=pure false:=by rfl):MS X (.Expr e pos) (sExp f):=PS.imp (Yft he hse) fun F σ H hx_=>by
 obtain⟨ρ,out,H0,G0,G,e,s,h⟩:=hx_
 obtain⟨d,h1,rfl⟩:=qb e
 exact tOf.at h1 s fun v H1 G1 g1 r1 s1=>h σ H1 G1 s1
end
end
section
set_option maxRecDepth 100000
end
section
structure ZE(X:Cx)(e:Expr)(f:Ro->Option D):Prop where
 un:ME X e f
structure ZC(X:Cx)(e:Expr)(f:Ro->Option D):Prop where
 un:MC X e f
structure ZCA(X:Cx)(es:List Expr)(f:Ro->Option (List D)):Prop where
 un:MCA X es f
structure ZF(X:Cx)(e:Expr)(f:Ro->Option (List D)):Prop where
 un:MF X e f
structure ZT(X:Cx)(e:Expr)(f:Ro->Option Bool):Prop where
 un:MT X e f
structure ZW(X:Cx)(e:Expr)(f:Ro->Option Bool):Prop where
 un:MW X e f
structure ZA(X:Cx)(es:List Expr)(f:Ro->Option (List D)):Prop where
 un:MA X es f
structure ZI(X:Cx)(tg iter:Expr)(f:Ro->Option (List D)):Prop where
 un:MI X tg iter f
structure ZS(X:Cx)(st:Stmt)(f:Ro->Option Out):Prop where
 un:MS X st f
structure ZB(X:Cx)(sts:List Stmt)(f:Ro->Option Out):Prop where
 un:MB X sts f
structure ZG(X:Cx)(tg:Expr)(gt:D->Ro->Option Ro):Prop where
 un:MG X tg gt
structure ZIfs(X:Cx)(K:W.Frag)(ifs:List Expr)(f:Ro->Option Bool):Prop where
 un:PIfs X ifs (tTof K f)
structure ZO(X:Cx)(e:Option Expr)(f:Option (Ro->Option D)):Prop where
 un:PO X e (tO X.K f)
structure ZP(X:Cx)(pos:Pos)(keys:List (Option Expr))(values:List Expr)(ks:List Str)(fs:List (Ro->Option D)):Prop where
 un:MP X pos keys values ks fs
section
variable {K:W.Frag} {X:Cx} {H0 G0 H G:Hp} {σ:L2.St} {ρ:Ro} {a b c e:Expr} {es:List Expr} {fa fb fc f:Ro->Option D} {ga:Ro->Option (List D)} {pos:Pos}
theorem Yc{e:Expr}{f:Ro->Option D}(h:ZE X e f):ZC X e f:=⟨ME.mc h.un⟩
theorem Yh(i:Nat){x:Str}(hN:X.N[i]?=some x:=by rfl)(hv:Vis X.env.scope x:=by first | exact Or.inl rfl | exact Or.inr (Or.inl rfl) | exact Or.inr (Or.inr rfl))(hd:(x==("__debug__":Str))=false:=by decide)(hcd:(x==("__classdict__":Str))=false:=by decide):ZE X (.Name x pos) (getV i):=⟨Yxe i hN hv hd hcd⟩
theorem Ye(i:Nat){x:Str}(hN:X.N[i]?=some x:=by rfl)(hv:Vis X.env.scope x:=by first | exact Or.inl rfl | exact Or.inr (Or.inl rfl) | exact Or.inr (Or.inr rfl))(hd:(x==("__debug__":Str))=false:=by decide)(hcd:(x==("__classdict__":Str))=false:=by decide):ZC X (.Name x pos) (getC i):=⟨Yxf i hN hv hd hcd⟩
theorem Yg{i:Int}{j}:ZE X (.Constant (.int i) j pos) (kD (.int i)):=⟨Yxg ⟩
theorem y0{k:Bool}{j}:ZE X (.Constant (.bool k) j pos) (kD (.bl k)):=⟨Yzw ⟩
theorem Ybe{j}:ZE X (.Constant .none j pos) (kD .non):=⟨Yxh ⟩
theorem Yai{x:Str}{j}(hx:PyData.strOk x=true:=by decide +kernel):ZE X (.Constant (.str x) j pos) (kD (.str x)):=⟨Yxi hx⟩
theorem Yvh(ha:ZC X a fa)(hb:ZC X b fb):ZE X (.BinOp a .Sub b pos) (b2 fa fb subI):=⟨Yxj ha.un hb.un⟩
theorem Yp6(ha:ZC X a fa)(hb:ZC X b fb):ZE X (.BinOp a .Mult b pos) (b2 fa fb mulI):=⟨Yxk ha.un hb.un⟩
theorem Yc4(ha:ZC X a fa)(hb:ZC X b fb):ZE X (.BinOp a .FloorDiv b pos) (b2 fa fb divI):=⟨Yxl ha.un hb.un⟩
theorem Yak(ha:ZC X a fa)(hb:ZC X b fb):ZE X (.BinOp a .Mod b pos) (b2 fa fb modI):=⟨Yxm ha.un hb.un⟩
theorem Yyk(ha:ZC X a fa)(hb:ZC X b fb):ZE X (.Compare a [.Gt] [b] pos) (mB (b2 fa fb gtI)):=⟨Yzy ha.un hb.un⟩
theorem Ytp(ha:ZC X a fa)(hb:ZC X b fb):ZE X (.Compare a [.GtE] [b] pos) (mB (b2 fa fb geI)):=⟨Yzz ha.un hb.un⟩
theorem Yyl(ha:ZC X a fa)(hb:ZC X b fb):ZT X (.Compare a [.Lt] [b] pos) (b2 fa fb ltI):=⟨Yz0 ha.un hb.un⟩
theorem Ytq(ha:ZC X a fa)(hb:ZC X b fb):ZT X (.Compare a [.Gt] [b] pos) (b2 fa fb gtI):=⟨Yz1 ha.un hb.un⟩
theorem Yym(ha:ZC X a fa)(hb:ZC X b fb):ZT X (.Compare a [.GtE] [b] pos) (b2 fa fb geI):=⟨Yz2 ha.un hb.un⟩
theorem Yds(hu:X.A.units+64 < cLine)(ha:ZC X a fa)(hb:ZC X b fb):ZE X (.Compare a [.Eq] [b] pos) (mB (b2 fa fb (eqM false))):=⟨Yz3 hu ha.un hb.un⟩
theorem Yyn(hu:X.A.units+64 < cLine)(ha:ZC X a fa)(hb:ZC X b fb):ZE X (.Compare a [.NotEq] [b] pos) (mB (b2 fa fb (eqM true))):=⟨Yz4 hu ha.un hb.un⟩
theorem Ybi(hu:X.A.units+64 < cLine)(ha:ZC X a fa)(hb:ZC X b fb):ZT X (.Compare a [.Eq] [b] pos) (b2 fa fb (eqM false)):=⟨Yz5 hu ha.un hb.un⟩
theorem Yiy(hu:X.A.units+64 < cLine)(ha:ZC X a fa)(hb:ZC X b fb):ZT X (.Compare a [.NotEq] [b] pos) (b2 fa fb (eqM true)):=⟨Yz6 hu ha.un hb.un⟩
theorem Yp7(hu:X.A.units+64 < cLine)(ha:ZC X a fa)(hb:ZC X b fb)(hm:behindInMarks .NotIn b=false:=by with_unfolding_all rfl):ZT X (.Compare a [.NotIn] [b] pos) (b2 fa fb (inM true)):=⟨Yxn hu ha.un hb.un hm⟩
end
section
variable {K:W.Frag} {X:Cx} {a b c e tg elt iter ie ke:Expr} {es rest ifs elts:List Expr} {fa fb f fe fk:Ro->Option D} {fc fd:Ro->Option Bool} {ga gl:Ro->Option (List D)} {pos p pos' pt px:Pos} {x:Str} {id T:String} {r:List V->Hp->VK->Prop} {g:List D->Option D} {gf:List D->Option (List D)} {st:Stmt} {sts:List Stmt} {fs gs:Ro->Option Out} {scope:Scope} {N:List Str} {src:List (Option Nat)} {gt:D->Ro->Option Ro} {P:Program} {w:World} {mg:Str->Option Value} {base:Heap} {x1:Nat}
theorem Ydz(ha:ZC X a fa)(he:∀whole,isTrue a X.env whole=(do let v <-whole;standAt a.pos;holding [v] (truthy v)):=by intro _;rfl):ZT X a (b1 fa truD):=⟨Yxo ha.un he⟩
theorem Ygn(ha:ZT X a fc):ZW X (.BoolOp .And [a] pos) fc:=⟨Yup ha.un⟩
theorem Yp8(ha:ZT X a fc):ZW X (.BoolOp .Or [a] pos) fc:=⟨Yxp ha.un⟩
theorem Yjq(ha:ZT X a fc)(hb:ZW X (.BoolOp .And (b::rest) pos) fd):ZW X (.BoolOp .And (a::b::rest) pos) (andT fc fd):=⟨Yxr ha.un hb.un⟩
theorem Ytr(ha:ZT X a fc)(hb:ZW X (.BoolOp .Or (b::rest) pos) fd):ZW X (.BoolOp .Or (a::b::rest) pos) (orT fc fd):=⟨Yz7 ha.un hb.un⟩
theorem Yl5(ha:ZT X a fc):ZT X (.UnaryOp .Not a pos) (notT fc):=⟨Yxs ha.un⟩
theorem Ym9(ha:ZE X a fa):ZE X (.BoolOp .And [a] pos) fa:=⟨Yur ha.un⟩
theorem Yp9(ha:ZE X a fa)(hb:ZE X (.BoolOp .And (b::rest) pos) fb):ZE X (.BoolOp .And (a::b::rest) pos) (andV fa fb):=⟨Yxt ha.un hb.un⟩
theorem Yyo(hc:ZT X c fc)(ha:ZE X a fa)(hb:ZE X b fb):ZE X (.IfExp c a b pos) (ifV fc fa fb):=⟨Yz8 hc.un ha.un hb.un⟩
theorem Ysi(ha:ZC X a fa)(hb:ZC X b fb):ZE X (.Compare a [.IsNot] [b] pos) (mB (b2 fa fb (isN true))):=⟨Yut ha.un hb.un⟩
theorem Yhh(ha:ZC X a fa)(hb:ZC X b fb):ZT X (.Compare a [.Is] [b] pos) (b2 fa fb (isN false)):=⟨Yxu ha.un hb.un⟩
theorem Ysj(ha:ZC X a fa)(hb:ZC X b fb):ZT X (.Compare a [.IsNot] [b] pos) (b2 fa fb (isN true)):=⟨Yuu ha.un hb.un⟩
theorem Yu(ha:ZC X a fa)(hb:ZC X b fb)(hs:Yjd b:=by intro _ _;rfl):ZE X (.Subscript a b pos) (b2 fa fb ixD):=⟨Yuv ha.un hb.un hs⟩
theorem Yd0{lo hi:Option Expr}{fl fh:Option (Ro->Option D)}{p2:Pos}(ha:ZC X a fa)(hl:ZO X lo fl)(hh:ZO X hi fh):ZF X (.Subscript a (.Slice lo hi none p2) pos) (slF fa fl fh):=⟨Yr6 ha.un hl.un hh.un⟩
theorem Yna :ZO X none none:=⟨Yz9 ⟩
theorem Yiz(h:ZC X e f):ZO X (some e) (some f):=⟨y0a h.un⟩
theorem Yt{g:Ro->Option (List D)}(h:ZF X e g):ZE X e (lF g):=⟨MF.me h.un⟩
theorem Yi :ZA X [] aNil:=⟨Ytk ⟩
theorem Yb(ha:ZE X e f)(hr:ZA X es ga)(hs:starEach (e::es) X.env=(false,eval e X.env)::starEach es X.env:=by rfl):ZA X (e::es) (Yd f ga):=⟨Ypl ha.un hr.un hs⟩
theorem Yp :ZCA X [] aNil:=⟨Ypm ⟩
theorem Ym(ha:ZC X e f)(hr:ZCA X es ga)(hs:starEach (e::es) X.env=(false,eval e X.env)::starEach es X.env:=by rfl):ZCA X (e::es) (Yd f ga):=⟨Ym7 ha.un hr.un hs⟩
theorem Ye7{x1}(h:ZA X es ga):ZE X (.Tuple es x1 pos) (dTup ga):=⟨Yxx h.un⟩
theorem Yy(h:ZA X es ga):ZF X (.List es pos) (dLst ga):=⟨Yxy h.un⟩
theorem Yz(hc:Yb9 X (.builtin id) r)(hr:SemC X.K r g)(hg:Gl X x)(hm:X.mg x=none)(hv:bootBuiltins x=some (.builtin id))(ha:ZCA X (e::es) ga)(hn:x≠"__name__":=by decide)(hdb:(x==("__debug__":Str))=false:=by decide)(he:starEach (e::es) X.env=(false,eval e X.env)::starEach es X.env:=by rfl)(hpl:(backTo pos (starEach es X.env)).any (·.1)=false:=by rfl):ZE X (.Call (.Name x p) (e::es) [] pos) (cC ga g):=⟨Yr7 hc hr hg hm hv ha.un hn hdb he hpl⟩
theorem Yhi(hc:Yb9 X (.builtin id) r)(hr:SemF X.K r gf)(hg:Gl X x)(hm:X.mg x=none)(hv:bootBuiltins x=some (.builtin id))(ha:ZCA X (e::es) ga)(hn:x≠"__name__":=by decide)(hdb:(x==("__debug__":Str))=false:=by decide)(he:starEach (e::es) X.env=(false,eval e X.env)::starEach es X.env:=by rfl)(hpl:(backTo pos (starEach es X.env)).any (·.1)=false:=by rfl):ZF X (.Call (.Name x p) (e::es) [] pos) (cF ga gf):=⟨Yr8 hc hr hg hm hv ha.un hn hdb he hpl⟩
theorem Yar(hc:Yb9 X (.type T) r)(hr:SemC X.K r g)(hg:Gl X x)(hm:X.mg x=none)(hv:bootBuiltins x=some (.type T))(ha:ZCA X (e::es) ga)(hn:x≠"__name__":=by decide)(hdb:(x==("__debug__":Str))=false:=by decide)(he:starEach (e::es) X.env=(false,eval e X.env)::starEach es X.env:=by rfl)(hpl:(backTo pos (starEach es X.env)).any (·.1)=false:=by rfl):ZE X (.Call (.Name x p) (e::es) [] pos) (cC ga g):=⟨Ypo hc hr hg hm hv ha.un hn hdb he hpl⟩
theorem Yel(hc:Yb9 X (.type T) r)(hr:SemF X.K r gf)(hg:Gl X x)(hm:X.mg x=none)(hv:bootBuiltins x=some (.type T))(ha:ZCA X (e::es) ga)(hn:x≠"__name__":=by decide)(hdb:(x==("__debug__":Str))=false:=by decide)(he:starEach (e::es) X.env=(false,eval e X.env)::starEach es X.env:=by rfl)(hpl:(backTo pos (starEach es X.env)).any (·.1)=false:=by rfl):ZF X (.Call (.Name x p) (e::es) [] pos) (cF ga gf):=⟨Ypp hc hr hg hm hv ha.un hn hdb he hpl⟩
theorem Yaq :ZB X [] sNil:=⟨Yxz ⟩
theorem Yl(h1:ZS X st fs)(h2:ZB X sts gs):ZB X (st::sts) (sSeq fs gs):=⟨Yux h1.un h2.un⟩
theorem Yq(h1:ZS X st fs):ZB X [st] fs:=⟨Yx0 h1.un⟩
theorem Yl6(is:List Nat)(h:ZS X st fs):ZS X st (wF is fs):=⟨Yx1 is h.un⟩
theorem Ya1(i:Nat){x:Str}(hN:X.N.Nodup)(he:ZE X e f)(hi:X.N[i]?=some x:=by rfl)(hx:Loc X.env.scope x:=by first | exact Or.inl rfl | exact Or.inr rfl)(hs:swapsWith e (some (.Name x pos')) pos.line X.env=pure false:=by rfl)(hf:X.fn x=true\/X.env.scope.names.lookup x=some .local:=by first | exact .inl rfl | exact .inr rfl):ZS X (.Assign [.Name x pos'] e pos) (sSet i f):=⟨Yx4 i hN he.un hi hx hs hf⟩
theorem Ya2(i:Nat){x:Str}(hN:X.N.Nodup)(he:ZF X e gl)(hi:X.N[i]?=some x:=by rfl)(hx:Loc X.env.scope x:=by first | exact Or.inl rfl | exact Or.inr rfl)(hs:swapsWith e (some (.Name x pos')) pos.line X.env=pure false:=by rfl)(hf:X.fn x=true\/X.env.scope.names.lookup x=some .local:=by first | exact .inl rfl | exact .inr rfl):ZS X (.Assign [.Name x pos'] e pos) (sOwn i gl):=⟨Yx5 i hN he.un hi hx hs hf⟩
theorem Yx(he:ZE X e f):ZS X (.Return (some e) pos) (sRet f):=⟨Yx6 he.un⟩
theorem Yba{c:Expr}{a b:List Stmt}{fc:Ro->Option Bool}(hc:ZT X c fc)(ha:ZB X a fs)(hb:ZB X b gs):ZS X (.If c a b pos) (sIf fc fs gs):=⟨y0b hc.un ha.un hb.un⟩
theorem Yf0(i:Nat){x:Str}{p2 apos cpos:Pos}(he:ZE X e f)(hN:X.N[i]?=some x:=by rfl)(hv:Vis X.env.scope x:=by first | exact Or.inl rfl | exact Or.inr (Or.inl rfl) | exact Or.inr (Or.inr rfl))(hd:(x==("__debug__":Str))=false:=by decide)(hcd:(x==("__classdict__":Str))=false:=by decide)(hse:swapsWith (.Call (.Attribute (.Name x p2) "append" apos) [e] [] cpos) none pos.line X.env=pure false:=by rfl)(hs:starEach [e] X.env=[(false,eval e X.env)]:=by rfl)(hfew:((backTo cpos (starEach [e] X.env)).all (fun x=>!x.1)&&(backToKw cpos (keywordEach [] X.env)).all (fun x=>x.1.isSome)&&decide ([e].length+([]:List Keyword).length+(if ([]:List Keyword).isEmpty then 0 else 1) < 30))=true:=by rfl)(hline:(apos.endLine==cpos.line)=true:=by rfl)(hbase:attributeBase (.Name x p2) "append" X.env (eval (.Name x p2) X.env)=eval (.Name x p2) X.env:=by rfl):ZS X (.Expr (.Call (.Attribute (.Name x p2) "append" apos) [e] [] cpos) pos) (sMut i f appD):=⟨Ypr i he.un hN hv hd hcd hse hs hfew hline hbase⟩
theorem Ybj{l:Expr}(hl:ZE X l f):ZI X tg l (b1 f Ys):=⟨Yx8 hl.un⟩
theorem Ydb{a:Expr}{ga:Ro->Option (List D)}{p:Pos}(hg:Gl X "range")(hm:X.mg "range"=none)(ha:ZA X [a] ga)(hs:starEach [a] X.env=[(false,eval a X.env)]:=by rfl):ZI X tg (.Call (.Name "range" p) [a] [] pos) (cF ga rng1):=⟨Ypt hg hm ha.un hs⟩
theorem Yaj(i:Nat){x:Str}(hN:X.N.Nodup)(hi:X.N[i]?=some x:=by rfl)(hx:Loc X.env.scope x:=by first | exact Or.inl rfl | exact Or.inr rfl)(hf:X.fn x=true\/X.env.scope.names.lookup x=some .local:=by first | exact .inl rfl | exact .inr rfl):ZG X (.Name x pos) (gSet i):=⟨Yuy i hN hi hx hf⟩
theorem Ysk(i j:Nat){x y:Str}{px py:Pos}{k:Nat}(hc:X.calm=true)(hN:X.N.Nodup)(hi:X.N[i]?=some x:=by rfl)(hj:X.N[j]?=some y:=by rfl)(hx:Loc X.env.scope x:=by first | exact Or.inl rfl | exact Or.inr rfl)(hy:Loc X.env.scope y:=by first | exact Or.inl rfl | exact Or.inr rfl)(hf:X.fn x=true\/X.env.scope.names.lookup x=some .local:=by first | exact .inl rfl | exact .inr rfl)(hf2:X.fn y=true\/X.env.scope.names.lookup y=some .local:=by first | exact .inl rfl | exact .inr rfl):ZG X (.Tuple [.Name x px,.Name y py] k pos) (Yl1 i j):=⟨Yuz i j hc hN hi hj hx hy hf hf2⟩
theorem Yjr{iter:Expr}{body:List Stmt}{gt:D->Ro->Option Ro}(hp:PassesOwn (model X.prog X.w) X.A X.env X.xe)(hc:X.calm=true)(hi:ZI X tg iter gl)(hg:ZG X tg gt)(hb:ZB X body fs)(hs:∀x,foldedSetIterable iter X.env x=pure x:=by intro _;rfl):ZS X (.For tg iter body [] pos) (sFor gl gt fs):=⟨Yya hp hc hi.un hg.un hb.un hs⟩
theorem Ycb :ZIfs X X.K [] tY:=⟨Yyb ⟩
theorem Ybc(S:CompSc X.N X.env.scope N src scope)(hc:X.calm=true)(hit:ZI X tg iter gl)(hg:∀cl C fp s H,ZG (Yal X scope N cl C fp s H) tg gt)(hi:∀cl C fp s H,ZIfs (Yal X scope N cl C fp s H) X.K ifs fc)(he:∀cl C fp s H,ZE (Yal X scope N cl C fp s H) elt fe)(hle:∀ρ d ρ1,gt d (capR src ρ)=some ρ1->Le (capR src ρ) ρ1)(hs:∀x,foldedSetIterable iter X.env x=pure x:=by intro _;rfl):ZF X (.ListComp elt [⟨tg,iter,ifs,0⟩] scope pos) (Yc3 gl src gt fc fe):=⟨Yu1 S hc hit.un (fun cl C fp s H=>(hg cl C fp s H).un) (fun cl C fp s H=>(hi cl C fp s H).un) (fun cl C fp s H=>(he cl C fp s H).un) hle hs⟩
theorem Ynb(i:Nat){y:Str}{py spos:Pos}(hN:X.N.Nodup)(S:CompSc X.N X.env.scope N src scope)(hc:X.calm=true)(hit:ZI X tg iter gl)(hg:∀cl C fp s H,ZG (Yal X scope N cl C fp s H) tg gt)(hi:∀cl C fp s H,ZIfs (Yal X scope N cl C fp s H) X.K ifs fc)(he:∀cl C fp s H,ZE (Yal X scope N cl C fp s H) elt fe)(hle:∀ρ d ρ1,gt d (capR src ρ)=some ρ1->Le (capR src ρ) ρ1)(hsw:swapsWith (.ListComp elt [⟨tg,iter,ifs,0⟩] scope pos) (some (.Name y py)) spos.line X.env=pure true:=by rfl)(hy:X.N[i]?=some y:=by rfl)(hx:Loc X.env.scope y:=by first | exact Or.inl rfl | exact Or.inr rfl)(hf:X.fn y=true\/X.env.scope.names.lookup y=some .local:=by first | exact .inl rfl | exact .inr rfl)(hs:∀x,foldedSetIterable iter X.env x=pure x:=by intro _;rfl):ZS X (.Assign [.Name y py] (.ListComp elt [⟨tg,iter,ifs,0⟩] scope pos) spos) (sOwn i (Yc3 gl src gt fc fe)):=⟨Yu2 i hN S hc hit.un (fun cl C fp s H=>(hg cl C fp s H).un) (fun cl C fp s H=>(hi cl C fp s H).un) (fun cl C fp s H=>(he cl C fp s H).un) hle hsw hy hx hf hs⟩
theorem Yf1{x qual:Str}{st:Stmt}{f:Addr}{fd:FuncData}{N ps:List Str}{k n m:Nat}{fb:Ro->Option Out}(F:Fun K x qual st f fd)(S:FnScope N ps (defScope st))(hn:N.length=n)(hm:ps.length=m)(hb:∀(cdv:Value) (A:Around) (outer:List Env) (s:Shared) (H:Hp) (E:XK),Room k (A.deeper (envOfC qual (defScope st) s.heap.objs.size f cdv))->ZB (cxOf CX0 P w K mg base N qual (defScope st) f cdv A outer s H E).nox (defBody st) fb):FnOk P w K mg base CX0 (k+1) f fd ps (spOf K m (runB m n fb)):=Ypv F S hn hm (fun cdv A outer s H E hr=>(hb cdv A outer s H E hr).un)
theorem Yn{j k n:Nat}{x:Str}{p:Pos}{ps:List Str}{fn:List D->Option D}(c:Okf X.prog X.w X.K X.mg X.base j n x ps fn)(hr:Room k X.A)(hg:Gl X x)(ha:ZA X (e::es) ga)(hl:∀ρ l,ga ρ=some l->l.length=n)(hj:j<=k:=by first | exact qs _ | lia)(hdb:(x==("__debug__":Str))=false:=by decide)(he:starEach (e::es) X.env=(false,eval e X.env)::starEach es X.env:=by rfl)(hpl:(backTo pos (starEach es X.env)).any (·.1)=false:=by rfl):ZE X (.Call (.Name x p) (e::es) [] pos) (cC ga fn):=⟨Ysc c hr hg ha.un hl hj hdb he hpl⟩
theorem Yhj(ha:ZC X a fa)(hb:ZC X b fb):ZE X (.BinOp a .Add b pos) (b2 fa fb addI):=⟨Yyd ha.un hb.un⟩
theorem Yl7(ha:ZC X a fa):ZE X (.UnaryOp .USub a pos) (b1 fa negI):=⟨Yye ha.un⟩
theorem Ybk(ha:ZC X a fa)(hb:ZC X b fb):ZF X (.BinOp a .Add b pos) (b2 fa fb catD):=⟨Yyf ha.un hb.un⟩
theorem Yvi{T:String}{tn:Str}{p p2:Pos}(ha:ZC X a fa)(hg:Gl X "isinstance")(hg2:Gl X tn)(hm:X.mg "isinstance"=none)(hm2:X.mg tn=none)(hv2:bootBuiltins tn=some (.type T))(hk:Kit T)(hv:bootBuiltins "isinstance"=some (.builtin "isinstance"):=by decide +kernel)(hn2:tn≠"__name__":=by decide)(hd2:(tn==("__debug__":Str))=false:=by decide)(hs:starEach [a,.Name tn p2] X.env=(false,eval a X.env)::starEach [.Name tn p2] X.env:=by rfl)(hs2:starEach [.Name tn p2] X.env=(false,eval (.Name tn p2) X.env)::starEach [] X.env:=by rfl)(hpl:(backTo pos (starEach [.Name tn p2] X.env)).any (·.1)=false:=by rfl):ZE X (.Call (.Name "isinstance" p) [a,.Name tn p2] [] pos) (mB (b1 fa (isiD T))):=⟨Yyg ha.un hg hg2 hm hm2 hv2 hk hv hn2 hd2 hs hs2 hpl⟩
theorem Yjs{l:Expr}{f:Ro->Option D}{p:Pos}(hg:Gl X "enumerate")(hm:X.mg "enumerate"=none)(hl:ZE X l f)(hs:starEach [l] X.env=[(false,eval l X.env)]:=by rfl):ZI X (.Tuple elts x1 pt) (.Call (.Name "enumerate" p) [l] [] pos) (b1 f Ysf):=⟨Yk1 hg hm hl.un hs⟩
theorem Yoh(i:Nat){x:Str}{p2 apos cpos:Pos}(he:ZE X e f)(hN:X.N[i]?=some x:=by rfl)(hv:Vis X.env.scope x:=by first | exact Or.inl rfl | exact Or.inr (Or.inl rfl) | exact Or.inr (Or.inr rfl))(hd:(x==("__debug__":Str))=false:=by decide)(hcd:(x==("__classdict__":Str))=false:=by decide)(hse:swapsWith (.Call (.Attribute (.Name x p2) "extend" apos) [e] [] cpos) none pos.line X.env=pure false:=by rfl)(hs:starEach [e] X.env=[(false,eval e X.env)]:=by rfl)(hfew:((backTo cpos (starEach [e] X.env)).all (fun x=>!x.1)&&(backToKw cpos (keywordEach [] X.env)).all (fun x=>x.1.isSome)&&decide ([e].length+([]:List Keyword).length+(if ([]:List Keyword).isEmpty then 0 else 1) < 30))=true:=by rfl)(hline:(apos.endLine==cpos.line)=true:=by rfl)(hbase:attributeBase (.Name x p2) "extend" X.env (eval (.Name x p2) X.env)=eval (.Name x p2) X.env:=by rfl):ZS X (.Expr (.Call (.Attribute (.Name x p2) "extend" apos) [e] [] cpos) pos) (sMut i f extD):=⟨Yp1 i he.un hN hv hd hcd hse hs hfew hline hbase⟩
theorem Ync{i:Int}(g:GI X.mg x i)(hg:Gl X x)(hd:(x==("__debug__":Str))=false:=by decide):ZE X (.Name x px) (kD (.int i)):=⟨Yu9 g hg hd⟩
end
section
variable {X:Cx} {a b c e:Expr} {fa fb fc f:Ro->Option D} {pos:Pos} {st:Stmt} {K:W.Frag}
theorem Yd1 :ZS X st nS:=⟨Ysg ⟩
theorem Yem(ha:ZC X a fa)(hb:ZC X b fb):ZT X (.Compare a [.IsNot] [b] pos) (b2 fa fb (isB true)):=⟨Yvd ha.un hb.un⟩
end
theorem Ynd{X:Cx}{c:Expr}{f:Ro->Option Bool}(h:ZT X c f):ZIfs X X.K [c] f:=⟨Yuf h.un⟩
theorem Yi0{X:Cx}{e:Expr}{f:Ro->Option Bool}(h:ZW X e f):ZT X e f:=⟨PW.pt h.un⟩
end
section
section
variable {X:Cx} {e:Expr} {f:Ro->Option D} {p p2 pos pos2:Pos}
theorem Yl8(hc:X.calm=true)(hg:Gl X "sorted")(hm:X.mg "sorted"=none)(hg2:Gl X "set")(hm2:X.mg "set"=none)(ha:ZC X e f)(hs:starEach [e] X.env=[(false,eval e X.env)]:=by rfl)(he:starEach [.Call (.Name "set" p2) [e] [] pos2] X.env=[(false,eval (.Call (.Name "set" p2) [e] [] pos2) X.env)]:=by rfl)(hpl:(backTo pos2 (starEach [] X.env)).any (·.1)=false:=by rfl)(hpl2:(backTo pos (starEach [] X.env)).any (·.1)=false:=by rfl):ZF X (.Call (.Name "sorted" p) [.Call (.Name "set" p2) [e] [] pos2] [] pos) (Yfk f):=⟨Yog hc hg hm hg2 hm2 ha.un hs he hpl hpl2⟩
theorem Ysl(he:ZE X e f)(hse:swapsWith e none pos.line X.env=pure false:=by rfl):ZS X (.Expr e pos) (sExp f):=⟨Yvg he.un hse⟩
end
end
section
variable {K:W.Frag}
def y0g(K:W.Frag)(j:Nat)(x:Option (Option V))(H0 G0:Hp)(F:Ends):Out->Prop
 | .nx ρ'=>∀σ' H' G',SR K H0 G0 σ' H' G' ρ'->σ'[j]?=x->F.nx σ' H'
 | .rt _=>False
 | .bk ρ'=>∀σ' H' G',SR K H0 G0 σ' H' G' ρ'->σ'[j]?=x->F.bk σ' H'
 | .ct ρ'=>∀σ' H' G',SR K H0 G0 σ' H' G' ρ'->σ'[j]?=x->F.ct σ' H'
def sOfK(K:W.Frag)(j:Nat)(f:Ro->Option Out):TS:=fun F σ H=>∃ρ out H0 G0 G,f ρ=some out/\SR K H0 G0 σ H G ρ/\y0g K j σ[j]? H0 G0 F out
structure KS(j:Nat)(X:Cx)(st:Stmt)(f:Ro->Option Out):Prop where
 un:PS X st (sOfK X.K j f)
structure KB(j:Nat)(X:Cx)(sts:List Stmt)(f:Ro->Option Out):Prop where
 un:PSs X sts (sOfK X.K j f)
def sOfR(K:W.Frag)(j r:Nat)(fb:Ro->Option Out):TS:=fun F σ H=>∃ρ ρ' l d H0 G0 G,fb ρ=some (.nx ρ')/\getO j ρ'=some l/\getV r (frz [r] ρ')=some d/\SR K H0 G0 σ H G ρ/\
 ∀v σ' H' G',SR K H0 G0 σ' H' G' (frz [r] ρ')->σ'[j]?=σ[j]?->Rp K G' d v->F.rt v H'
structure KR(j r:Nat)(X:Cx)(sts:List Stmt)(f:Ro->Option Out):Prop where
 un:PSs X sts (sOfR X.K j r f)
def sOfL(K:W.Frag)(gl:Ro->Option (List D))(fb:Ro->Option Out):TS:=fun F σ H=>∃ρ ρ' l H0 G0 G,fb ρ=some (.nx ρ')/\gl ρ'=some l/\SR K H0 G0 σ H G ρ/\
 ∀p xs H' G',Gr H0 G0 H' G'->H0 p=none->G' p=none->H' p=some (.lst xs)->RpL K G' l xs->F.rt (.ref p) H'
structure KL(gl:Ro->Option (List D))(X:Cx)(sts:List Stmt)(f:Ro->Option Out):Prop where
 un:PSs X sts (sOfL X.K gl f)
theorem len1{us:List Value}(h:us.length=1):∃a0,us=[a0]:=List.length_eq_one_iff.mp h
theorem len2{us:List Value}(h:us.length=2):∃a0 a1,us=[a0,a1]:=by
 cases us with
 | nil=>cases h
 | cons a us=>
   obtain⟨b0,rfl⟩:=len1 (Nat.succ.inj h)
   exact⟨a,b0,rfl⟩
theorem len3{us:List Value}(h:us.length=3):∃a0 a1 a2,us=[a0,a1,a2]:=by
 cases us with
 | nil=>cases h
 | cons a us=>
   obtain⟨b0,b1,rfl⟩:=len2 (Nat.succ.inj h)
   exact⟨a,b0,b1,rfl⟩
theorem len4{us:List Value}(h:us.length=4):∃a0 a1 a2 a3,us=[a0,a1,a2,a3]:=by
 cases us with
 | nil=>cases h
 | cons a us=>
   obtain⟨b0,b1,b2,rfl⟩:=len3 (Nat.succ.inj h)
   exact⟨a,b0,b1,b2,rfl⟩
theorem len5{us:List Value}(h:us.length=5):∃a0 a1 a2 a3 a4,us=[a0,a1,a2,a3,a4]:=by
 cases us with
 | nil=>cases h
 | cons a us=>
   obtain⟨b0,b1,b2,b3,rfl⟩:=len4 (Nat.succ.inj h)
   exact⟨a,b0,b1,b2,b3,rfl⟩
theorem len6{us:List Value}(h:us.length=6):∃a0 a1 a2 a3 a4 a5,us=[a0,a1,a2,a3,a4,a5]:=by
 cases us with
 | nil=>cases h
 | cons a us=>
   obtain⟨b0,b1,b2,b3,b4,rfl⟩:=len5 (Nat.succ.inj h)
   exact⟨a,b0,b1,b2,b3,b4,rfl⟩
theorem len7{us:List Value}(h:us.length=7):∃a0 a1 a2 a3 a4 a5 a6,us=[a0,a1,a2,a3,a4,a5,a6]:=by
 cases us with
 | nil=>cases h
 | cons a us=>
   obtain⟨b0,b1,b2,b3,b4,b5,rfl⟩:=len6 (Nat.succ.inj h)
   exact⟨a,b0,b1,b2,b3,b4,b5,rfl⟩
end
end M
namespace M
open PySem L2
theorem nr{α:Sort _}{a b:α}(h:a=b):a=b:=h
section
variable {ρ:Ro}
@[simp] theorem ap_b2{α:Type}(fa fb:Ro->Option D)(g:D->D->Option α):b2 fa fb g ρ=(fa ρ).bind fun x=>(fb ρ).bind fun y=>g x y:=nr rfl
@[simp] theorem Yyp{α:Type}(fa:Ro->Option D)(g:D->Option α):b1 fa g ρ=(fa ρ).bind g:=nr rfl
@[simp] theorem ap_kD(d:D):kD d ρ=some d:=nr rfl
@[simp] theorem ap_mB(f:Ro->Option Bool):mB f ρ=(f ρ).map D.bl:=nr rfl
@[simp] theorem ap_andT(f g:Ro->Option Bool):andT f g ρ=(f ρ).bind fun k=>if k=true then g ρ else some false:=nr rfl
@[simp] theorem ap_orT(f g:Ro->Option Bool):orT f g ρ=(f ρ).bind fun k=>if k=true then some true else g ρ:=nr rfl
@[simp] theorem ap_notT(f:Ro->Option Bool):notT f ρ=(f ρ).map (!·):=nr rfl
@[simp] theorem ap_andV(f g:Ro->Option D):andV f g ρ=((f ρ).bind blD).bind fun k=>if k=true then g ρ else some (.bl false):=nr rfl
@[simp] theorem ap_ifV(c:Ro->Option Bool)(f g:Ro->Option D):ifV c f g ρ=(c ρ).bind fun k=>if k=true then f ρ else g ρ:=nr rfl
@[simp] theorem ap_lF(f:Ro->Option (List D)):lF f ρ=(f ρ).map D.lst:=nr rfl
@[simp] theorem ap_aNil:aNil ρ=some []:=nr rfl
@[simp] theorem ap_aCons(f:Ro->Option D)(g:Ro->Option (List D)):Yd f g ρ=(f ρ).bind fun d=>(g ρ).map (d::·):=nr rfl
@[simp] theorem ap_dTup(f:Ro->Option (List D)):dTup f ρ=(f ρ).bind fun l=>if l.length<=cap6 then some (.tup l)else none:=nr rfl
@[simp] theorem ap_dLst(f:Ro->Option (List D)):dLst f ρ=(f ρ).bind fun l=>if l.length<=cap6 then some l else none:=nr rfl
@[simp] theorem ap_cC(f:Ro->Option (List D))(g:List D->Option D):cC f g ρ=(f ρ).bind g:=nr rfl
@[simp] theorem ap_cF(f:Ro->Option (List D))(g:List D->Option (List D)):cF f g ρ=(f ρ).bind g:=nr rfl
@[simp] theorem ap_slF(f:Ro->Option D)(lo hi:Option (Ro->Option D)):slF f lo hi ρ=((f ρ).bind lstD).bind fun l=>(optI lo ρ).bind fun i=>(optI hi ρ).bind fun j=>some (cutD l i j):=nr rfl
@[simp] theorem ap_optN:optI none ρ=some none:=nr rfl
@[simp] theorem ap_optS(f:Ro->Option D):optI (some f) ρ=((f ρ).bind intD).map some:=nr rfl
@[simp] theorem ap_sNil:sNil ρ=some (.nx ρ):=nr rfl
@[simp] theorem ap_sSet(i:Nat)(f:Ro->Option D):sSet i f ρ=(f ρ).map fun d=>.nx (ρ.set i (some (.sh d))):=nr rfl
@[simp] theorem ap_sOwn(i:Nat)(f:Ro->Option (List D)):sOwn i f ρ=(f ρ).map fun l=>.nx (ρ.set i (some (.ow l))):=nr rfl
@[simp] theorem ap_sRet(f:Ro->Option D):sRet f ρ=(f ρ).map .rt:=nr rfl
@[simp] theorem ap_sIf(c:Ro->Option Bool)(f g:Ro->Option Out):sIf c f g ρ=(c ρ).bind fun k=>if k=true then f ρ else g ρ:=nr rfl
@[simp] theorem ap_sMut(i:Nat)(f:Ro->Option D)(g:List D->D->Option (List D)):sMut i f g ρ=(getO i ρ).bind fun l=>(f ρ).bind fun d=>(g l d).map fun l'=>.nx (ρ.set i (some (.ow l'))):=nr rfl
@[simp] theorem ap_sFor(gl:Ro->Option (List D))(gt:D->Ro->Option Ro)(fb:Ro->Option Out):sFor gl gt fb ρ=(gl ρ).bind fun ds=>forM gt fb ds ρ:=nr rfl
@[simp] theorem ap_fComp(gl:Ro->Option (List D))(src:List (Option Nat))(gt:D->Ro->Option Ro)(fc:Ro->Option Bool)(fe:Ro->Option D):Yc3 gl src gt fc fe ρ=(gl ρ).bind fun ds=>Ye5 gt fc fe (capR src ρ) ds:=nr rfl
@[simp] theorem ap_wF(is:List Nat)(f:Ro->Option Out):wF is f ρ=f (frz is ρ):=nr rfl
@[simp] theorem ap_tY:tY ρ=some true:=nr rfl
@[simp] theorem ap_gSet(i:Nat)(d:D):gSet i d ρ=some (ρ.set i (some (.sh d))):=nr rfl
def Yvj(g:Ro->Option Out):Out->Option Out
 | .nx ρ'=>g ρ'
 | o=>some o
@[simp] theorem thenS_nx(g:Ro->Option Out)(ρ':Ro):Yvj g (.nx ρ')=g ρ':=nr rfl
@[simp] theorem thenS_rt(g:Ro->Option Out)(d:D):Yvj g (.rt d)=some (.rt d):=nr rfl
@[simp] theorem Ye8(f g:Ro->Option Out):sSeq f g ρ=(f ρ).bind (Yvj g):=nr rfl
def endB:Out->Option D
 | .rt d=>some d
 | .nx _=>some .non
 | _=>none
@[simp] theorem endB_rt(d:D):endB (.rt d)=some d:=nr rfl
@[simp] theorem endB_nx(ρ:Ro):endB (.nx ρ)=some .non:=nr rfl
theorem Yaw{k n:Nat}{fb:Ro->Option Out}{ds:List D}(h:ds.length=k):runB k n fb ds=(fb (Yr n ds)).bind endB:=by
 unfold runB
 rw[if_pos h]
 rfl
@[simp] theorem frz_nil:frz [] ρ=ρ:=nr rfl
@[simp] theorem frz_cons(i:Nat)(is:List Nat):frz (i::is) ρ=frz is (frz1 i ρ):=nr rfl
end
@[simp] theorem add_int'(i j:Int):addI (.int i) (.int j)=some (.int (i+j)):=nr rfl
@[simp] theorem sub_int'(i j:Int):subI (.int i) (.int j)=some (.int (i - j)):=nr rfl
theorem Yne{i j:Int}(h:-(2 ^ 64) < i/\i < 2 ^ 64):mulI (.int i) (.int j)=some (.int (i * j)):=by
 simp only[mulI,i2]
 rw[if_pos]
 simp only[Bool.or_eq_true,Bool.and_eq_true,decide_eq_true_eq]
 exact .inl h
@[simp] theorem Ynf{i j:Int}(h:0 < j)(h':j < 1073741824):divI (.int i) (.int j)=some (.int (i / j)):=by
 simp only[divI,i2]
 rw[if_pos]
 simp only[Bool.and_eq_true,decide_eq_true_eq]
 exact⟨h,h'⟩
@[simp] theorem Yhk{i j:Int}(h:0 < j):modI (.int i) (.int j)=some (.int (i % j)):=by
 simp only[modI,i2]
 rw[if_pos]
 simp only[decide_eq_true_eq]
 exact h
@[simp] theorem lt_int'(i j:Int):ltI (.int i) (.int j)=some (decide (i < j)):=nr rfl
@[simp] theorem gt_int'(i j:Int):gtI (.int i) (.int j)=some (decide (j < i)):=nr rfl
@[simp] theorem ge_int'(i j:Int):geI (.int i) (.int j)=some (decide (j<=i)):=nr rfl
@[simp] theorem blD_bl(b:Bool):blD (.bl b)=some b:=nr rfl
@[simp] theorem truD_bl(b:Bool):truD (.bl b)=some b:=nr rfl
@[simp] theorem itemsOf_tup(l:List D):Ys (.tup l)=some l:=nr rfl
@[simp] theorem itemsOf_lst(l:List D):Ys (.lst l)=some l:=nr rfl
@[simp] theorem itemsOf_scr(ns:List Int):Ys (.scr ns)=some (ns.map D.int):=nr rfl
@[simp] theorem lenC_one(c:D):lenC [c]=(Ys c).map fun l=>.int l.length:=nr rfl
@[simp] theorem tupC_one(c:D):tupC [c]=(Ys c).map D.tup:=nr rfl
@[simp] theorem listF_one(c:D):Yn8 [c]=Ys c:=nr rfl
@[simp] theorem intC_bl(b:Bool):intC [.bl b]=some (.int (if b then 1 else 0)):=nr rfl
@[simp] theorem ixD_int(c:D)(i:Int):ixD c (.int i)=(Ys c).bind fun l=>atI l i:=nr rfl
@[simp] theorem lstD_lst(l:List D):lstD (.lst l)=some l:=nr rfl
@[simp] theorem lstD_scr(ns:List Int):lstD (.scr ns)=some (ns.map D.int):=nr rfl
@[simp] theorem intD_int(i:Int):intD (.int i)=some i:=nr rfl
@[simp] theorem negI_int(i:Int):negI (.int i)=some (.int (-i)):=nr rfl
@[simp] theorem Yqa(i j:Int):eqD (.int i) (.int j)=(i==j):=by simp[eqD,toPy,PyData.eqv]
@[simp] theorem Yts(i j:Bool):eqD (.bl i) (.bl j)=(i==j):=by simp[eqD,toPy,PyData.eqv]
@[simp] theorem Yvk(i j:Str):eqD (.str i) (.str j)=(i==j):=by simp[eqD,toPy,PyData.eqv]
@[simp] theorem Yqb(l m:List D):eqD (.tup l) (.tup m)=eqL l m:=by simp[eqD,eqL,toPy,PyData.eqv]
@[simp] theorem Yvl:eqL [] []=true:=by simp[eqL,Ycv,PyData.eqvAll]
@[simp] theorem Yng(a b:D)(l m:List D):eqL (a::l) (b::m)=(eqD a b&&eqL l m):=by simp[eqL,eqD,Ycv,PyData.eqvAll]
@[simp] theorem dep_int(i:Int):dep (.int i)=0:=by simp[dep]
@[simp] theorem dep_bl(i:Bool):dep (.bl i)=0:=by simp[dep]
@[simp] theorem dep_str(i:Str):dep (.str i)=0:=by simp[dep]
@[simp] theorem Yvm(l:List D):dep (.tup l)=depL l+1:=by simp[dep]
@[simp] theorem depL_nil:depL []=0:=by simp[depL]
@[simp] theorem Yqc(d:D)(l:List D):depL (d::l)=max (dep d) (depL l):=by simp[depL]
theorem Ynh{neg:Bool}{d e:D}(h:dep d<=60)(h':dep e<=60):eqM neg d e=some (if neg then !eqD d e else eqD d e):=by
 unfold eqM
 rw[if_pos ⟨h,h'⟩]
theorem Ytt{neg:Bool}{d c:D}{l:List D}(hc:Ys c=some l)(h:dep d<=60)(h':depL l<=60):inM neg d c=some (if neg then !inD d l else inD d l):=by
 unfold inM
 rw[hc,qc,if_pos ⟨h',h⟩]
theorem Yfl{gt:D->Ro->Option Ro}{fc:Ro->Option Bool}{fe:Ro->Option D}{ρ:Ro}{α:Type}(enc:α->D)(p:α->Bool)(f:α->D):∀(l:List α),(∀a∈l,∃ρ1,gt (enc a) ρ=some ρ1/\fc ρ1=some (p a)/\(p a=true->fe ρ1=some (f a)))->
 Ye5 gt fc fe ρ (l.map enc)=some ((l.filter p).map f)
 | [],_=>rfl
 | a::l,h=>by
   obtain⟨ρ1,h1,h2,h3⟩:=h a qg
   have ih:=Yfl enc p f l fun b hb=>h b (qf _ hb)
   rw[qz,Ye5,h1,qc,h2,qc]
   cases hp:p a with
   | true=>
     rw[if_pos rfl,h3 hp,qc,ih,List.filter_cons_of_pos hp]
     rfl
   | false=>rw[if_neg qh,ih,List.filter_cons_of_neg (by rw[hp];exact qh)]
@[simp] theorem atI_zero{α:Type}(a:α)(l:List α):atI (a::l) 0=some a:=by
 have:=Yjc (xs:=a::l) (j:=0) (v:=a) rfl
 simpa using this
@[simp] theorem atI_one{α:Type}(a b:α)(l:List α):atI (a::b::l) 1=some b:=by
 have:=Yjc (xs:=a::b::l) (j:=1) (v:=b) rfl
 simpa using this
theorem Yyq{α:Type}{l:List α}{i:Int}{j:Nat}{v:α}(hi:i=(j:Int))(h:l[j]?=some v):atI l i=some v:=by
 subst hi
 exact Yjc h
theorem Yfm{gt:D->Ro->Option Ro}{fb:Ro->Option Out}{α:Type}(enc:α->D)(I:List α->Ro->Prop):∀(l pre:List α) (ρ:Ro),I pre ρ->
 (∀q a r ρ,pre++l=q++a::r->I q ρ->∃ρ1 ρ2,gt (enc a) ρ=some ρ1/\fb ρ1=some (.nx ρ2)/\I (q++[a]) ρ2)->∃ρ',M.forM gt fb (l.map enc) ρ=some (.nx ρ')/\I (pre++l) ρ'
 | [],pre,ρ,h0,_=>⟨ρ,rfl,by rw[List.append_nil];exact h0⟩
 | a::l,pre,ρ,h0,hs=>by
   obtain⟨ρ1,ρ2,e1,e2,h2⟩:=hs pre a l ρ rfl h0
   obtain⟨ρ',e3,h3⟩:=Yfm enc I l (pre++[a]) ρ2 h2 fun q b r ρ e hI=>hs q b r ρ (by rw[<-e,List.append_assoc];rfl) hI
   refine⟨ρ',?_,by rw[List.append_assoc]at h3;exact h3⟩
   rw[qz,M.forM,e1,qc,e2,qc]
   exact e3
theorem Yhl(a n:Int):rngD a n=(List.range (n - a).toNat).map fun i=>D.int (a+(i:Nat)):=rfl
theorem Yhm{n:Int}(h:-1000000<=n)(h':n<=1000000):rng1 [.int n]=some (rngD 0 n):=by
 have hcap:(cap6:Int)=1000000:=by decide
 simp only[rng1]
 rw[if_pos]
 simp only[Bool.and_eq_true,decide_eq_true_eq]
 lia
theorem Ygo{α:Type}{l:List α}{i:Nat}(h:i < l.length):atI l (i:Int)=some l[i]:=Yjc (qp h)
theorem Yhn{α β:Type}(f:α->β)(l:List α)(i:Int):atI (l.map f) i=(atI l i).map f:=by
 unfold atI
 rw[qe]
 cases ixN l.length i with
 | none=>rfl
 | some j=>
   show(l.map f)[j]?=(l[j]?).map f
   rw[Qc]
end M
namespace M
open PySem L2
@[simp] theorem nat_eq_iff(x b:Nat):((x:Int)=(b:Int))↔x=b:=by lia
@[simp] theorem eqM_int(neg:Bool)(i j:Int):eqM neg (.int i) (.int j)=some (if neg then !decide (i=j)else decide (i=j)):=by
 rw[Ynh (by simp) (by simp),Yqa];rfl
@[simp] theorem eqM_bl(neg:Bool)(i j:Bool):eqM neg (.bl i) (.bl j)=some (if neg then !(i==j)else i==j):=by
 rw[Ynh (by simp) (by simp),Yts]
@[simp] theorem isN_non(neg:Bool):isN neg .non .non=some (if neg then false else true):=by cases neg<;>rfl
@[simp] theorem isN_int(neg:Bool)(i:Int):isN neg (.int i) .non=some (if neg then true else false):=by cases neg<;>rfl
@[simp] theorem isN_bl(neg:Bool)(l:Bool):isN neg (.bl l) .non=some (if neg then true else false):=by cases neg<;>rfl
@[simp] theorem Yen{α:Type}(f:α->Bool):∀l:List α,blsD (l.map fun a=>.bl (f a))=some (l.map f)
 | []=>rfl
 | a::l=>by rw[qz,blsD,Yen f l];rfl
@[simp] theorem Yfn{α:Type}(f:α->Int):∀l:List α,Ydk (l.map fun a=>.int (f a))=some (l.map f)
 | []=>rfl
 | a::l=>by rw[qz,Ydk,Yfn f l];rfl
@[simp] theorem Yk3(l:List Int):Ydk (l.map D.int)=some l:=by simpa using Yfn id l
@[simp] theorem anyC_lst(l:List D):anyC [.lst l]=(blsD l).map fun bs=>.bl (bs.any id):=nr rfl
@[simp] theorem allC_lst(l:List D):allC [.lst l]=(blsD l).map fun bs=>.bl (bs.all id):=nr rfl
@[simp] theorem enumD_of(c:D):Ysf c=(Ys c).map Yjo:=nr rfl
@[simp] theorem cap6_eq:cap6=1000000:=nr rfl
@[simp] theorem gV0(d:D)(r:Ro):getV 0 (some (.sh d)::r)=some d:=nr rfl
@[simp] theorem gC0(d:D)(r:Ro):getC 0 (some (.sh d)::r)=some d:=nr rfl
@[simp] theorem gC0o(l:List D)(r:Ro):getC 0 (some (.ow l)::r)=some (.lst l):=nr rfl
@[simp] theorem gO0(l:List D)(r:Ro):getO 0 (some (.ow l)::r)=some l:=nr rfl
@[simp] theorem gVs(n:Nat)(b:Option B)(r:Ro):getV (n+1) (b::r)=getV n r:=by simp[getV]
@[simp] theorem gCs(n:Nat)(b:Option B)(r:Ro):getC (n+1) (b::r)=getC n r:=by simp[getC]
@[simp] theorem gOs(n:Nat)(b:Option B)(r:Ro):getO (n+1) (b::r)=getO n r:=by simp[getO]
@[simp] theorem frz0o(l:List D)(r:Ro):frz1 0 (some (.ow l)::r)=some (.sh (.lst l))::r:=nr rfl
@[simp] theorem frz_s(n:Nat)(b:Option B)(r:Ro):frz1 (n+1) (b::r)=b::frz1 n r:=by
 unfold frz1
 rw[List.getElem?_cons_succ]
 cases h:r[n]? with
 | none=>rfl
 | some o=>
   cases o with
   | none=>rfl
   | some b=>cases b<;>rfl
theorem Yge{fe:Ro->Option D}{r:Ro}{α:Type}{enc:α->D}(f:α->D){l:List α}(h:∀a∈l,fe (some (.sh (enc a))::r)=some (f a)):Ye5 (gSet 0) tY fe (none::r) (l.map enc)=some (l.map f):=by
 have:=Yfl (gt:=gSet 0) (fc:=tY) (fe:=fe) (ρ:=none::r) enc (fun _=>true) f l fun a ha=>⟨_,rfl,rfl,fun _=>h a ha⟩
 rw[List.filter_eq_self.mpr (fun _ _=>rfl)]at this
 exact this
theorem Yyr{fc:Ro->Option Bool}{fe:Ro->Option D}{r:Ro}{α:Type}{enc:α->D}(p:α->Bool)(f:α->D){l:List α}(h1:∀a∈l,fc (some (.sh (enc a))::r)=some (p a))(h2:∀a∈l,p a=true->fe (some (.sh (enc a))::r)=some (f a)) :
 Ye5 (gSet 0) fc fe (none::r) (l.map enc)=some ((l.filter p).map f):=
 Yfl (gt:=gSet 0) enc p f l fun a ha=>⟨_,rfl,h1 a ha,h2 a ha⟩
theorem Yys{fc:Ro->Option Bool}{fe:Ro->Option D}{r:Ro}{α:Type}{e1 e2:α->D}(p:α->Bool)(f:α->D){l:List α}(h1:∀a∈l,fc (some (.sh (e1 a))::some (.sh (e2 a))::r)=some (p a))(h2:∀a∈l,p a=true->fe (some (.sh (e1 a))::some (.sh (e2 a))::r)=some (f a)) :
 Ye5 (Yl1 0 1) fc fe (none::none::r) (l.map fun a=>.tup [e1 a,e2 a])=some ((l.filter p).map f):=
 Yfl (gt:=Yl1 0 1) (fun a=>.tup [e1 a,e2 a]) p f l fun a ha=>⟨_,rfl,h1 a ha,h2 a ha⟩
theorem Yqd{α:Type}(enc:α->D)(d:α)(l:List α):Yjo (l.map enc)=(List.range l.length).map fun i=>.tup [.int i,enc (l.getD i d)]:=by
 unfold Yjo
 rw[qe]
 refine List.map_congr_left fun i hi=>?_
 have h:=List.mem_range.mp hi
 simp[h]
end M
namespace Bk
open PySem L2 M
abbrev Say:=Nat × Bool
inductive Kd where
 | e | s | i | n
 deriving DecidableEq
inductive Rl where
 | ei (l:List Say)
 | su (b:List Nat) (o:Bool)
 | im (b:List Nat) (h:Option Nat)
 deriving DecidableEq
def kS:Kd->Str
 | .e=>Str.ofString "eithers"
 | .s=>Str.ofString "sums"
 | .i=>Str.ofString "ifs"
 | .n=>Str.ofString "nots"
def kdD(k:Kd):D:=.str (kS k)
abbrev nD(n:Nat):D:=.int n
def sayD(s:Say):D:=.tup [.int s.1,.bl s.2]
def optD:Option Nat->D
 | none=>.non
 | some n=>.int n
def rlD:Rl->D
 | .ei l=>.tup (l.map sayD)
 | .su b o=>.tup [.tup (b.map nD),.bl o]
 | .im b h=>.tup [.tup (b.map nD),optD h]
def Yac(k:Kd)(R:List Rl):D:=.tup [kdD k,.tup (R.map rlD)]
@[simp] theorem dep_kd(k:Kd):dep (kdD k)=0:=by simp[kdD]
@[simp] theorem dep_say(s:Say):dep (sayD s)=1:=by simp[sayD]
theorem Yyt:∀{k j:Kd},kS k=kS j->k=j:=by
 intro k j
 cases k<;>cases j<;>first | (intro _;rfl) | (intro h;exact absurd h (by decide +kernel))
@[simp] theorem Yyu(k j:Kd):eqD (kdD k) (kdD j)=decide (k=j):=by
 rw[kdD,kdD,Yvk]
 by_cases h:k=j
 ·simp[h]
 ·have h':¬kS k=kS j:=fun e=>h (Yyt e)
  simp[h,h']
theorem Yqe(neg:Bool)(k j:Kd):eqM neg (kdD k) (kdD j)=some (if neg then !decide (k=j)else decide (k=j)):=by
 rw[Ynh (by simp) (by simp),Yyu]
@[simp] theorem eqM_e(neg:Bool)(k:Kd):eqM neg (kdD k) (.str (Str.ofString "eithers"))=some (if neg then !decide (k=.e)else decide (k=.e)):=Yqe neg k .e
@[simp] theorem eqM_s(neg:Bool)(k:Kd):eqM neg (kdD k) (.str (Str.ofString "sums"))=some (if neg then !decide (k=.s)else decide (k=.s)):=Yqe neg k .s
@[simp] theorem eqM_i(neg:Bool)(k:Kd):eqM neg (kdD k) (.str (Str.ofString "ifs"))=some (if neg then !decide (k=.i)else decide (k=.i)):=Yqe neg k .i
@[simp] theorem Yyv(a b:Nat):eqD (nD a) (nD b)=decide (a=b):=by
 rw[nD,nD,Yqa]
 by_cases h:a=b
 ·simp[h]
 ·have:¬(a:Int)=b:=by lia
  simp[h,this]
@[simp] theorem Yvn(s t:Say):eqD (sayD s) (sayD t)=decide (s=t):=by
 obtain⟨a,p⟩:=s
 obtain⟨b,q⟩:=t
 have:=Yyv a b
 simp only[nD]at this
 simp only[sayD,Yqb,Yng,this,Yts,Yvl,Bool.and_true]
 by_cases h1:a=b<;>by_cases h2:p=q<;>simp[h1,h2]
theorem Yl9{α:Type} [DecidableEq α] {enc:α->D} (he:∀a b,eqD (enc a) (enc b)=decide (a=b)) (s:α):∀l:List α,inD (enc s) (l.map enc)=decide (s∈l)
 | []=>by simp[inD]
 | t::l=>by
   have ih:=Yl9 he s l
   unfold inD at ih ⊢
   rw[qz,List.any_cons,ih,he]
   by_cases h1:t=s
   ·simp[h1]
   ·have h1':¬s=t:=fun e=>h1 e.symm
    simp[h1,h1']
theorem Yjt{n:Nat}:∀{l:List D},(∀d∈l,dep d<=n)->depL l<=n
 | [],_=>by simp
 | d::l,h=>by
   rw[Yqc]
   exact Nat.max_le.mpr ⟨h d qg,Yjt fun e he=>h e (qf _ he)⟩
theorem Yyw{c:D}(s:Say)(l:List Say)(neg:Bool)(hc:Ys c=some (l.map sayD)):inM neg (sayD s) c=some (if neg then !decide (s∈l)else decide (s∈l)):=by
 rw[Ytt hc (by simp) (Yjt fun d hd=>by obtain⟨x,_,rfl⟩:=qv hd;simp),Yl9 Yvn]
 by_cases hm:s∈l<;>simp[hm]
theorem in_n{c:D}(s:Nat)(l:List Nat)(neg:Bool)(hc:Ys c=some (l.map nD)):inM neg (nD s) c=some (if neg then !decide (s∈l)else decide (s∈l)):=by
 rw[Ytt hc (by simp) (Yjt fun d hd=>by obtain⟨x,_,rfl⟩:=qv hd;simp),Yl9 Yyv]
@[simp] theorem ix_say0(s:Say):(Ys (sayD s)).bind (fun l=>atI l 0)=some (.int s.1):=by simp[sayD]
@[simp] theorem ix_say1(s:Say):(Ys (sayD s)).bind (fun l=>atI l 1)=some (.bl s.2):=by simp[sayD]
@[simp] theorem items_ei(l:List Say):Ys (rlD (.ei l))=some (l.map sayD):=nr rfl
@[simp] theorem items_su(b:List Nat)(o:Bool):Ys (rlD (.su b o))=some [.tup (b.map nD),.bl o]:=nr rfl
@[simp] theorem items_im(b:List Nat)(h:Option Nat):Ys (rlD (.im b h))=some [.tup (b.map nD),optD h]:=nr rfl
@[simp] theorem items_book(k:Kd)(R:List Rl):Ys (Yac k R)=some [kdD k,.tup (R.map rlD)]:=nr rfl
def at'(ev:List Bool)(n:Nat):Bool:=ev.getD n false
theorem Ysm{ev:List Bool}{n:Nat}(h:n < ev.length):atI (ev.map D.bl) (n:Int)=some (.bl (at' ev n)):=by
 rw[Yhn,Ygo h]
 simp[at',h]
def In(k:Kd)(n:Nat):Rl->Prop
 | .ei l=>k=.e/\∀s∈l,s.1 < n
 | .su b _=>k=.s/\∀x∈b,x < n
 | .im b h=>(k=.i\/k=.n)/\(∀x∈b,x < n)/\∀x,h=some x->x < n
def slt(s t:Say):Prop:=s.1 < t.1\/(s.1=t.1/\s.2=false/\t.2=true)
def Srt:Rl->Prop
 | .ei l=>l.length<=2/\l.Pairwise slt
 | .su b _=>b.Pairwise (· < ·)
 | .im b _=>b.Pairwise (· < ·)
def hd(ev:List Bool)(w:Bool):Option Nat->Bool
 | none=>false
 | some x=>at' ev x==w
def nth(R:List Rl)(i:Nat):Rl:=R.getD i (.ei [])
theorem Yvo{R:List Rl}{i:Nat}(h:i < R.length):nth R i∈R:=by simp[nth,h]
theorem Yvp(R:List Rl):Yjo (R.map rlD)=(List.range R.length).map fun i:Nat=>.tup [.int (i:Int),rlD (nth R i)]:=Yqd rlD (.ei []) R
def so(k:Kd)(ev:List Bool):Rl->Bool
 | .ei l=>l.any fun s=>at' ev s.1==s.2
 | .su b o=>decide ((b.filter (at' ev)).length % 2=1)==o
 | .im b h=>(b.any fun x=>at' ev x != decide (k=.i))||hd ev (decide (k=.i)) h
end Bk
namespace Bk
def brk(k:Kd)(ev:List Bool)(R:List Rl):List Nat:=(List.range R.length).filter fun i=>!so k ev (nth R i)
end Bk
namespace Bk
open PySem L2 M
mutual
def Pl:D->Prop
 | .tup l=>l.length<=1000000/\PlL l
 | .lst _=>False
 | .scr _=>False
 | .dct _ _ _=>False
 | .obj _ _ _=>False
 | .adr _=>False
 | _=>True
def PlL:List D->Prop
 | []=>True
 | d::l=>Pl d/\PlL l
end
def sz:Rl->Nat
 | .ei l=>l.length
 | .su b _=>b.length
 | .im b _=>b.length
theorem Yqf{n:Nat}:∀{l:List Nat} {a:Nat},l.Pairwise (· < ·)->(∀x∈l,a<=x/\x < n)->l.length<=n - a
 | [],_,_,_=>Nat.zero_le _
 | x::l,a,h,hl=>by
   have hx:=hl x qg
   have hp:=List.pairwise_cons.mp h
   have ih:=Yqf (n:=n) (l:=l) (a:=x+1) hp.2 fun y hy=>⟨hp.1 y hy,(hl y (qf _ hy)).2⟩
   rw[qq]
   lia
theorem Yqg{n:Nat}{l:List Nat}(h:l.Pairwise (· < ·))(hl:∀x∈l,x < n):l.length<=n:=Yqf (a:=0) h fun x hx=>⟨Nat.zero_le _,hl x hx⟩
theorem y0h{k:Kd}{n:Nat}{r:Rl}(hi:In k n r)(hs:Srt r):sz r<=n+2:=by
 cases r with
 | ei l=>exact Qb hs.1 (by lia)
 | su b o=>exact Qb (Yqg hs hi.2) (by lia)
 | im b o=>exact Qb (Yqg hs hi.2.1) (by lia)
end Bk
namespace Bk
def bcs:Rl->List Nat
 | .ei l=>l.map (·.1)
 | .su b _=>b
 | .im b none=>b
 | .im b (some x)=>b++[x]
end Bk
namespace Bk
open PySem L2 M
theorem Yni{k:Kd}{n:Nat}{r:Rl}(h:In k n r):∀x∈bcs r,x < n:=by
 cases r with
 | ei l=>
   intro x hx
   obtain⟨s,hs,rfl⟩:=qv hx
   exact h.2 s hs
 | su b o=>exact h.2
 | im b o=>
   intro x hx
   cases o with
   | none=>exact h.2.1 x hx
   | some y=>
     rcases qt hx with hx | hx
     ·exact h.2.1 x hx
     ·rw[List.mem_singleton.mp hx];exact h.2.2 y rfl
mutual
theorem Ynj:∀d:D,Pl d->eqD d d=true
 | .non,_=>by simp[eqD,toPy,PyData.eqv]
 | .bl b,_=>by simp
 | .int i,_=>by simp
 | .str x,_=>by simp
 | .tup l,h=>by
   rw[Pl]at h
   rw[Yqb]
   exact Ynk l h.2
 | .lst l,h=>by rw[Pl]at h;exact h.elim
 | .scr l,h=>by rw[Pl]at h;exact h.elim
 | .dct _ _ _,h=>by rw[Pl]at h;exact h.elim
 | .obj _ _ _,h=>by rw[Pl]at h;exact h.elim
 | .adr _,h=>by rw[Pl]at h;exact h.elim
theorem Ynk:∀l:List D,PlL l->eqL l l=true
 | [],_=>by simp
 | d::l,h=>by
   rw[PlL]at h
   rw[Yng,Ynj d h.1,Ynk l h.2]
   rfl
end
end Bk
namespace M
open PySem PySem.Spec PyProof.Rows L2
section
variable {K:W.Frag}
def fldD(c f:Str):D->Option D
 | .obj c' ks vs=>if c'=c then (ks.zip vs).lookup f else none
 | _=>none
def CF(K:W.Frag)(c f:Str):Prop:=∀C,W.nsIn K mainGlobals c=some (some (.ref C))->Cls K C/\NoAttr K C f
theorem RpL.look{G:Hp}{f:Str}:∀{ks:List Str} {vs:List D} {xs:List V} {d:D},RpL K G vs xs->(ks.zip vs).lookup f=some d->∃v,(ks.zip xs).lookup f=some v/\Rp K G d v
 | [],_,_,_,_,e=>by simp at e
 | _::_,[],_,_,_,e=>by simp at e
 | k::ks,d'::vs,xs,d,r,e=>by
   rw[RpL]at r
   obtain⟨x,xs',rfl,g,q⟩:=r
   rw[List.zip_cons_cons,List.lookup_cons]at e ⊢
   cases h:(f==k)with
   | true=>
     rw[h]at e
     cases e
     exact⟨x,rfl,g⟩
   | false=>
     rw[h]at e
     exact RpL.look q e
section
variable {X:Cx} {e o:Expr} {fa fo:Ro->Option D} {pos apos:Pos} {c f:Str}
theorem Yyx(k:CF X.K c f)(he:ME X e fa)(hb:attributeBase e f X.env (eval e X.env)=eval e X.env:=by rfl):ME X (.Attribute e f pos) (b1 fa (fldD c f)):=
 PE.imp (Ytd he hb) fun σ H Q hx_=>by
  obtain⟨ρ,d,H0,G0,G,e,s,h⟩:=hx_
  obtain⟨x,h1,h2⟩:=Yca e
  refine tOf.at h1 s fun v H1 G1 g1 r1 s1=>?_
  cases x with
  | obj c' ks vs=>
    change (if c'=c then (ks.zip vs).lookup f else none)=some d at h2
    by_cases hc:c'=c
    ·rw[if_pos hc]at h2
     subst hc
     rw[Rp]at r1
     obtain⟨a,C,dx,xs,rfl,n,g,l,q⟩:=r1
     obtain⟨v,hv,rv⟩:=q.look h2
     exact⟨a,C,dx,_,v,rfl,s1.seen _ _ g,(k C n).1,(k C n).2,hv,h v H1 G1 g1 rv⟩
    ·rw[if_neg hc]at h2
     cases h2
  | _=>cases h2
def Okm(P:Program)(w:World)(K:W.Frag)(mg:Str->Option Value)(base:Heap)(k:Nat)(c m:Str)(ps:List Str)(sp:Sp):Prop:=
 ∃C f fd,FnOk P w K mg base CX0 k f fd ps sp/\Binds K fd ps []/\W.nsIn K mainGlobals c=some (some (.ref C))/\Cls K C/\Meth K C m f
def mthD(c m:Str)(fn:List D->Option D):D->Option D
 | .obj c' ks vs=>if c'=c/\m∉ks then fn [.obj c' ks vs]else none
 | _=>none
theorem Yju{f:Str}:∀{ks:List Str} {xs:List V},f∉ks->(ks.zip xs).lookup f=none
 | [],_,_=>by simp
 | _::_,[],_=>by simp
 | k::ks,x::xs,h=>by
   rw[List.zip_cons_cons,List.lookup_cons]
   have h1:(f==k)=false:=by
    rw[beq_eq_false_iff_ne]
    exact fun z=>h (by rw[z];exact qg)
   rw[h1]
   exact Yju fun z=>h (qf _ z)
theorem Ysn{j k:Nat}{m:Str}{ps:List Str}{fn:List D->Option D}{pl:Sem Bool}(O:Okm X.prog X.w X.K X.mg X.base j c m ps (spOf X.K 1 fn))(hr:Room k X.A)(ho:ME X o fo)(hj:j<=k:=by first | exact qs _ | omega)
 (ht:eval (.Call (.Attribute o m apos) [] [] pos) X.env=(do
  let ov <-eval o X.env
  standAt apos.atName
  let (f,first) <-holding [ov] (getMethod ov m pl)
  callWith pos f first (backTo pos (starEach [] X.env)) (backToKw pos (keywordEach [] X.env))):=by rfl):ME X (.Call (.Attribute o m apos) [] [] pos) (b1 fo (mthD c m fn)):=by
 intro pins s σ H Q I hx_
 obtain⟨ρ,d,H0,G0,G,e,sr,h⟩:=hx_
 obtain⟨x,h1,h2⟩:=Yca e
 cases x with
 | obj c' ks vs=>
   change (if c'=c/\m∉ks then fn [.obj c' ks vs]else none)=some d at h2
   by_cases hc:c'=c/\m∉ks
   ·rw[if_pos hc]at h2
    obtain⟨rfl,hm⟩:=hc
    obtain⟨C,f,fd,F,hb,hn,cl,me⟩:=O
    refine Yru (E:=E0) ho cl me F (hr.mono hj) hb .nil Yrz ht pins s σ H Q I ?_
    refine tOf.at h1 sr fun v H1 G1 g1 r1 s1=>?_
    rw[Rp]at r1
    obtain⟨a,C',dx,xs,rfl,n,g,l,q⟩:=r1
    rw[hn]at n
    cases n
    refine⟨a,dx,_,rfl,s1.seen _ _ g,Yju hm,?_⟩
    refine⟨rfl,[_],d,G1,s1.seen,.one ?_,h2,fun v H' G' g2 r2=>h v H' G' (g1.trans g2) r2⟩
    rw[Rp]
    exact⟨a,C,dx,xs,rfl,hn,g,l,q⟩
   ·rw[if_neg hc]at h2
    cases h2
 | _=>cases h2
end
end
section
variable {K:W.Frag}
inductive OutW (τ:Type) where
 | nx (ρ:Ro) (t:τ) | rt (d:D) (t:τ) | bk (ρ:Ro) (t:τ) | ct (ρ:Ro) (t:τ)
def Off(l:Addr)(H H':Hp):Prop:=∀a,a≠l->H' a=H a
theorem Off.trans{l:Addr}{H H' H'':Hp}(a:Off l H H')(b:Off l H' H''):Off l H H'':=fun x hx=>(b x hx).trans (a x hx)
structure WR(K:W.Frag)(l:Addr)(o:HO)(H0 G0:Hp)(σ:L2.St)(H G:Hp)(ρ:Ro):Prop where
 sr:SR K H0 G0 σ H G ρ
 g0:G0 l=none
 h0:H0 l=some o
def ContW{τ:Type}(rep:τ->HO)(K:W.Frag)(l:Addr)(H0 G0:Hp)(F:Ends):OutW τ->Prop
 | .nx ρ' t=>∀σ' H' G' H1,Off l H0 H1->WR K l (rep t) H1 G0 σ' H' G' ρ'->F.nx σ' H'
 | .rt d t=>∀v H' G' H1,Off l H0 H1->H1 l=some (rep t)->Gr H1 G0 H' G'->Rp K G' d v->F.rt v H'
 | .bk ρ' t=>∀σ' H' G' H1,Off l H0 H1->WR K l (rep t) H1 G0 σ' H' G' ρ'->F.bk σ' H'
 | .ct ρ' t=>∀σ' H' G' H1,Off l H0 H1->WR K l (rep t) H1 G0 σ' H' G' ρ'->F.ct σ' H'
section
variable {τ:Type} {rep:τ->HO} {l:Addr} {H0 G0 H G H1:Hp} {σ:L2.St} {ρ:Ro} {o:HO} {F:Ends}
theorem ContW.off{out:OutW τ}(f:Off l H0 H1)(c:ContW rep K l H0 G0 F out):ContW rep K l H1 G0 F out:=by
 cases out with
 | nx ρ t=>exact fun σ' H' G' H2 g w=>c σ' H' G' H2 (f.trans g) w
 | rt d t=>exact fun v H' G' H2 g w=>c v H' G' H2 (f.trans g) w
 | bk ρ t=>exact fun σ' H' G' H2 g w=>c σ' H' G' H2 (f.trans g) w
 | ct ρ t=>exact fun σ' H' G' H2 g w=>c σ' H' G' H2 (f.trans g) w
theorem WR.no(w:WR K l o H0 G0 σ H G ρ):G l=none:=by
 cases h:G l with
 | none=>rfl
 | some u=>
   have:=w.sr.gr.n l w.g0 (by rw[h];exact fun z=>nomatch z)
   rw[w.h0]at this
   cases this
theorem WR.at(w:WR K l o H0 G0 σ H G ρ):H l=some o:=w.sr.gr.h _ _ w.h0
theorem WR.put(w:WR K l o H0 G0 σ H G ρ)(o':HO):WR K l o' (upd H0 l o') G0 σ (upd H l o') G ρ:=by
 have gl:=w.no
 have ne:∀{a:Addr},H0 a=none->a≠l:=fun h z=>by rw[z,w.h0]at h;cases h
 have s:=w.sr
 refine⟨⟨⟨fun b u e=>?_,s.gr.g,fun b u e=>?_,fun a h h'=>?_⟩,s.len,s.sh,fun i m e=>?_,s.ap,fun i t ks vs e=>?_,s.apd⟩,w.g0,Yo⟩
 ·by_cases z:b=l
  ·subst z;rw[Yo]at e ⊢;exact e
  ·rw[Yk z]at e ⊢;exact s.gr.h b u e
 ·rw[Yk (Yv e gl)];exact s.gr.s b u e
 ·have q:=s.gr.n a h h'
  rw[Yk (ne q)];exact q
 ·obtain⟨a,xs,q1,q2,q3,q4,q5⟩:=s.ow i m e
  exact⟨a,xs,q1,q2,by rw[Yk (ne q3)];exact q3,by rw[Yk (ne q3)];exact q4,q5⟩
 ·obtain⟨a,kxs,vxs,q1,q2,q3,q4,q5⟩:=s.od i t ks vs e
  exact⟨a,kxs,vxs,q1,q2,by rw[Yk (ne q3)];exact q3,q4.mono (Same.refl _) fun o z=>by rw[Yk (ne q3)];exact z,q5⟩
theorem Off.put(l:Addr)(H:Hp)(o:HO):Off l H (upd H l o):=fun _ h=>Yk h
theorem SR.rebaseW(s:SR K H0 G0 σ H G ρ)(hg:G l=none){o:HO}(h0:H0 l=some o):∃H1,SR K H1 G σ H G ρ/\H1 l=some o/\∀H2 σ' H' G' ρ',Off l H1 H2->SR K H2 G σ' H' G' ρ'->SR K (fun a=>if a=l then H2 l else H0 a) G0 σ' H' G' ρ':=by
 classical
 let own:Addr->Prop:=fun a=>∃(i:Nat),((∃l:List D,ρ[i]?=some (some (B.ow l)))\/(∃t ks vs,ρ[i]?=some (some (B.od t ks vs))))/\σ[i]?=some (some (V.ref a))
 have hh:∀a,own a->H0 a=none:=fun a ha=>by
  obtain⟨i,e1,e2⟩:=ha
  rcases e1 with⟨l,e1⟩ | ⟨t,ks,vs,e1⟩
  ·obtain⟨b,xs,q1,_,q3,_⟩:=s.ow i l e1
   rw[e2]at q1;cases q1;exact q3
  ·obtain⟨b,kxs,vxs,q1,_,q3,_⟩:=s.od i t ks vs e1
   rw[e2]at q1;cases q1;exact q3
 have hl:¬own l:=fun z=>by
  have:=hh l z
  rw[h0]at this;cases this
 have back:∀a,(if own a then (none:Option HO)else H a)=none->H0 a=none:=fun a h=>by
  by_cases o:own a
  ·exact hh a o
  ·rw[if_neg o]at h;exact s.gr.h.free h
 refine⟨fun a=>if own a then none else H a,⟨⟨fun b o e=>?_,Same.refl _,s.gr.s,fun _ h h'=>absurd h h'⟩,s.len,s.sh,fun i l e=>?_,s.ap,fun i t ks vs e=>?_,s.apd⟩,?_,fun H2 σ' H' G' ρ' f t=>?_⟩
 ·by_cases z:own b
  ·simp only[if_pos z]at e;cases e
  ·simp only[if_neg z]at e;exact e
 ·obtain⟨a,xs,q1,q2,q3,q4,q5⟩:=s.ow i l e
  exact⟨a,xs,q1,q2,if_pos ⟨i,.inl ⟨l,e⟩,q1⟩,q4,q5⟩
 ·obtain⟨a,kxs,vxs,q1,q2,q3,q4⟩:=s.od i t ks vs e
  exact⟨a,kxs,vxs,q1,q2,if_pos ⟨i,.inr ⟨t,ks,vs,e⟩,q1⟩,q4⟩
 ·show(if own l then none else H l)=some o
  rw[if_neg hl];exact s.gr.h _ _ h0
 ·have bk2:∀a,H2 a=none->(if a=l then H2 l else H0 a)=none:=fun a h=>by
   by_cases z:a=l
   ·rw[if_pos z];rw[z]at h;exact h
   ·rw[if_neg z]
    rw[f a z]at h
    exact back a h
  refine⟨⟨fun b u e=>?_,s.gr.g.trans t.gr.g,t.gr.s,fun b h h'=>?_⟩,t.len,t.sh,fun i l e=>?_,t.ap,fun i t1 ks vs e=>?_,t.apd⟩
  ·refine t.gr.h b u ?_
   by_cases z:b=l
   ·simp only[if_pos z]at e;rw[z];exact e
   ·simp only[if_neg z]at e
    rw[f b z]
    have z2:¬own b:=fun q=>by rw[hh b q]at e;cases e
    show(if own b then none else H b)=some u
    rw[if_neg z2];exact s.gr.h b u e
  ·by_cases z:G b=none
   ·exact bk2 b (t.gr.n b z h')
   ·have q:=s.gr.n b h z
    have nl:b≠l:=fun y=>z (by rw[y];exact hg)
    show(if b=l then H2 l else H0 b)=none
    rw[if_neg nl];exact q
  ·obtain⟨a,xs,q1,q2,q3,q4,q5⟩:=t.ow i l e
   exact⟨a,xs,q1,q2,bk2 a q3,q4,q5⟩
  ·obtain⟨a,kxs,vxs,q1,q2,q3,q4⟩:=t.od i t1 ks vs e
   exact⟨a,kxs,vxs,q1,q2,bk2 a q3,q4⟩
end
def sOfW{τ:Type}(rep:τ->HO)(K:W.Frag)(l:Addr)(f:Ro->τ->Option (OutW τ)):TS:=fun F σ H=>∃ρ t out H0 G0 G,f ρ t=some out/\WR K l (rep t) H0 G0 σ H G ρ/\ContW rep K l H0 G0 F out
abbrev WS{τ:Type}(rep:τ->HO)(X:Cx)(l:Addr)(st:Stmt)(f:Ro->τ->Option (OutW τ)):Prop:=PS X st (sOfW rep X.K l f)
abbrev WB{τ:Type}(rep:τ->HO)(X:Cx)(l:Addr)(sts:List Stmt)(f:Ro->τ->Option (OutW τ)):Prop:=PSs X sts (sOfW rep X.K l f)
def Ygf{τ:Type}(f:Ro->Option Out):Ro->τ->Option (OutW τ):=fun ρ t=>(f ρ).map fun
 | .nx ρ'=>.nx ρ' t
 | .rt d=>.rt d t
 | .bk ρ'=>.bk ρ' t
 | .ct ρ'=>.ct ρ' t
def nilW{τ:Type}:Ro->τ->Option (OutW τ):=fun ρ t=>some (.nx ρ t)
def seqW{τ:Type}(f g:Ro->τ->Option (OutW τ)):Ro->τ->Option (OutW τ):=fun ρ t=>(f ρ t).bind fun
 | .nx ρ' t'=>g ρ' t'
 | o=>some o
def ifW{τ:Type}(c:Ro->τ->Option Bool)(f g:Ro->τ->Option (OutW τ)):Ro->τ->Option (OutW τ):=fun ρ t=>(c ρ t).bind fun k=>if k=true then f ρ t else g ρ t
def forW{τ:Type}(gt:D->Ro->Option Ro)(fb:Ro->τ->Option (OutW τ)):List D->Ro->τ->Option (OutW τ)
 | [],ρ,t=>some (.nx ρ t)
 | d::ds,ρ,t=>(gt d ρ).bind fun ρ1=>(fb ρ1 t).bind fun
   | .nx ρ2 t2=>forW gt fb ds ρ2 t2
   | .ct ρ2 t2=>forW gt fb ds ρ2 t2
   | .bk ρ2 t2=>some (.nx ρ2 t2)
   | .rt d t2=>some (.rt d t2)
def Yjv{τ:Type}(gl:Ro->Option (List D))(gt:D->Ro->Option Ro)(fb:Ro->τ->Option (OutW τ)):Ro->τ->Option (OutW τ):=fun ρ t=>(gl ρ).bind fun ds=>forW gt fb ds ρ t
section
variable {τ:Type} {rep:τ->HO} {X:Cx} {l:Addr} {st:Stmt} {sts:List Stmt} {fs gs:Ro->τ->Option (OutW τ)} {pos:Pos} {tg:Expr} {gl:Ro->Option (List D)}
theorem Yvq{f:Ro->Option Out}(h:MS X st f):WS rep X l st (Ygf f):=PS.imp h fun F σ H hx_=>by
 obtain⟨ρ,t,out,H0,G0,G,e,w,c⟩:=hx_
 obtain⟨o,h1,rfl⟩:=qb e
 refine⟨ρ,o,H0,G0,G,h1,w.sr,?_⟩
 cases o with
 | nx ρ'=>exact fun σ' H' G' s'=>c σ' H' G' H0 (fun _ _=>rfl) ⟨s',w.g0,w.h0⟩
 | rt d=>exact fun v H' G' g r=>c v H' G' H0 (fun _ _=>rfl) w.h0 g r
 | bk ρ'=>exact fun σ' H' G' s'=>c σ' H' G' H0 (fun _ _=>rfl) ⟨s',w.g0,w.h0⟩
 | ct ρ'=>exact fun σ' H' G' s'=>c σ' H' G' H0 (fun _ _=>rfl) ⟨s',w.g0,w.h0⟩
theorem Yyy:WB rep X l [] (nilW (τ:=τ)):=PSs.imp Yls fun F σ H hx_=>by
 obtain⟨ρ,t,out,H0,G0,G,e,w,c⟩:=hx_
 cases e
 exact c σ H G H0 (fun _ _=>rfl) w
theorem Yyz(h:WS rep X l st fs):WB rep X l [st] fs:=Ylt h
theorem Yvr(h1:WS rep X l st fs)(h2:WB rep X l sts gs):WB rep X l (st::sts) (seqW fs gs):=PSs.imp (Ycg h1 h2) fun F σ H hx_=>by
 obtain⟨ρ,t,out,H0,G0,G,e,w,c⟩:=hx_
 unfold seqW at e
 obtain⟨o,h3,e⟩:=qa e
 cases o with
 | nx ρ' t'=>exact⟨ρ,t,.nx ρ' t',H0,G0,G,h3,w,fun σ' H' G' H1 f w'=>⟨ρ',t',out,H1,G0,G',e,w',c.off f⟩⟩
 | rt d t'=>cases e;exact⟨ρ,t,.rt d t',H0,G0,G,h3,w,c⟩
 | bk ρ' t'=>cases e;exact⟨ρ,t,.bk ρ' t',H0,G0,G,h3,w,c⟩
 | ct ρ' t'=>cases e;exact⟨ρ,t,.ct ρ' t',H0,G0,G,h3,w,c⟩
def WT(rep:τ->HO)(X:Cx)(l:Addr)(c:Expr)(f:Ro->τ->Option Bool):Prop:=PT X c fun σ H Q=>∃ρ t k H0 G0 G,f ρ t=some k/\WR X.K l (rep t) H0 G0 σ H G ρ/\∀H' G',Gr H G H' G'->Q k H'
theorem y0i{c:Expr}{a b:List Stmt}{fc:Ro->τ->Option Bool}(hc:WT rep X l c fc)(ha:WB rep X l a fs)(hb:WB rep X l b gs):WS rep X l (.If c a b pos) (ifW fc fs gs):=PS.imp (Yty hc ha hb) fun F σ H hx_=>by
 obtain⟨ρ,t,out,H0,G0,G,e,w,c⟩:=hx_
 unfold ifW at e
 obtain⟨k,h1,e⟩:=qa e
 refine⟨ρ,t,k,H0,G0,G,h1,w,fun H1 G1 g1=>?_⟩
 have w1:WR X.K l (rep t) H0 G0 σ H1 G1 ρ:=⟨w.sr.grow g1,w.g0,w.h0⟩
 cases k with
 | true=>
   rw[if_pos rfl]at e
   exact iteT ⟨ρ,t,out,H0,G0,G1,e,w1,c⟩
 | false=>
   rw[if_neg qh]at e
   exact iteF ⟨ρ,t,out,H0,G0,G1,e,w1,c⟩
theorem Ye9{gt:D->Ro->Option Ro}{fb:Ro->τ->Option (OutW τ)}:∀(ds:List D) (ρ:Ro) (t:τ) (out:OutW τ),forW gt fb ds ρ t=some out->(∃ρ' t',out=.nx ρ' t')\/∃d t',out=.rt d t'
 | [],ρ,t,out,h=>by cases h;exact .inl ⟨_,_,rfl⟩
 | d::ds,ρ,t,out,h=>by
   rw[forW]at h
   obtain⟨ρ1,h1,h⟩:=qa h
   obtain⟨o,h2,h⟩:=qa h
   cases o with
   | nx ρ2 t2=>exact Ye9 ds ρ2 t2 out h
   | ct ρ2 t2=>exact Ye9 ds ρ2 t2 out h
   | bk ρ2 t2=>cases h;exact .inl ⟨_,_,rfl⟩
   | rt d t2=>cases h;exact .inr ⟨_,_,rfl⟩
theorem Yy0{iter:Expr}{body:List Stmt}{gt:D->Ro->Option Ro}(hp:PassesOwn (model X.prog X.w) X.A X.env X.xe)(hc:X.calm=true)(hi:MI X tg iter gl)(hg:MG X tg gt)(hb:WB rep X l body fs)
 (hs:∀x,foldedSetIterable iter X.env x=pure x:=by intro _;rfl):WS rep X l (.For tg iter body [] pos) (Yjv gl gt fs):=
 PS.imp (Ytb hp hc hi hg hb hs) fun F σ H hx_=>by
  obtain⟨ρ,t,out,H0,G0,G,e,w,h⟩:=hx_
  unfold Yjv at e
  obtain⟨ds,h1,h2⟩:=qa e
  refine⟨ρ,ds,H0,G0,G,h1,w.sr,fun J H1 G1 g1 wk=>?_⟩
  have w1:WR X.K l (rep t) H0 G0 σ H1 G1 ρ:=⟨w.sr.grow g1,w.g0,w.h0⟩
  have hg1:=w1.no
  obtain⟨Hb,sb,hbl,back⟩:=w1.sr.rebaseW hg1 w.h0
  have hout:=Ye9 ds ρ t out h2
  have bk:∀{Hc:Hp} {σ':L2.St} {H' G':Hp} {ρ':Ro} {t':τ},Off l Hb Hc->WR X.K l (rep t') Hc G1 σ' H' G' ρ'->∃Hd,Off l H0 Hd/\WR X.K l (rep t') Hd G0 σ' H' G' ρ':=fun {Hc σ' H' G' ρ' t'} f w'=>
   ⟨_,fun a ha=>if_neg ha,back Hc σ' H' G' ρ' f w'.sr,w.g0,by show(if l=l then Hc l else H0 l)=_;rw[if_pos rfl];exact w'.h0⟩
  refine⟨fun i m σ' H'=>m=ds.length - i/\i<=ds.length/\∃ρ' t' G' Hc,Off l Hb Hc/\WR X.K l (rep t') Hc G1 σ' H' G' ρ'/\forW gt fs (ds.drop i) ρ' t'=some out,⟨_,rfl,Nat.zero_le _,ρ,t,G1,Hb,fun _ _=>rfl,⟨sb,hg1,hbl⟩,h2⟩,?_⟩
  rintro i m σ' H' ⟨rfl,hi,ρ',t',G',Hc,fc,w',e'⟩
  have W:=wk.2 i H' G' w'.sr.gr.g w'.sr.seen
  by_cases hlt:i < ds.length
  ·have hd:ds[i]?=some ds[i]:=qp hlt
   obtain⟨go,yl⟩:=W.1 _ hd
   rw[List.drop_eq_getElem_cons hlt,forW]at e'
   obtain⟨ρ1,e1,e'⟩:=qa e'
   obtain⟨o,e2,e'⟩:=qa e'
   refine .inr ⟨go,fun σ' H'=>i+1<=ds.length/\∃ρ' t' G' Hc,Off l Hb Hc/\WR X.K l (rep t') Hc G1 σ' H' G' ρ'/\forW gt fs (ds.drop (i+1)) ρ' t'=some out,fun σ2 H2 q=>⟨ds.length - (i+1),by omega,rfl,q.1,q.2⟩,fun x H2 y=>?_⟩
   obtain⟨G2,g2,r2⟩:=yl x H2 y
   refine⟨_,ρ',ρ1,Hc,G1,G2,e1,w'.sr.grow g2,r2,fun σ3 s3=>?_⟩
   refine⟨ρ1,t',o,Hc,G1,G2,e2,⟨s3,hg1,w'.h0⟩,?_⟩
   cases o with
   | nx ρ2 t2=>exact fun σ4 H4 G4 Hd f4 w4=>⟨hlt,ρ2,t2,G4,Hd,fc.trans f4,w4,e'⟩
   | ct ρ2 t2=>exact fun σ4 H4 G4 Hd f4 w4=>⟨hlt,ρ2,t2,G4,Hd,fc.trans f4,w4,e'⟩
   | bk ρ2 t2=>
     cases e'
     exact fun σ4 H4 G4 Hd f4 w4=>by
      obtain⟨He,f5,w5⟩:=bk (fc.trans f4) w4
      exact h σ4 H4 G4 He f5 w5
   | rt d t2=>
     cases e'
     refine fun v H4 G4 Hd f4 h4 g4 r4=>?_
     obtain⟨He,f5,w5⟩:=bk (fc.trans f4) (σ':=[]) (ρ':=[]) (t':=t2) ⟨SR.mkSh g4 rfl (fun i d e=>(by simp at e)) (fun i l e=>(by simp at e)) (fun i t ks vs e=>(by simp at e)),hg1,h4⟩
     exact h v H4 G4 He f5 w5.h0 w5.sr.gr r4
  ·have ei:i=ds.length:=by omega
   subst ei
   rw[List.drop_length,forW]at e'
   cases e'
   obtain⟨He,f5,w5⟩:=bk fc w'
   exact .inl ⟨W.2 (qs _),h σ' H' G' He f5 w5⟩
end
end
section
variable {K:W.Frag}
abbrev wl(t:List Bool):HO:=.lst (t.map V.bl)
abbrev wks:List Str:=["book","hands","truths"]
abbrev watD(b h x:D):D:=.obj "Watch" wks [b,h,x]
def thw(l i:Nat)(ρ:Ro)(t:List Bool):Option Ro:=match ρ[i]? with
 | some (some (.sh (.obj c ks [b,h,.adr l'])))=>if l'=l then some (ρ.set i (some (.sh (.obj c ks [b,h,.lst (t.map D.bl)]))))else none
 | _=>none
theorem Yqh{G:Hp}:∀t:List Bool,RpL K G (t.map D.bl) (t.map V.bl)
 | []=>.nil
 | b::t=>.cons (by rw[Rp]) (Yqh t)
theorem RpL.three{G:Hp}{a b c:D}{xs:List V}(r:RpL K G [a,b,c] xs):∃x y z,xs=[x,y,z]/\Rp K G a x/\Rp K G b y/\Rp K G c z:=by
 rw[RpL]at r
 obtain⟨x,r1,rfl,h1,r⟩:=r
 rw[RpL]at r
 obtain⟨y,r2,rfl,h2,r⟩:=r
 rw[RpL]at r
 obtain⟨z,r3,rfl,h3,r⟩:=r
 rw[RpL]at r
 subst r
 exact⟨x,y,z,rfl,h1,h2,h3⟩
section
variable {l:Addr} {H0 G0 H G:Hp} {σ:L2.St} {ρ ρ1:Ro} {t:List Bool} {X:Cx} {e:Expr} {f:Ro->Option D} {pos:Pos}
theorem WR.thaw{i:Nat}(w:WR K l (wl t) H0 G0 σ H G ρ)(e:thw l i ρ t=some ρ1):∃H2 G1,SR K H2 G0 σ H G1 ρ1/\∀H' G',Gr H G1 H' G'->Gr H G H' G:=by
 unfold thw at e
 split at e
 ·rename_i c ks b h l' hi
  by_cases hl:l'=l
  ·rw[if_pos hl]at e
   cases e
   subst hl
   have s:=w.sr
   have gl:=w.no
   have ne:∀{a:Addr},H0 a=none->a≠l':=fun h z=>by rw[z,w.h0]at h;cases h
   have sm:Same G (upd G l' (wl t)):=fun b o e=>by rw[Yk (Yv e gl)];exact e
   refine⟨fun a=>if a=l' then none else H0 a,upd G l' (wl t),⟨⟨fun b o e=>?_,s.gr.g.trans sm,fun b o e=>?_,fun b h h'=>?_⟩,by simp[s.len],fun j d e=>?_,fun j m e=>?_,fun j k m m' a b' h1 h2 h3 h4 h5=>?_,fun j t1 ks vs e=>?_,fun j k ta ka va tb kb vb a b' h1 h2 h3 h4 h5=>?_⟩,fun H' G' g=>.back s.seen g⟩
   ·by_cases z:b=l'
    ·simp only[if_pos z]at e;cases e
    ·simp only[if_neg z]at e;exact s.gr.h b o e
   ·by_cases z:b=l'
    ·subst z;rw[Yo]at e;rw[<-e];exact w.at
    ·rw[Yk z]at e;exact s.gr.s b o e
   ·by_cases z:b=l'
    ·exact if_pos z
    ·rw[Yk z]at h'
     show(if b=l' then none else H0 b)=none
     rw[if_neg z];exact s.gr.n b h h'
   ·rcases Yj e with⟨rfl,e1,hlt⟩ | ⟨hj,e⟩
    ·cases e1
     obtain⟨v,q1,q2⟩:=s.sh j _ hi
     refine⟨v,q1,?_⟩
     rw[Rp]at q2 ⊢
     obtain⟨a,C,dx,xs,e1,n,g,lx,q⟩:=q2
     obtain⟨x,y,z,rfl,h1,h2,h3⟩:=q.three
     refine⟨a,C,dx,[x,y,z],e1,n,sm _ _ g,lx,.cons (h1.mono sm) (.cons (h2.mono sm) (.one ?_))⟩
     rw[Rp]at h3
     rw[Rp]
     exact⟨l',t.map V.bl,h3,.inl Yo,Yqh t⟩
    ·obtain⟨v,q1,q2⟩:=s.sh j d e
     exact⟨v,q1,q2.mono sm⟩
   ·rcases Yj e with⟨rfl,e1,_⟩ | ⟨hj,e⟩
    ·cases e1
    ·obtain⟨a,xs,q1,q2,q3,q4,q5⟩:=s.ow j m e
     exact⟨a,xs,q1,by rw[Yk (ne q3)];exact q2,by show(if a=l' then none else H0 a)=none;rw[if_neg (ne q3)];exact q3,q4,q5.mono sm⟩
   ·rcases Yj h1 with⟨rfl,e1,_⟩ | ⟨hj,h1⟩
    ·cases e1
    ·rcases Yj h2 with⟨rfl,e1,_⟩ | ⟨hk,h2⟩
     ·cases e1
     ·exact s.ap j k m m' a b' h1 h2 h3 h4 h5
   ·rcases Yj e with⟨rfl,e1,_⟩ | ⟨hj,e⟩
    ·cases e1
    ·obtain⟨a,kxs,vxs,q1,q2,q3,q4,q5,q6⟩:=s.od j t1 ks vs e
     exact⟨a,kxs,vxs,q1,by rw[Yk (ne q3)];exact q2,by show(if a=l' then none else H0 a)=none;rw[if_neg (ne q3)];exact q3,q4.mono sm fun _ z=>z,q5.mono sm,q6.mono sm⟩
   ·rcases Yj h1 with⟨rfl,e1,_⟩ | ⟨hj,h1⟩
    ·cases e1
    ·rcases Yj h2 with⟨rfl,e1,_⟩ | ⟨hk,h2⟩
     ·cases e1
     ·exact s.apd j k ta ka va tb kb vb a b' h1 h2 h3 h4 h5
  ·rw[if_neg hl]at e
   cases e
 ·cases e
theorem Yvs(i:Nat){c:Expr}{fc:Ro->Option Bool}(h:MT X c fc):WT wl X l c fun ρ t=>(thw l i ρ t).bind fc:=PT.imp h fun σ H Q hx_=>by
 obtain⟨ρ,t,k,H0,G0,G,e,w,c⟩:=hx_
 obtain⟨ρ1,h1,h2⟩:=qa e
 obtain⟨H2,G1,s1,bk⟩:=w.thaw h1
 exact⟨ρ1,k,H2,G0,G1,h2,s1,fun H' G' g=>c H' G (bk H' G' g)⟩
def retL(l i:Nat)(f:Ro->Option D):Ro->List Bool->Option (OutW (List Bool)):=fun ρ t=>(thw l i ρ t).bind fun ρ1=>(f ρ1).bind fun d=>if Ysh d=true then some (.rt d t)else none
theorem Yvt(i:Nat)(h:ME X e f):WS wl X l (.Return (some e) pos) (retL l i f):=PS.imp (Yta h) fun F σ H hx_=>by
 obtain⟨ρ,t,out,H0,G0,G,e,w,c⟩:=hx_
 unfold retL at e
 obtain⟨ρ1,h1,e⟩:=qa e
 obtain⟨d,h2,e⟩:=qa e
 split at e
 ·rename_i hs
  cases e
  obtain⟨H2,G1,s1,bk⟩:=w.thaw h1
  exact⟨ρ1,d,H2,G0,G1,h2,s1,fun v H' G' g r=>c v H' G H0 (fun _ _=>rfl) w.h0 (w.sr.gr.trans (bk H' G' g)) (r.scal hs)⟩
 ·cases e
def appW(l i:Nat)(f:Ro->Option D):Ro->List Bool->Option (OutW (List Bool)):=fun ρ t=>match ρ[i]? with
 | some (some (.sh (.obj c ks [_,_,.adr l'])))=>if l'=l/\c="Watch"/\ks=wks/\t.length < 1000000 then (f ρ).bind fun
  | .bl k=>some (.nx ρ (t++[k]))
  | _=>none
  else none
 | _=>none
theorem Yy1(i:Nat){x:Str}{p1 p2 apos cpos:Pos}(k:CF X.K "Watch" "truths")(he:ME X e f)(hN:X.N[i]?=some x:=by rfl)(hv:Vis X.env.scope x:=by first | exact Or.inl rfl | exact Or.inr (Or.inl rfl) | exact Or.inr (Or.inr rfl))
 (hd:(x==("__debug__":Str))=false:=by decide) (hcd:(x==("__classdict__":Str))=false:=by decide) (hse:swapsWith (.Call (.Attribute (.Attribute (.Name x p1) "truths" p2) "append" apos) [e] [] cpos) none pos.line X.env=pure false:=by rfl)
 (hs:starEach [e] X.env=[(false,eval e X.env)]:=by rfl)
 (hfew:((backTo cpos (starEach [e] X.env)).all (fun x=>!x.1)&&(backToKw cpos (keywordEach [] X.env)).all (fun x=>x.1.isSome)&&decide ([e].length+([]:List Keyword).length+(if ([]:List Keyword).isEmpty then 0 else 1) < 30))=true:=by rfl)
 (hline:(apos.endLine==cpos.line)=true:=by rfl) (hbase:attributeBase (.Attribute (.Name x p1) "truths" p2) "append" X.env (eval (.Attribute (.Name x p1) "truths" p2) X.env)=eval (.Attribute (.Name x p1) "truths" p2) X.env:=by rfl)
 (hb1:attributeBase (.Name x p1) "truths" X.env (eval (.Name x p1) X.env)=eval (.Name x p1) X.env:=by rfl) :
 WS wl X l (.Expr (.Call (.Attribute (.Attribute (.Name x p1) "truths" p2) "append" apos) [e] [] cpos) pos) (appW l i f):=
 PS.imp (Yft (Yuc PySem.F.plainAttrs_list PySem.F.slot_list_append PySem.F.type_list_append Yg0 (Ytd (Yfa hN hv hd hcd) hb1) (Ybd he Ydq hs) hbase hfew hline hs rfl) hse) fun F σ H hx_=>by
  obtain⟨ρ,t,out,H0,G0,G,e,w,c⟩:=hx_
  unfold appW at e
  split at e
  ·rename_i c' ks b h l' hi
   split at e
   ·rename_i hc
    obtain⟨rfl,rfl,rfl,ht⟩:=hc
    obtain⟨d,h2,e⟩:=qa e
    cases d with
    | bl kk=>
      cases e
      obtain⟨v,q1,q2⟩:=w.sr.sh i _ hi
      rw[Rp]at q2
      obtain⟨a,C,dx,xs,rfl,n,g,lx,q⟩:=q2
      obtain⟨y1,y2,y3,rfl,r1,r2,r3⟩:=q.three
      rw[Rp]at r3
      subst r3
      refine⟨_,q1,a,C,dx,_,.ref l',rfl,w.sr.seen _ _ g,(k C n).1,(k C n).2,rfl,.inl ⟨rfl,_,SqL.of w.at⟩,tOf.at h2 w.sr fun v H1 G1 g1 r1 s1=>?_⟩
      rw[Rp]at r1
      subst r1
      have w1:WR X.K l' (wl t) H0 G0 σ H1 G1 ρ:=⟨s1,w.g0,w.h0⟩
      refine⟨l',t.map V.bl,_,rfl,rfl,w1.at,?_,?_⟩
      ·rw[qe]
       exact Qa ht (Ye3 (qs _))
      ·have w2:=w1.put (wl (t++[kk]))
       have e2:wl (t++[kk])=HO.lst (t.map V.bl++[V.bl kk]):=by
        show HO.lst ((t++[kk]).map V.bl)=_
        rw[List.map_append]
        rfl
       have:=c σ _ G1 _ (Off.put l' H0 _) w2
       rw[e2]at this
       exact this
    | _=>cases e
   ·cases e
  ·cases e
end
end
section
variable {K:W.Frag}
def spS(K:W.Frag)(g:Addr->Ro->List Bool->Option (OutW (List Bool))):Sp:=fun vs H Q _=>vs.length=2/\∃a l vb vh k b h t d C dx G,vs=[.ref a,.bl k]/\W.nsIn K mainGlobals "Watch"=some (some (.ref C))/\Same G H/\G a=some (.ins C dx (wks.zip [vb,vh,.ref l]))/\G l=none/\H l=some (wl t)/\Rp K G b vb/\Rp K G h vh/\
 g l [some (.sh (watD b h (.adr l))),some (.sh (.bl k))] t=some (.rt d (t++[k]))/\∀v H' G',(∀x o,x≠l->H x=some o->H' x=some o)->H' l=some (wl (t++[k]))->Rp K G' d v->Q v H'
section
variable {P:Program} {w:World} {mg:Str->Option Value} {base:Heap}
theorem Yqi{st:Stmt}{f:Addr}{fd:FuncData}{N:List Str}{k:Nat}{x q:Str}{ps:List Str}{g:Addr->Ro->List Bool->Option (OutW (List Bool))}(F:Fun K x q st f fd)(S:FnScope N ps (defScope st))(hn:N.length=2)(hp:ps.length=2)
 (hb:∀(l:Addr) (cdv:Value) (A:Around) (outer:List Env) (s:Shared) (H:Hp) (E:XK),Room k (A.deeper (envOfC q (defScope st) s.heap.objs.size f cdv))->WB wl (cxOf CX0 P w K mg base N q (defScope st) f cdv A outer s H E).nox l (defBody st) (g l)) :
 FnOk P w K mg base CX0 (k+1) f fd ps (spS K g):=by
 refine F.ok S (fun vs H Q E h=>by rw[h.1,hp]) fun cdv A outer s H vs Q E hr h=>?_
 obtain⟨hl,a,l,vb,vh,kk,b,h,t,d,C,dx,G,rfl,n,sm,ga,gl,hll,rb,rh,e,q⟩:=h
 refine⟨_,hb l cdv A outer s H E hr,?_⟩
 have r:RpL K G [watD b h (.adr l),.bl kk] [V.ref a,V.bl kk]:=.cons (by rw[Rp];exact⟨a,C,dx,[vb,vh,.ref l],rfl,n,ga,rfl,.cons rb (.cons rh (.one (by rw[Rp])))⟩) (.one (by rw[Rp]))
 have s0:SR K H G (start N [V.ref a,V.bl kk]) H G [some (.sh (watD b h (.adr l))),some (.sh (.bl kk))]:=by
  have:=SR.start (N:=N) sm r
  rw[hn]at this
  exact this
 exact⟨_,t,.rt d (t++[kk]),H,G,G,e,⟨s0,gl,hll⟩,fun v H' G' H1 f1 h1 g1 r1=>q v H' G' (fun x o hx ho=>g1.h _ _ (by rw[f1 x hx];exact ho)) (g1.h _ _ h1) r1⟩
end
end
section
variable {K:W.Frag}
def spI(K:W.Frag)(f1:Ro->Option Out)(f2 f3:Ro->Option D):Sp:=fun vs H Q _=>vs.length=3/\∃x C dx vb vh b h d2 d3 G,vs=[.ref x,vb,vh]/\W.nsIn K mainGlobals "Watch"=some (some (.ref C))/\H x=some (.ins C dx [])/\G x=none/\Same G H/\Rp K G b vb/\Rp K G h vh/\
 f1 [some (.sh (.adr x)),some (.sh b),some (.sh h)]=some (.nx [some (.sh (.adr x)),some (.sh b),some (.sh h)])/\f2 [some (.sh (.adr x)),some (.sh b),some (.sh h)]=some d2/\f3 [some (.sh (.adr x)),some (.sh b),some (.sh h)]=some d3/\
 ∀l y1 y2 H' G',(∀y o,y≠x->H y=some o->H' y=some o)->H' x=some (.ins C dx (wks.zip [y1,y2,.ref l]))->H l=none->l≠x->H' l=some (wl [])->G' l=none->G' x=none->Same G G'->Same G' H'->(∀y,G y=none->G' y≠none->H y=none)->Rp K G' d2 y1->Rp K G' d3 y2->Q .non H'
section
variable {P:Program} {w:World} {mg:Str->Option Value} {base:Heap}
theorem Yvu{st:Stmt}{f:Addr}{fd:FuncData}{N:List Str}{k:Nat}{x q:Str}{ps:List Str}{f1:Ro->Option Out}{f2 f3:Ro->Option D}(F:Fun K x q st f fd)(S:FnScope N ps (defScope st))(hn:N.length=3)(hp:ps.length=3)
 (k1:CF K "Watch" "book") (k2:CF K "Watch" "hands") (k3:CF K "Watch" "truths")
 (hb:∀(cdv:Value) (A:Around) (outer:List Env) (s:Shared) (H:Hp) (E:XK),Room k (A.deeper (envOfC q (defScope st) s.heap.objs.size f cdv))->PSs (cxOf CX0 P w K mg base N q (defScope st) f cdv A outer s H E).nox (defBody st) (tSeq (sOf K f1) (tSeq (sFld K (tVar 0) (tOf K f2) "book") (tSeq (sFld K (tVar 0) (tOf K f3) "hands") (sFld K (tVar 0) (tLst tNil) "truths"))))) :
 FnOk P w K mg base CX0 (k+1) f fd ps (spI K f1 f2 f3):=by
 refine F.ok S (fun vs H Q E h=>by rw[h.1,hp]) fun cdv A outer s H vs Q E hr h=>?_
 obtain⟨hl,x,C,dx,vb,vh,b,h,d2,d3,G,rfl,n,hx,gx,sm,rb,rh,e1,e2,e3,q⟩:=h
 refine⟨_,hb cdv A outer s H E hr,?_⟩
 have r:RpL K G [.adr x,b,h] [V.ref x,vb,vh]:=.cons (by rw[Rp]) (.cons rb (.one rh))
 have s0:SR K H G (start N [V.ref x,vb,vh]) H G [some (.sh (.adr x)),some (.sh b),some (.sh h)]:=by
  have:=SR.start (N:=N) sm r
  rw[hn]at this
  exact this
 refine⟨_,_,H,G,G,e1,s0,fun σ H1 G1 s1=>?_⟩
 have w1:WR K x (.ins C dx []) H G σ H1 G1 [some (.sh (.adr x)),some (.sh b),some (.sh h)]:=⟨s1,gx,hx⟩
 have self:∀{Ha Ga Hb Gb:Hp},SR K Ha Ga σ Hb Gb [some (.sh (.adr x)),some (.sh b),some (.sh h)]->σ[0]?=some (some (V.ref x)):=fun s=>by
  obtain⟨v,q1,q2⟩:=s.sh 0 _ rfl
  rw[Rp]at q2
  rw[q1,q2]
 refine tOf.at e2 s1 fun y1 H2 G2 g2 r2 s2=>?_
 have w2:WR K x (.ins C dx []) H G σ H2 G2 _:=⟨s2,gx,hx⟩
 refine⟨_,self s2,x,C,dx,[],rfl,w2.at,(k1 C n).1,(k1 C n).2,by decide,?_⟩
 have w3:=w2.put (.ins C dx (putF "book" y1 []))
 refine tOf.at e3 w3.sr fun y2 H4 G4 g4 r4 s4=>?_
 have w4:WR K x (.ins C dx (putF "book" y1 [])) _ G σ H4 G4 _:=⟨s4,gx,Yo⟩
 refine⟨_,self s4,x,C,dx,_,rfl,w4.at,(k2 C n).1,(k2 C n).2,by show 1 < 1000;decide,?_⟩
 have w5:=w4.put (.ins C dx (putF "hands" y2 (putF "book" y1 [])))
 refine⟨Nat.zero_le _,fun l hl5=>?_⟩
 have hlx:l≠x:=fun z=>by rw[z,Yo]at hl5;cases hl5
 have e6:(upd (upd H4 x (.ins C dx (putF "hands" y2 (putF "book" y1 [])))) l (.lst [])) x=some (.ins C dx (putF "hands" y2 (putF "book" y1 []))):=by
  rw[Yk (Ne.symm hlx),Yo]
 refine⟨_,self w5.sr,x,C,dx,_,rfl,e6,(k3 C n).1,(k3 C n).2,by show 2 < 1000;decide,?_⟩
 have g4l:G4 l=none:=w5.sr.seen.free hl5
 have keep:∀y o,y≠x->H y=some o->H4 y=some o:=fun y o hy ho=>by
  have:=w5.sr.gr.h y o (by rw[Yk hy,Yk hy];exact ho)
  rw[Yk hy]at this
  exact this
 have hlH:H l=none:=by
  cases z:H l with
  | none=>rfl
  | some o=>
    have:=keep l o hlx z
    rw[Yk hlx]at hl5
    rw[this]at hl5
    cases hl5
 refine q l y1 y2 _ G4 (fun y o hy ho=>?_) ?_ hlH hlx ?_ g4l w5.no (s1.gr.g.trans (g2.g.trans g4.g)) (fun y o ho=>?_) (fun y hy hy'=>?_) (r2.mono g4.g) r4
 ·have h1:=keep y o hy ho
  have hyl:y≠l:=fun z=>by rw[z,hlH]at ho;cases ho
  rw[Yk hy,Yk hyl,Yk hy]
  exact h1
 ·rw[Yo]
  rfl
 ·rw[Yk hlx,Yo]
  rfl
 ·have hyx:y≠x:=fun z=>by rw[z,w5.no]at ho;cases ho
  have hyl:y≠l:=fun z=>by rw[z,g4l]at ho;cases ho
  rw[Yk hyx,Yk hyl]
  exact w5.sr.seen y o ho
 ·have hyx:y≠x:=fun z=>hy' (by rw[z];exact w5.no)
  have:=w5.sr.gr.n y hy hy'
  rw[Yk hyx,Yk hyx]at this
  exact this
end
def ifP(p:Prop)(a:Option Out):Option Out:=@ite _ p (Classical.propDecidable p) a none
theorem Yqj{p:Prop}{a:Option Out}(h:p):ifP p a=a:=@if_pos p (Classical.propDecidable p) h _ _ _
theorem Yso{p:Prop}{a:Option Out}{o:Out}(e:ifP p a=some o):p/\a=some o:=by
 by_cases h:p
 ·rw[Yqj h]at e
  exact⟨h,e⟩
 ·have:ifP p a=none:=@if_neg p (Classical.propDecidable p) h _ _ _
  rw[this]at e
  cases e
def Yoi(i:Nat)(is:List Nat)(f1:Ro->Option Out)(f2 f3 a1 a2:Ro->Option D)(g:Addr->Ro->List Bool->Option (OutW (List Bool))):Ro->Option Out:=fun ρ=>(a1 (frz is ρ)).bind fun b=>(a2 (frz is ρ)).bind fun h=>ifP ((∀x:Addr,f1 [some (.sh (.adr x)),some (.sh b),some (.sh h)]=some (.nx [some (.sh (.adr x)),some (.sh b),some (.sh h)]))/\∃d2 d3,(∀x:Addr,f2 [some (.sh (.adr x)),some (.sh b),some (.sh h)]=some d2/\f3 [some (.sh (.adr x)),some (.sh b),some (.sh h)]=some d3)/\plB d2=true/\plB d3=true/\∀l,∃t,g l (ρ.set i (some (.sh (watD d2 d3 (.adr l))))) []=some (.rt (.bl true) t)) (some (.rt (.bl true)))
section
variable {X:Cx} {l:Addr} {e1 e2:Expr} {a1 a2 f2 f3:Ro->Option D} {f1:Ro->Option Out} {pos:Pos} {sts:List Stmt}
theorem Yvv(i:Nat)(is:List Nat){k k':Nat}{C f:Addr}{fd:FuncData}{ps:List Str}{y:Str}{p1 p2 cpos:Pos}{g:Addr->Ro->List Bool->Option (OutW (List Bool))}(mk:Mk X.K C f)(hC:W.nsIn X.K mainGlobals "Watch"=some (some (.ref C)))(F:FnOk X.prog X.w X.K X.mg X.base CX0 k f fd ps (spI X.K f1 f2 f3))
 (hb:Binds X.K fd ps []) (hr:Room k' X.A) (hg:Gl X "Watch") (hm:X.mg "Watch"=some (.ref C)) (h1:ME X e1 a1) (h2:ME X e2 a2) (hN:X.N.Nodup) (rest:∀l,WB wl X l sts (g l)) (hk:k+1<=k':=by first | exact qs _ | omega)
 (hy:X.N[i]?=some y:=by rfl) (hx:Loc X.env.scope y:=by first | exact Or.inl rfl | exact Or.inr rfl) (hse:swapsWith (.Call (.Name "Watch" p2) [e1,e2] [] cpos) (some (.Name y p1)) pos.line X.env=pure false:=by rfl) (hf:X.fn y=true\/X.env.scope.names.lookup y=some .local:=by first | exact .inl rfl | exact .inr rfl)
 (hs1:starEach [e1,e2] X.env=(false,eval e1 X.env)::starEach [e2] X.env:=by rfl) (hs2:starEach [e2] X.env=(false,eval e2 X.env)::starEach [] X.env:=by rfl) (hpl:(backTo cpos (starEach [e2] X.env)).any (·.1)=false:=by rfl) :
 MB X (.Assign [.Name y p1] (.Call (.Name "Watch" p2) [e1,e2] [] cpos) pos::sts) (Yoi i is f1 f2 f3 a1 a2 g):=by
 have hrest:PSs X sts fun F σ H=>∃l,sOfW wl X.K l (g l) F σ H:=fun pins s σ H D I h=>by
  obtain⟨l,h⟩:=h
  exact rest l pins s σ H D I h
 refine PSs.imp (Ycg (Yov hN hy hx (Yt7 (E:=E0) mk F (hr.mono hk) hg hm hb .nil Yrz (Ybd h1 (Ybd h2 Ydq hs2) hs1) (by decide) hs1 hpl) hse hf) hrest) fun F σ H hx_=>?_
 obtain⟨ρ,out,H0,G0,G,e,s,c⟩:=hx_
 unfold Yoi at e
 obtain⟨b,q1,e⟩:=qa e
 obtain⟨h,q2,e⟩:=qa e
 obtain⟨hc,e⟩:=Yso e
 cases e
 obtain⟨c1,d2,d3,c2,p2,p3,c3⟩:=hc
 obtain⟨Gf,sf,ht⟩:=SR.frzT is s
 refine tOf.at q1 sf fun v1 Ha Ga ga ra sa=>tOf.at q2 sa fun v2 Hb Gb gb rb sb=>?_
 intro x dx hx0 hdx hne
 have ganb:Gr H Gf Hb Gb:=ga.trans gb
 have gbx:Gb x=none:=sb.seen.free hx0
 have smc:Same Gb (upd (upd Hb dx (.own x)) x (.ins C dx [])):=fun a o ho=>by
  have h1:a≠x:=fun z=>by rw[z,gbx]at ho;cases ho
  have h2:a≠dx:=fun z=>by rw[z,sb.seen.free hdx]at ho;cases ho
  rw[Yk h1,Yk h2]
  exact sb.seen a o ho
 refine⟨rfl,x,C,dx,v1,v2,b,h,d2,d3,Gb,rfl,hC,Yo,gbx,smc,ra.mono gb.g,rb,c1 x,(c2 x).1,(c2 x).2,fun l y1 y2 H' G' keep hx' hl0 hlx hl' gl' gx' g1 g2 g3 r1 r2=>⟨rfl,?_⟩⟩
 obtain⟨t,ht'⟩:=c3 l
 have hHb:Same H Hb:=ganb.h
 have hHx:H x=none:=hHb.free hx0
 have hHdx:H dx=none:=hHb.free hdx
 have hbl:Hb l=none:=by
  cases z:Hb l with
  | none=>rfl
  | some o=>
    have hld:l≠dx:=fun y=>by rw[y,hdx]at z;cases z
    rw[Yk hlx,Yk hld,z]at hl0
    cases hl0
 have hHl:H l=none:=hHb.free hbl
 have smH:Same H H':=fun a o ho=>by
  have n1:a≠x:=fun z=>by rw[z,hHx]at ho;cases ho
  have n2:a≠dx:=fun z=>by rw[z,hHdx]at ho;cases ho
  exact keep a o n1 (by rw[Yk n1,Yk n2];exact hHb a o ho)
 let G2:Hp:=fun a=>if H a=none then (if a=x then some (.ins C dx (wks.zip [y1,y2,.ref l]))else G' a)else G a
 have hGG2:Same G G2:=fun a o ho=>by
  have hH:H a≠none:=fun z=>by rw[s.seen _ _ ho]at z;cases z
  show(if H a=none then _ else G a)=some o
  rw[if_neg hH];exact ho
 have hG2H:Same G2 H':=fun a o ho=>by
  have ho:(if H a=none then (if a=x then some (.ins C dx (wks.zip [y1,y2,.ref l]))else G' a)else G a)=some o:=ho
  by_cases z:H a=none
  ·rw[if_pos z]at ho
   by_cases z2:a=x
   ·rw[if_pos z2]at ho
    rw[z2,hx']
    exact ho
   ·rw[if_neg z2]at ho
    exact g2 a o ho
  ·rw[if_neg z]at ho
   exact smH a o (s.seen a o ho)
 have gr:Gr H G H' G2:=⟨smH,hGG2,hG2H,fun a ha ha'=>by
  have ha':(if H a=none then (if a=x then some (.ins C dx (wks.zip [y1,y2,.ref l]))else G' a)else G a)≠none:=ha'
  refine Classical.byContradiction fun z=>?_
  rw[if_neg z]at ha'
  exact ha' ha⟩
 have tupG:∀b ys,G' b=some (HO.tup ys)->G2 b=some (HO.tup ys):=fun b ys hb=>by
  show(if H b=none then (if b=x then _ else G' b)else G b)=_
  by_cases z:H b=none
  ·rw[if_pos z]
   have n1:b≠x:=fun y=>by rw[y,gx']at hb;cases hb
   rw[if_neg n1];exact hb
  ·rw[if_neg z]
   refine ht b ys ?_
   have hb1:Gb b=some (HO.tup ys):=by
    cases q:Gb b with
    | none=>
      have h3:=g3 b q (by rw[hb];exact fun y=>nomatch y)
      have n1:b≠x:=fun y=>by rw[y,Yo]at h3;cases h3
      have n2:b≠dx:=fun y=>by rw[y,hHdx]at z;exact z rfl
      rw[Yk n1,Yk n2]at h3
      exact absurd (hHb.free h3) z
    | some o=>
      have:=g1 _ _ q
      rw[hb]at this
      cases this
      rfl
   cases q:Gf b with
   | none=>exact absurd (ganb.n b q (by rw[hb1];exact fun y=>nomatch y)) z
   | some o=>
     have:=ganb.g _ _ q
     rw[hb1]at this
     cases this
     rfl
 have s1:=s.grow gr
 have gl2:G2 l=none:=by
  show(if H l=none then (if l=x then _ else G' l)else G l)=none
  rw[if_pos hHl,if_neg hlx];exact gl'
 have hG0l:G0 l=none:=s1.gr.g.free gl2
 have hH0l:H0 l=none:=s.gr.h.free hHl
 have hw:Rp X.K G2 (watD d2 d3 (.adr l)) (.ref x):=by
  rw[Rp]
  refine⟨x,C,dx,[y1,y2,.ref l],rfl,hC,?_,rfl,.cons (r1.plain tupG p2) (.cons (r2.plain tupG p3) (.one (by rw[Rp])))⟩
  show(if H x=none then (if x=x then _ else G' x)else G x)=_
  rw[if_pos hHx,if_pos rfl]
 have s2:=s1.set_sh i hw
 refine⟨l,_,[],.rt (.bl true) t,upd H0 l (wl []),G0,G2,ht',⟨⟨⟨fun a o ho=>?_,s2.gr.g,s2.gr.s,fun a ha ha'=>?_⟩,s2.len,s2.sh,fun j m em=>?_,s2.ap,fun j t1 ks vs em=>?_,s2.apd⟩,hG0l,Yo⟩,fun v H4 G4 H5 f5 h5 g5 r5=>?_⟩
 ·by_cases z:a=l
  ·subst z;rw[Yo]at ho;rw[<-ho];exact hl'
  ·rw[Yk z]at ho;exact s2.gr.h a o ho
 ·have n1:a≠l:=fun z=>ha' (by rw[z];exact gl2)
  rw[Yk n1]
  exact s2.gr.n a ha ha'
 ·obtain⟨a,xs,z1,z2,z3,z4,z5⟩:=s2.ow j m em
  have n1:a≠l:=fun z=>by
   have hj:ρ[j]?=some (some (B.ow m)):=by
    rcases Yj em with⟨rfl,e9,_⟩ | ⟨_,em⟩
    ·cases e9
    ·exact em
   obtain⟨a',xs',w1,_,_,w4,_⟩:=s.ow j m hj
   have hne:j≠i:=fun y=>by
    rcases Yj em with⟨_,e9,_⟩ | ⟨hh,_⟩
    ·cases e9
    ·exact hh y
   rw[qy (Ne.symm hne),w1]at z1
   cases z1
   rw[z,hHl]at w4
   cases w4
  exact⟨a,xs,z1,z2,by rw[Yk n1];exact z3,z4,z5⟩
 ·obtain⟨a,kxs,vxs,z1,z2,z3,z4,z5⟩:=s2.od j t1 ks vs em
  have n1:a≠l:=fun z=>by
   have hj:ρ[j]?=some (some (B.od t1 ks vs)):=by
    rcases Yj em with⟨rfl,e9,_⟩ | ⟨_,em⟩
    ·cases e9
    ·exact em
   obtain⟨a',kx',vx',w1,_,_,w4,_⟩:=s.od j t1 ks vs hj
   have hne:j≠i:=fun y=>by
    rcases Yj em with⟨_,e9,_⟩ | ⟨hh,_⟩
    ·cases e9
    ·exact hh y
   rw[qy (Ne.symm hne),w1]at z1
   cases z1
   obtain⟨o',w5,_⟩:=w4.some
   rw[z,hHl]at w5
   cases w5
  exact⟨a,kxs,vxs,z1,z2,by rw[Yk n1];exact z3,z4,z5⟩
 ·refine c v H4 G4 ⟨fun a o ho=>?_,g5.g,g5.s,fun a ha ha'=>?_⟩ r5
  ·have n1:a≠l:=fun z=>by rw[z,hH0l]at ho;cases ho
   exact g5.h a o (by rw[f5 a n1,Yk n1];exact ho)
  ·have h6:=g5.n a ha ha'
   by_cases z:a=l
   ·rw[z];exact hH0l
   ·rw[f5 a z,Yk z]at h6
    exact h6
end
end
section
abbrev Wm:=Ro->List Bool->Option (OutW (List Bool))
structure ZWS(X:Cx)(l:Addr)(st:Stmt)(f:Wm):Prop where
 un:WS wl X l st f
structure ZWB(X:Cx)(l:Addr)(sts:List Stmt)(f:Wm):Prop where
 un:WB wl X l sts f
structure ZWT(X:Cx)(l:Addr)(c:Expr)(f:Ro->List Bool->Option Bool):Prop where
 un:WT wl X l c f
def Yid(l i:Nat)(f:Ro->Option Bool):Ro->List Bool->Option Bool:=fun ρ t=>(thw l i ρ t).bind f
section
variable {X:Cx} {l:Addr} {st:Stmt} {sts:List Stmt} {fs gs:Wm} {pos apos:Pos} {tg e o:Expr} {gl:Ro->Option (List D)} {f fa fo:Ro->Option D} {c m:Str}
theorem zuS{f:Ro->Option Out}(h:ZS X st f):PS X st (sOf X.K f):=h.un
theorem zuE(h:ZE X e f):PE X e (tOf X.K f):=h.un
theorem Ycy{f:Ro->Option Out}(h:ZS X st f):ZWS X l st (Ygf f):=⟨Yvq h.un⟩
theorem Yho:ZWB X l [] nilW:=⟨Yyy⟩
theorem Ydl(h:ZWS X l st fs):ZWB X l [st] fs:=⟨Yyz h.un⟩
theorem Yby(h1:ZWS X l st fs)(h2:ZWB X l sts gs):ZWB X l (st::sts) (seqW fs gs):=⟨Yvr h1.un h2.un⟩
theorem Yfo(i:Nat){c:Expr}{f:Ro->Option Bool}(h:ZT X c f):ZWT X l c (Yid l i f):=⟨Yvs i h.un⟩
theorem Yk4{c:Expr}{a b:List Stmt}{fc:Ro->List Bool->Option Bool}(hc:ZWT X l c fc)(ha:ZWB X l a fs)(hb:ZWB X l b gs):ZWS X l (.If c a b pos) (ifW fc fs gs):=⟨y0i hc.un ha.un hb.un⟩
theorem Yqk{iter:Expr}{body:List Stmt}{gt:D->Ro->Option Ro}(hp:PassesOwn (model X.prog X.w) X.A X.env X.xe)(hc:X.calm=true)(hi:ZI X tg iter gl)(hg:ZG X tg gt)(hb:ZWB X l body fs)
 (hs:∀x,foldedSetIterable iter X.env x=pure x:=by intro _;rfl):ZWS X l (.For tg iter body [] pos) (Yjv gl gt fs):=⟨Yy0 hp hc hi.un hg.un hb.un hs⟩
theorem Ynl(i:Nat)(h:ZE X e f):ZWS X l (.Return (some e) pos) (retL l i f):=⟨Yvt i h.un⟩
theorem Yvw(i:Nat){x:Str}{p1 p2 apos cpos:Pos}(k:CF X.K "Watch" "truths")(he:ZE X e f)(hN:X.N[i]?=some x:=by rfl)(hv:Vis X.env.scope x:=by first | exact Or.inl rfl | exact Or.inr (Or.inl rfl) | exact Or.inr (Or.inr rfl))
 (hd:(x==("__debug__":Str))=false:=by decide) (hcd:(x==("__classdict__":Str))=false:=by decide) (hse:swapsWith (.Call (.Attribute (.Attribute (.Name x p1) "truths" p2) "append" apos) [e] [] cpos) none pos.line X.env=pure false:=by rfl)
 (hs:starEach [e] X.env=[(false,eval e X.env)]:=by rfl)
 (hfew:((backTo cpos (starEach [e] X.env)).all (fun x=>!x.1)&&(backToKw cpos (keywordEach [] X.env)).all (fun x=>x.1.isSome)&&decide ([e].length+([]:List Keyword).length+(if ([]:List Keyword).isEmpty then 0 else 1) < 30))=true:=by rfl)
 (hline:(apos.endLine==cpos.line)=true:=by rfl) (hbase:attributeBase (.Attribute (.Name x p1) "truths" p2) "append" X.env (eval (.Attribute (.Name x p1) "truths" p2) X.env)=eval (.Attribute (.Name x p1) "truths" p2) X.env:=by rfl)
 (hb1:attributeBase (.Name x p1) "truths" X.env (eval (.Name x p1) X.env)=eval (.Name x p1) X.env:=by rfl) :
 ZWS X l (.Expr (.Call (.Attribute (.Attribute (.Name x p1) "truths" p2) "append" apos) [e] [] cpos) pos) (appW l i f):=⟨Yy1 i k he.un hN hv hd hcd hse hs hfew hline hbase hb1⟩
theorem Yd2{f:Str}(k:CF X.K c f)(he:ZE X e fa)(hb:attributeBase e f X.env (eval e X.env)=eval e X.env:=by rfl):ZE X (.Attribute e f pos) (b1 fa (fldD c f)):=⟨Yyx k he.un hb⟩
theorem Yco{j k:Nat}{ps:List Str}{fn:List D->Option D}{pl:Sem Bool}(O:Okm X.prog X.w X.K X.mg X.base j c m ps (spOf X.K 1 fn))(hr:Room k X.A)(ho:ZE X o fo)(hj:j<=k:=by first | exact qs _ | omega)
 (ht:eval (.Call (.Attribute o m apos) [] [] pos) X.env=(do
  let ov <-eval o X.env
  standAt apos.atName
  let (f,first) <-holding [ov] (getMethod ov m pl)
  callWith pos f first (backTo pos (starEach [] X.env)) (backToKw pos (keywordEach [] X.env))):=by rfl):ZE X (.Call (.Attribute o m apos) [] [] pos) (b1 fo (mthD c m fn)):=⟨Ysn O hr ho.un hj ht⟩
def OkI(P:Program)(w:World)(K:W.Frag)(mg:Str->Option Value)(base:Heap)(k:Nat)(ps:List Str)(f1:Ro->Option Out)(f2 f3:Ro->Option D):Prop:=
 ∃C f fd,W.nsIn K mainGlobals "Watch"=some (some (.ref C))/\mg "Watch"=some (.ref C)/\Mk K C f/\FnOk P w K mg base CX0 k f fd ps (spI K f1 f2 f3)/\Binds K fd ps []
theorem Ysp(i:Nat)(is:List Nat){k k':Nat}{ps:List Str}{y:Str}{p1 p2 cpos:Pos}{e1 e2:Expr}{a1 a2 f2 f3:Ro->Option D}{f1:Ro->Option Out}{g:Addr->Wm}(O:OkI X.prog X.w X.K X.mg X.base k ps f1 f2 f3)
 (hr:Room k' X.A) (hg:Gl X "Watch") (h1:ZE X e1 a1) (h2:ZE X e2 a2) (hN:X.N.Nodup) (rest:∀l,ZWB X l sts (g l)) (hk:k+1<=k':=by first | exact qs _ | omega)
 (hy:X.N[i]?=some y:=by rfl) (hx:Loc X.env.scope y:=by first | exact Or.inl rfl | exact Or.inr rfl) (hse:swapsWith (.Call (.Name "Watch" p2) [e1,e2] [] cpos) (some (.Name y p1)) pos.line X.env=pure false:=by rfl) (hf:X.fn y=true\/X.env.scope.names.lookup y=some .local:=by first | exact .inl rfl | exact .inr rfl)
 (hs1:starEach [e1,e2] X.env=(false,eval e1 X.env)::starEach [e2] X.env:=by rfl) (hs2:starEach [e2] X.env=(false,eval e2 X.env)::starEach [] X.env:=by rfl) (hpl:(backTo cpos (starEach [e2] X.env)).any (·.1)=false:=by rfl) :
 ZB X (.Assign [.Name y p1] (.Call (.Name "Watch" p2) [e1,e2] [] cpos) pos::sts) (Yoi i is f1 f2 f3 a1 a2 g):=by
 obtain⟨C,f,fd,hC,hm,mk,F,hb⟩:=O
 exact⟨Yvv i is mk hC F hb hr hg hm h1.un h2.un hN (fun l=>(rest l).un) hk hy hx hse hf hs1 hs2 hpl⟩
end
def Mq(K:W.Frag)(c m q:Str)(st:Stmt):Prop:=∃C f fd,W.nsIn K mainGlobals c=some (some (.ref C))/\Cls K C/\Meth K C m f/\Fun K m q st f fd
theorem mq_mk{K:W.Frag}{c m q:Str}{st:Stmt}{C f:Addr}{oc:Value}{od an:Option Addr}{osl:Array (Option Value)}{kV doc pm cdv ct:Value}(a:W.nsIn K mainGlobals c=some (some (.ref C)))(pg:W.plainGet K C Str.empty=true)(hd:W.hasDictIn K C=true)(po:W.plainOver K C=true)(sa:W.findIn K (.ref C) "__setattr__"=some (some (.builtin "object.__setattr__")))
 (i:W.findIn K (.ref C) m=some (some (.ref f))) (n:W.isFn K (.ref f)=true) (l:K.lookup f=some ⟨oc,od,.func (W.fnOf m q (defArgs st) (defBody st) (defScope st) .none kV doc pm an cdv ct),osl⟩) (cd:W.codeIn K cdv q=true) (k:W.keepIn K (.ref f)=true):Mq K c m q st:=
 ⟨C,f,_,a,⟨pg,hd,po,sa⟩,⟨i,n,k⟩,Ymy l cd k⟩
def Nq(K:W.Frag)(c f:Str):Prop:=∃C,W.nsIn K mainGlobals c=some (some (.ref C))/\Cls K C/\NoAttr K C f
theorem nq_mk{K:W.Frag}{c f:Str}{C:Addr}(a:W.nsIn K mainGlobals c=some (some (.ref C)))(pg:W.plainGet K C Str.empty=true)(hd:W.hasDictIn K C=true)(po:W.plainOver K C=true)(sa:W.findIn K (.ref C) "__setattr__"=some (some (.builtin "object.__setattr__")))(n:W.findIn K (.ref C) f=some none):Nq K c f:=
 ⟨C,a,⟨pg,hd,po,sa⟩,n⟩
theorem Nq.cf{K:W.Frag}{c f:Str}(h:Nq K c f):CF K c f:=fun C e=>by
 obtain⟨C',a,cl,n⟩:=h
 rw[a]at e
 cases e
 exact⟨cl,n⟩
def Iq(K:W.Frag)(st:Stmt):Prop:=∃C f fd,W.nsIn K mainGlobals "Watch"=some (some (.ref C))/\Mk K C f/\Fun K "__init__" "Watch.__init__" st f fd
theorem iq_mk{K:W.Frag}{st:Stmt}{C f:Addr}{oc:Value}{od an:Option Addr}{osl:Array (Option Value)}{kV doc pm cdv ct:Value}(a:W.nsIn K mainGlobals "Watch"=some (some (.ref C)))(mk:W.makesIn K C=true)(kc:W.keepIn K (.ref C)=true)
 (i:W.findIn K (.ref C) "__init__"=some (some (.ref f))) (n:W.isFn K (.ref f)=true) (l:K.lookup f=some ⟨oc,od,.func (W.fnOf "__init__" "Watch.__init__" (defArgs st) (defBody st) (defScope st) .none kV doc pm an cdv ct),osl⟩) (cd:W.codeIn K cdv "Watch.__init__"=true) (k:W.keepIn K (.ref f)=true):Iq K st:=
 ⟨C,f,_,a,⟨mk,i,n,kc⟩,Ymy l cd k⟩
def Bnm(x q:Str)(st:Stmt)(ps:List Str):Prop:=∀(kV doc pm:Value) (an:Option Addr) (cdv ct:Value) (us:List Value),us.length=ps.length->bindArgs (W.fnOf x q (defArgs st) (defBody st) (defScope st) .none kV doc pm an cdv ct) ⟨us,[]⟩=pure (ps.zip us)
section
variable {P:Program} {w:World} {K:W.Frag} {mg:Str->Option Value} {base:Heap}
theorem okmn{c x q:Str}{st:Stmt}{k n m:Nat}{N ps:List Str}{fb:Ro->Option Out}(F:Mq K c x q st)(S:FnScope N ps (defScope st))(hb:∀{f:Addr} {cdv:Value} {A:Around} {outer:List Env} {s:Shared} {H:Hp} {E:XK},Room k (A.deeper (envOfC q (defScope st) s.heap.objs.size f cdv))->ZB (cxOf CX0 P w K mg base N q (defScope st) f cdv A outer s H E).nox (defBody st) fb)(hn:N.length=n:=by rfl)(hm:ps.length=m:=by rfl)
 (B:Bnm x q st ps:=by(intro _ _ _ _ _ _ us hl;first | (obtain⟨_,rfl⟩:=len1 hl;rfl) | (obtain⟨_,_,rfl⟩:=len2 hl;rfl) | (obtain⟨_,_,_,rfl⟩:=len3 hl;rfl))):Okm P w K mg base (k+1) c x ps (spOf K m (runB m n fb)):=by
 obtain⟨C,f,fd,a,cl,me,fu⟩:=F
 exact⟨C,f,fd,Yf1 (k:=k) fu S hn hm fun _ _ _ _ _ _ hr=>hb hr,fu.binds B,a,cl,me⟩
theorem okms{c x q:Str}{st:Stmt}{k:Nat}{N ps:List Str}{g:Addr->Wm}(F:Mq K c x q st)(S:FnScope N ps (defScope st))(hb:∀{l:Addr} {f:Addr} {cdv:Value} {A:Around} {outer:List Env} {s:Shared} {H:Hp} {E:XK},Room k (A.deeper (envOfC q (defScope st) s.heap.objs.size f cdv))->ZWB (cxOf CX0 P w K mg base N q (defScope st) f cdv A outer s H E).nox l (defBody st) (g l))(hn:N.length=2:=by rfl)(hm:ps.length=2:=by rfl)
 (B:Bnm x q st ps:=by(intro _ _ _ _ _ _ us hl;obtain⟨_,_,rfl⟩:=len2 hl;rfl)):Okm P w K mg base (k+1) c x ps (spS K g):=by
 obtain⟨C,f,fd,a,cl,me,fu⟩:=F
 exact⟨C,f,fd,Yqi fu S hn hm fun _ _ _ _ _ _ _ hr=>(hb hr).un,fu.binds B,a,cl,me⟩
theorem okin{st:Stmt}{k:Nat}{N ps:List Str}{f1:Ro->Option Out}{f2 f3:Ro->Option D}(F:Iq K st)(hW:∀C,W.nsIn K mainGlobals "Watch"=some (some (.ref C))->mg "Watch"=some (.ref C))(S:FnScope N ps (defScope st))(k1:CF K "Watch" "book")(k2:CF K "Watch" "hands")(k3:CF K "Watch" "truths")
 (hb:∀{f:Addr} {cdv:Value} {A:Around} {outer:List Env} {s:Shared} {H:Hp} {E:XK},Room k (A.deeper (envOfC "Watch.__init__" (defScope st) s.heap.objs.size f cdv))->PSs (cxOf CX0 P w K mg base N "Watch.__init__" (defScope st) f cdv A outer s H E).nox (defBody st) (tSeq (sOf K f1) (tSeq (sFld K (tVar 0) (tOf K f2) "book") (tSeq (sFld K (tVar 0) (tOf K f3) "hands") (sFld K (tVar 0) (tLst tNil) "truths"))))) (hn:N.length=3:=by rfl) (hm:ps.length=3:=by rfl)
 (B:Bnm "__init__" "Watch.__init__" st ps:=by(intro _ _ _ _ _ _ us hl;obtain⟨_,_,_,rfl⟩:=len3 hl;rfl)):OkI P w K mg base (k+1) ps f1 f2 f3:=by
 obtain⟨C,f,fd,a,mk,fu⟩:=F
 exact⟨C,f,fd,a,hW C a,mk,Yvu fu S hn hm k1 k2 k3 fun _ _ _ _ _ _ hr=>hb hr,fu.binds B⟩
end
end
section
section
variable {X:Cx} {a:Expr} {fa:Ro->Option D} {pos px:Pos} {x:Str} {ks:List Str}
theorem Yy2(hu:X.A.units+64 < cLine){p:Addr}{o:Obj}{its:Array Value}{n:Nat}(hl:X.K.lookup p=some o)(hc:o.cls=.type "tuple")(hd:o.data=.seq its n)(hs:Yve its.toList ks):OpR X (compareOp .In) (rInG p ks false):=by
 intro pins s σ H x y v u Q I rx ry h
 obtain⟨k,rfl,hk,rfl,q⟩:=h
 cases ry
 obtain⟨t,rfl⟩:=rx
 obtain⟨as,h1,h2⟩:=Yix (h:=s.heap) hs
 have ht:Reads s.heap (.ref p) (.tuple (ks.map PyData.str)) _:=.tuple (I.kIn p o hl) hc hd h1
 refine SeqAt.in_tuple_reads ht (.str k t) (by simpa [PyData.canLay0]using h2) (by simp[PyData.canLay0,hk]) ?_ ⟨.bl _,H,I,rfl,?_⟩
 ·have e:(PyData.str k).depth=0:=by simp[PyData.depth]
  rw[e]
  omega
 ·rw[Yp2]
  have e:decide (k∈ks)=(decide (k∈ks) != false):=by cases decide (k∈ks)<;>rfl
  rw[e]
  exact q
theorem Yvx(hu:X.A.units+64 < cLine)(g:GT X.K X.mg x ks)(hg:Gl X x)(ha:ZC X a fa)(hm:behindInMarks .In (.Name x px)=false:=by with_unfolding_all rfl)(hd:(x==("__debug__":Str))=false:=by decide):ZE X (.Compare a [.In] [.Name x px] pos) (mB (b1 fa (inG false ks))):=by
 obtain⟨p,o,its,n,hmg,hl,hc,hdt,hs⟩:=g
 refine⟨PE.imp (Yo0 (Yy2 hu hl hc hdt hs) ha.un (Ylr (v:=.ref p) hg hmg rfl hd) hm) fun σ H Q hx_=>?_⟩
 obtain⟨ρ,b,H0,G0,G,e,s,h⟩:=hx_
 obtain⟨k,ek,rfl⟩:=Ylz e
 obtain⟨d,h1,h2⟩:=Yca ek
 refine tCof.at h1 s fun v H1 G1 g1 r1 s1=>?_
 unfold inG at h2
 split at h2
 ·rename_i k
  cases h2
  rw[Ct]at r1
  exact⟨k,r1.1,r1.2,rfl,h _ H1 G1 g1 (by rw[Rp])⟩
 ·cases h2
end
end
section
def Exc(h:Heap)(ea T:Addr)(C fl:Value):Prop:=
 ∃oe vs oT ts,h.get? ea=some oe/\(oe.cls=C/\vs[2]?=some .none)/\oe.data=.fields vs/\vs[1]?=some (.ref T)/\T≠ea/\h.get? T=some oT/\oT.data=.fields ts/\ts[3]?=some fl
structure XStep(h h':Heap)(ea T:Addr)(fr:List Addr):Prop where
 keep:∀b o,h.get? b=some o->b≠ea->b≠T->b∉fr->h'.get? b=some o
 slot:∀b o,h.get? b=some o->b∈fr->∃sl,h'.get? b=some { o with slots:=sl }
section
variable {M:Model} {A:Around} {E:Value->Shared->Prop} {s:Shared} {env:Env} {outer:List Env} {L ea T:Addr} {C:Value} {base h h' h0:Heap} {Q:Unit->Shared->Prop} {P:Program} {w:World} {H H0:Hp} {fr fs ex:List Addr}
theorem Yql{oe:Obj}{vs:Array Value}{head:Value}{had:Bool}(hfr:A.frames=some (env::outer))(ff:s.heap.FunFrames base (env::outer))(hf:env.frame=some L)(he:s.heap.get? ea=some oe)(hd:oe.data=.fields vs)(h2:vs[2]?=some .none)
 (hQ:∀h' T',Exc h' ea T' oe.cls (rawInt L)->s.heap.get? T'=none->XStep s.heap h' ea T' (frs (env::outer))->Q () { s with heap:=h' }) :
 wpAny M A (do let a <-frameOf env;let pl <-entryPlaceOf L had;let b <-EntryCells.newEntry head a .none (rawInt L) .none pl;setField (.ref ea) 1 b) Q E s:=by
 have hsz:1 < vs.size:=Nat.lt_of_succ_lt (Array.getElem?_eq_some_iff.mp h2).1
 have hne:ea∉frs (env::outer):=fun hm=>by
  obtain⟨_,o,ho,hn⟩:=ff.mem hm
  rw[he]at ho;cases ho;exact hn vs hd
 refine wpAny_bind (wpAny_frameOf_fun hfr ff hf fun h₁ hs=>?_)
 refine wpAny_bind (wpAny_entryPlaceOf fun pl hpl=>?_)
 unfold EntryCells.newEntry newFields
 refine wpAny_bind (wpAny_newObj_type ?_ (hpl.sizeOk5 _ _ _ _ _))
 have he₁:h₁.get? ea=some oe:=(hs.2.1 ea hne).trans he
 generalize hob:({ cls:=.type "traceback",dict:=none,data:=.fields ([head,.ref L,.none,rawInt L,.none]++(if pl.isEmpty then List.replicate 6 Value.none else pl)).toArray }:Obj)=ob
 have hTe:h₁.objs.size≠ea:=Nat.ne_of_gt (qk he₁)
 have he₂:=qd (h:=h₁) ob he₁
 refine wpAny_setField he₂ hd hsz (hQ _ h₁.objs.size ?_ (Heap.get?_none_of_le (by rw[hs.1];exact qs _)) ⟨fun b o e n1 n2 n3=>?_,fun b o e m=>?_⟩)
 ·have hd₃:=Obj.data_mapFields hd (·.setIfInBounds 1 (Value.ref h₁.objs.size))
  have hT:(h₁.push ob).get? h₁.objs.size=some ob:=qo h₁ (by rw[<-hob];rfl)
  refine⟨_,_,ob,_,Heap.get?_update_self _ he₂ (Obj.isFreed_of_fields hd₃),⟨Obj.cls_mapFields _ _,by rw[Array.getElem?_setIfInBounds_ne (by decide)];exact h2⟩,hd₃,by simp[hsz],hTe,(Heap.get?_update_other _ _ (Ne.symm hTe)).trans hT,by rw[<-hob],by first | (simp;done) | (rcases hpl with rfl | ⟨_,_,_,_,_,_,_,rfl⟩<;>simp)⟩
 ·rw[Heap.get?_update_other _ _ (Ne.symm n1)]
  exact qd _ ((hs.2.1 b n3).trans e)
 ·obtain⟨sl,q⟩:=hs.2.2 b o e
  refine⟨sl,?_⟩
  rw[Heap.get?_update_other _ _ (fun z=>hne (by rw[z];exact m))]
  exact qd _ q
theorem Yqm(hfr:A.frames=some (env::outer))(hf:env.frame=some L)(ff:s.heap.FunFrames base (env::outer))(x:Exc s.heap ea T C .none)
 (hQ:∀h' T',Exc h' ea T' C (rawInt L)->(T'=T\/s.heap.get? T'=none)->XStep s.heap h' ea T (frs (env::outer))->Q () { s with heap:=h' }):wpAny M A (noteFrame (.ref ea) env) Q E s:=by
 obtain⟨oe,vs,oT,ts,he,⟨rfl,h2⟩,hd,h1,hne,hT,hdT,h3⟩:=x
 unfold noteFrame
 simp only[hf]
 refine wpAny_bind (wpAny_field he hd h1 ?_)
 rw[if_pos (show(Value.ref T != Value.none)=true from by simp)]
 refine wpAny_bind (wpAny_field hT hdT h3 ?_)
 rw[if_neg (show ¬((Value.none==rawInt L)=true) from by simp[rawInt])]
 refine wpAny_bind (wpAny_setField hT hdT (Array.getElem?_eq_some_iff.mp h3).1 ?_)
 have other:∀b,b≠T->(s.heap.update T (Obj.mapFields (·.setIfInBounds 3 Value.none))).get? b=s.heap.get? b:=fun b hb=>Heap.get?_update_other _ _ (Ne.symm hb)
 have nT:∀b∈frs (env::outer),b≠T:=fun b hb z=>by
  obtain⟨_,o,ho,hn⟩:=ff.mem hb
  rw[z,hT]at ho;cases ho;exact hn ts hdT
 have ff':(s.heap.update T (Obj.mapFields (·.setIfInBounds 3 Value.none))).FunFrames base (env::outer):=ff.of_keeps fun b o hb hn=>⟨o,(other b fun z=>by rw[z,hT]at hb;cases hb;exact hn ts hdT).trans hb,rfl⟩
 refine Yql hfr ff' hf ((other ea (Ne.symm hne)).trans he) hd h2 fun h' T' x' n st=>?_
 have nT':T'=T\/s.heap.get? T'=none:=by
  by_cases z:T'=T
  ·exact .inl z
  ·exact .inr ((other T' z).symm.trans n)
 refine hQ h' T' x' nT' ⟨fun b o e n1 n2 n3=>st.keep b o ((other b n2).trans e) n1 (fun z=>?_) n3,fun b o e m=>st.slot b o ((other b (nT b m)).trans e) m⟩
 rcases nT' with q | q
 ·exact n2 (z.trans q)
 ·rw[z,q]at e;cases e
theorem Yjw{l:List Env}{fl:Value}(x:Exc s.heap ea T C fl)
 (hQ:∀h',Exc h' ea T C .none->XStep s.heap h' ea T (frs l)->(∀b o,s.heap.get? b=some o->b≠T->h'.get? b=some o)->Q () { s with heap:=h' }) (ff:s.heap.FunFrames base l):wpAny M A (setFlight (.ref ea) none) Q E s:=by
 obtain⟨oe,vs,oT,ts,he,hc,hd,h1,hne,hT,hdT,h3⟩:=x
 have hsz:3 < ts.size:=(Array.getElem?_eq_some_iff.mp h3).1
 unfold setFlight
 refine wpAny_bind (wpAny_field he hd h1 ?_)
 rw[if_pos (show(Value.ref T != Value.none)=true from by simp)]
 have other:∀b,b≠T->(s.heap.update T (Obj.mapFields (·.setIfInBounds 3 ((none:Option Addr).elim Value.none fun f=>rawInt f)))).get? b=s.heap.get? b:=fun b hb=>Heap.get?_update_other _ _ (Ne.symm hb)
 refine wpAny_setField hT hdT hsz (hQ _ ?_ ⟨fun b o e _ n2 _=>(other b n2).trans e,fun b o e m=>⟨o.slots,(other b fun z=>?_).trans e⟩⟩ fun b o e n=>(other b n).trans e)
 ·exact⟨oe,vs,_,_,(other ea (Ne.symm hne)).trans he,hc,hd,h1,hne,Heap.get?_update_self _ hT (Obj.isFreed_of_fields (Obj.data_mapFields hdT _)),Obj.data_mapFields hdT _,by simp[hsz]⟩
 ·obtain⟨_,o',ho,hn⟩:=ff.mem m
  rw[z,hT]at ho;cases ho;exact hn ts hdT
theorem Yhp{h h' base:Heap}:∀{l:List Env},h.FunFrames base l->(∀b∈frs l,∀o,h.get? b=some o->∃sl,h'.get? b=some { o with slots:=sl })->h'.FunFrames base l
 | [],_,_=>trivial
 | env::r,⟨hk,⟨L,o,hf,hn,ho,hd⟩,hr⟩,hb=>by
   have e:frs (env::r)=L::frs r:=by unfold frs;rw[List.filterMap_cons,hf]
   obtain⟨sl,q⟩:=hb L (by rw[e];exact .head _) o ho
   exact⟨hk,⟨L,_,hf,hn,q,hd⟩,Yhp hr fun b q=>hb b (by rw[e];exact .tail _ q)⟩
theorem Ysq(hfr:A.frames=some (env::outer))(hf:env.frame=some L)(ff:s.heap.FunFrames base (env::outer))(x:Exc s.heap ea T C .none)
 (hQ:∀h' T',Exc h' ea T' C .none->(T'=T\/s.heap.get? T'=none)->XStep s.heap h' ea T (frs (env::outer))->Q () { s with heap:=h' }):wpAny M A (leaving env (.ref ea)) Q E s:=by
 unfold leaving
 refine wpAny_bind (Yqm hfr hf ff x fun h1 T1 x1 z1 st1=>?_)
 refine Yjw (base:=base) (l:=env::outer) x1 (fun h2 x2 st2 _=>hQ h2 T1 x2 z1 ⟨fun b o e n1 n2 n3=>?_,fun b o e m=>?_⟩) (Yhp ff fun b hb o e=>st1.slot b o e hb)
 ·refine st2.keep b o (st1.keep b o e n1 n2 n3) n1 (fun z=>?_) n3
  rcases z1 with q | q
  ·exact n2 (z.trans q)
  ·rw[z,q]at e;cases e
 ·obtain⟨sl,q⟩:=st1.slot b o e m
  obtain⟨sl',q'⟩:=st2.slot b _ q m
  exact⟨sl',q'⟩
theorem Yoj{h:Heap}{args:List Value}(hfr:A.frames=some (env::outer))(hf:env.frame=some L)(ff:h.FunFrames base (env::outer))(hx:Heap.MadeExcOf h s.heap ea C args)
 (hQ:∀h' T',Exc h' ea T' C .none->h.get? T'=none->XStep h h' ea T' (frs (env::outer))->Q () { s with heap:=h' }):wpAny M A (leaving env (.ref ea)) Q E s:=by
 obtain⟨t,he,_,_⟩:=hx.there
 have ff':s.heap.FunFrames base (env::outer):=ff.of_keeps fun b o hb _=>⟨o,hx.keeps b o hb,rfl⟩
 unfold leaving
 refine wpAny_bind ?_
 unfold noteFrame
 simp only[hf]
 refine wpAny_bind (wpAny_field he rfl (x:=.none) rfl ?_)
 rw[if_neg (by decide)]
 refine Yql hfr ff' hf he rfl rfl fun h1 T1 x1 z1 st1=>?_
 have no:h.get? T1=none:=by
  cases q:h.get? T1 with
  | none=>rfl
  | some o=>rw[hx.keeps _ _ q]at z1;cases z1
 refine Yjw (base:=base) (l:=env::outer) x1 (fun h2 x2 st2 _=>hQ h2 T1 x2 no ⟨fun b o e n1 n2 n3=>?_,fun b o e m=>?_⟩) (Yhp ff' fun b hb o e=>st1.slot b o e hb)
 ·exact st2.keep b o (st1.keep b o (hx.keeps _ _ e) n1 n2 n3) n1 n2 n3
 ·obtain⟨sl,q⟩:=st1.slot b o (hx.keeps _ _ e) m
  obtain⟨sl',q'⟩:=st2.slot b _ q m
  exact⟨sl',q'⟩
theorem XStep.hok(st:XStep h h' ea T fr)(x:HOk P w H h)(he:H ea=none)(hT:H T=none)(hf:∀b∈fr,H b=none):HOk P w H h':=fun a o e=>by
 refine(x a o e).stay (fun b u hb q=>?_) (fun _ z=>z) fun _ _ z=>z
 have n:H b≠none:=fun z=>by
  rcases hb with rfl | hb
  ·rw[e]at z;cases z
  ·rw[hb]at z;cases z
 exact st.keep b u q (fun z=>n (by rw[z];exact he)) (fun z=>n (by rw[z];exact hT)) fun z=>n (hf b z)
theorem ObjOk.there{a:Addr}{o:HO}(x:ObjOk P w H h a o):∃u,h.get? a=some u:=by
 cases o with
 | lst xs=>obtain⟨_,_,_,_,e⟩:=x;exact⟨_,e⟩
 | tup xs=>obtain⟨_,_,_,u,e,_⟩:=x;exact⟨_,e⟩
 | dK kvs=>obtain⟨_,_,_,_,o,_,_,e,_⟩:=x;exact⟨_,e⟩
 | dT kvs=>obtain⟨_,_,_,_,o,_,_,e,_⟩:=x;exact⟨_,e⟩
 | set S n=>obtain⟨o,_,_,_,e,_⟩:=x;exact⟨_,e⟩
 | ins C dx fs=>obtain⟨_,_,_,e,_⟩:=x;exact⟨_,e⟩
 | own y=>obtain⟨_,e⟩:=x;exact⟨_,e⟩
 | xd fs=>obtain⟨_,⟨_,_,_,e,_⟩,_⟩:=x;exact⟨_,e⟩
 | rng lo hi=>obtain⟨_,_,_,e⟩:=x;exact⟨_,e⟩
 | frz ob u=>obtain⟨e,_⟩:=x;exact⟨_,e⟩
 | tbl ps=>exact⟨_,(show h.get? a=some _ from x)⟩
 | met f y=>exact⟨_,(show h.get? a=some _ from x)⟩
 | ext φ=>obtain⟨_,⟨_,e⟩,_⟩:=x;exact⟨_,e⟩
theorem Ycz(x:HOk P w H h){a:Addr}(e:h.get? a=none):H a=none:=by
 cases q:H a with
 | none=>rfl
 | some o=>
   obtain⟨u,z⟩:=ObjOk.there (x a o q)
   rw[e]at z;cases z
theorem XStep.un(st:XStep h h' ea T fr)(u:Un fs ex H0 H h0 h)(he:h0.get? ea=none)(hT:h0.get? T=none)(hf:∀b∈fr,b∈fs\/h0.get? b=none):Un fs ex H0 H h0 h':=by
 have ne:∀b o,h0.get? b=some o->b≠ea/\b≠T:=fun b o e=>⟨fun z=>(by rw[z,he]at e;cases e),fun z=>(by rw[z,hT]at e;cases e)⟩
 refine⟨fun b o e n m1 m2=>?_,fun b o e n m1 m2=>?_,u.free,fun b o e m=>?_,u.tups,u.frzs,u.tbls⟩
 ·refine st.keep b o (u.keep b o e n m1 m2) (ne b o e).1 (ne b o e).2 fun z=>?_
  rcases hf b z with z | z
  ·exact m1 z
  ·rw[z]at e;cases e
 ·obtain⟨sl,e1⟩:=u.slot b o e n m1 m2
  by_cases z:b∈fr
  ·obtain⟨sl',e2⟩:=st.slot b _ e1 z
   exact⟨sl',e2⟩
  ·exact⟨sl,st.keep b _ e1 (ne b o e).1 (ne b o e).2 z⟩
 ·obtain⟨o',e1⟩:=u.there b o e m
  by_cases z:b∈fr
  ·obtain⟨sl',e2⟩:=st.slot b _ e1 z
   exact⟨_,e2⟩
  ·exact⟨o',st.keep b _ e1 (ne b o e).1 (ne b o e).2 z⟩
end
def CXN(P:Program)(w:World):CXT:=fun outer H s E e s'=>
 ∃ea T H' C,e=.ref ea/\s'.os=s.os/\AllBare s'.gens/\Un (frs outer) [] H H' s.heap s'.heap/\HOk P w H' s'.heap/\Exc s'.heap ea T C .none/\s.heap.get? ea=none/\s.heap.get? T=none/\H' ea=none/\H' T=none/\E C none H'
section
variable {P:Program} {w:World} {K:W.Frag} {mg:Str->Option Value} {base:Heap} {N:List Str} {qual:Str} {scope:Scope} {f:Addr} {cd:Value} {A:Around} {outer:List Env} {s0:Shared} {H0:Hp} {E:XK}
theorem Ycn{X:Cx}{pins:List (Addr × Obj)}{σ:L2.St}{H:Hp}{s:Shared}(I:Inv X pins σ H s)(hx:X.ex=[]){a:Addr}(e:s.heap.get? a=none):X.s₀.heap.get? a=none:=by
 cases q:X.s₀.heap.get? a with
 | none=>rfl
 | some o=>
   obtain⟨o',z⟩:=I.base.there a o q (by rw[hx];exact fun z=>nomatch z)
   rw[e]at z;cases z
theorem y0j:Yf7 (CXN P w) (cxOf (CXN P w) P w K mg base N qual scope f cd A outer s0 H0 E) E:=by
 rintro pins σ H s e s' I ⟨ea,T,H',C,rfl,os,bare,un,hok,x,n1,n2,n3,n4,hE⟩
 have J:=I.call' os un hok bare (fun b z=>nomatch z)
 have e1:=Ycn I rfl n1
 have e2:=Ycn I rfl n2
 show wpAny _ _ (leaving _ _) _ _ _
 refine Ysq (base:=base) I.ok.frames rfl J.stack x fun h' T' x' hT' st=>?_
 have hT0:s0.heap.get? T'=none:=by
  rcases hT' with rfl | z
  ·exact e2
  ·exact Ycn J rfl z
 have hT1:H' T'=none:=by
  rcases hT' with rfl | z
  ·exact n4
  ·exact Ycz J.hok z
 have fr:∀b∈frs (envOfC qual scope s0.heap.objs.size f cd::outer),b∈frs outer\/s0.heap.get? b=none:=fun b hb=>by
  rcases qr (show b∈s0.heap.objs.size::frs outer from hb)with rfl | hb
  ·exact .inr (Heap.get?_none_of_le (qs _))
  ·exact .inl hb
 exact⟨ea,T',H',C,rfl,J.os,J.bare,st.un J.base e1 e2 fr,st.hok J.hok n3 n4 J.stkFree,x',e1,hT0,n3,hT1,hE⟩
end
end
section
def vM:List Value:=[.type "ValueError",.type "Exception",.type "BaseException",.type "object"]
def mroK(K:W.Frag)(C:Addr):List Value:=match K.lookup C with
 | some ⟨_,_,.cls cd,_⟩=>cd.mro
 | _=>[]
abbrev XC(K:W.Frag)(C:Addr):Prop:=W.excIn K C vM "ValueError.__new__"=true
theorem Yi1{K:W.Frag}{h:Heap}{C:Addr}(X:K.In h)(q:XC K C):∃bm N nm q bs hdct sn sub ab col dd k0 k1 k2 k3 k5 mN,
 h.get? C=some (excClassObj nm q C N bs bm hdct sn sub ab col dd k0 k1 k2 k3 k5 "ValueError.__new__")/\h.Ns N mN/\mN "__init__"=none/\OwnTail h vM bm/\mroK K C=.ref C::bm:=by
 unfold XC W.excIn at q
 split at q
 ·rename_i dd cd sl ho
  split at q
  ·rename_i C' bm k0 k1 k2 k3 n k5 hm hs
   simp only[Bool.and_eq_true,beq_iff_eq,Bool.not_eq_true']at q
   obtain⟨⟨⟨⟨⟨rfl,rfl⟩,hdel⟩,ht⟩,hok⟩,hni⟩:=q
   obtain⟨nm,bs,mro,ns,qn,hd,sn,sub,ab,col,del⟩:=cd
   dsimp only at hm hdel hok hni
   subst hm hdel
   have hsl:sl=#[k0,k1,k2,k3,some (.builtin "ValueError.__new__"),k5]:=by
    obtain⟨l⟩:=sl
    simp only at hs
    rw[hs]
   subst hsl
   exact⟨bm,ns,nm,qn,bs,hd,sn,sub,ab,col,dd,k0,k1,k2,k3,k5,_,X _ _ ho,.of_isNs (W.isNs_of_in X hok),W.nsMap_none_of_in X hok hni,W.tail_of_in X ht,by unfold mroK;rw[ho]⟩
  ·cases q
 ·cases q
section
variable {P:Program} {w:World} {K:W.Frag} {mg:Str->Option Value} {base:Heap} {N:List Str} {qual:Str} {scope:Scope} {f:Addr} {cd:Value} {A:Around} {outer:List Env} {s0:Shared} {H0:Hp} {E:XK}
theorem Ysr{C:Addr}{x m:Str}{np p1 cpos pos:Pos}{j:Nat}(hm:mg x=some (.ref C))(hc:XC K C)(hg:Gl (cxOf (CXN P w) P w K mg base N qual scope f cd A outer s0 H0 E) x:=by rfl)(hdb:(x==("__debug__":Str))=false:=by decide)
 (hs:starEach [Expr.Constant (.str m) j p1] (envOfC qual scope s0.heap.objs.size f cd)=[(false,eval (Expr.Constant (.str m) j p1) (envOfC qual scope s0.heap.objs.size f cd))]:=by rfl) :
 PS (cxOf (CXN P w) P w K mg base N qual scope f cd A outer s0 H0 E) (.Raise (some (.Call (.Name x np) [.Constant (.str m) j p1] [] cpos)) none pos) (fun _ _ H=>E (.ref C) none H):=by
 intro pins s σ H D I h
 obtain⟨bm,N',nm,q,bs,hdct,sn,sub,ab,col,dd,k0,k1,k2,k3,k5,mN,hC,hN,hni,T,_⟩:=Yi1 I.kIn hc
 refine wpAny_Raise_call_subT (nm:=nm) (q:=q) (N:=N') (bs:=bs) (hdct:=hdct) (sn:=sn) (sub:=sub) (ab:=ab) (col:=col) (dd:=dd) (k0:=k0) (k1:=k1) (k2:=k2) (k3:=k3) (k5:=k5) (bmB:=vM) PySem.F.excBase_ValueError (T.hasType (by decide)) (I.ok.hd rfl) (by show(backTo cpos (starEach _ (envOfC qual scope s0.heap.objs.size f cd))).any _=false;rw[hs];rfl) hni (Yfs I hg hm ⟨rfl,?_⟩ hdb)
 show wpAny _ _ (evalArgs _ _ (backTo cpos (starEach _ (envOfC qual scope s0.heap.objs.size f cd))) _) _ _ _
 rw[hs]
 refine PySem.Calls.evalArgs_plain (PySem.Calls.spliced_cons ?_)
 show wpAny _ _ (eval (Expr.Constant (.str m) j p1) _) _ _ _
 refine PySem.Calls.Constant_str (PySem.Calls.spliced_nil ⟨rfl,by show 1<=sizeLine;decide,hC,hN,T,fun h' ea hx=>?_⟩)
 show wpAny _ _ (leaving _ _) _ _ _
 have ff:s.heap.FunFrames base (envOfC qual scope s0.heap.objs.size f cd::outer):=I.stack
 refine Yoj (base:=base) (h:=s.heap) I.ok.frames rfl ff hx fun h' T' x' n2 st=>?_
 have e1:=Ycn I rfl hx.new
 have e2:=Ycn I rfl n2
 have n3:=Ycz I.hok hx.new
 have n4:=Ycz I.hok n2
 have fr:∀b∈frs (envOfC qual scope s0.heap.objs.size f cd::outer),b∈frs outer\/s0.heap.get? b=none:=fun b hb=>by
  rcases qr (show b∈s0.heap.objs.size::frs outer from hb)with rfl | hb
  ·exact .inr (Heap.get?_none_of_le (qs _))
  ·exact .inl hb
 exact⟨ea,T',H,.ref C,rfl,I.os,I.bare,st.un I.base e1 e2 fr,st.hok I.hok n3 n4 I.stkFree,x',e1,e2,n3,n4,h⟩
end
end
section
structure Ofa(X:Cx)(pins:List (Addr × Obj))(H:Hp)(b:Addr):Prop where
 s0:X.s₀.heap.get? b=none
 hp:H b=none
 lo:b≠X.env.locals
 ce:∀x c,X.env.cells.lookup x=some c->c≠b
 pi:∀p∈X.pn++pins,p.1≠b
section
variable {X:Cx} {pins:List (Addr × Obj)} {σ:L2.St} {H H':Hp} {s:Shared} {b ea T:Addr} {h':Heap}
theorem Ofa.of(I:Inv X pins σ H s)(hx:X.ex=[])(e:s.heap.get? b=none)(hp:H' b=none):Ofa X pins H' b where
 s0:=Ycn I hx e
 hp:=hp
 lo:=fun z=>by
  obtain⟨m,⟨o,_,_,q,_⟩,_⟩:=I.loc
  rw[z,q]at e;cases e
 ce:=fun x c q z=>by
  obtain⟨v,o,q2,_⟩:=I.cell x c q
  rw[<-z,q2]at e;cases e
 pi:=fun p hp z=>by
  have:=(I.pin p hp).1
  rw[z,e]at this;cases this
theorem Ofa.none(I:Inv X pins σ H s)(hx:X.ex=[])(e:s.heap.get? b=none):Ofa X pins H b:=Ofa.of I hx e (Ycz I.hok e)
theorem Yvy(I:Inv X pins σ H s)(st:XStep s.heap h' ea T (frs X.stack))(oe:Ofa X pins H ea)(oT:Ofa X pins H T):Inv X pins σ H { s with heap:=h' }:=by
 have fr:∀b∈frs X.stack,b∈X.fs\/X.s₀.heap.get? b=none:=fun b hb=>by
  rcases qr (I.stkSub b hb)with rfl | hb
  ·exact .inr (Heap.get?_none_of_le I.ok.above)
  ·exact .inl hb
 have any:∀b o,s.heap.get? b=some o->b≠ea->b≠T->∃sl,h'.get? b=some { o with slots:=sl }:=fun b o e n1 n2=>by
  by_cases z:b∈frs X.stack
  ·exact st.slot b o e z
  ·exact⟨o.slots,st.keep b o e n1 n2 z⟩
 have cellK:∀x c,X.env.cells.lookup x=some c->∀v,s.heap.IsCell c v->h'.IsCell c v:=fun x c e v ⟨o,ho,hd⟩=>by
  obtain⟨sl,q⟩:=any c o ho (oe.ce x c e) (oT.ce x c e)
  exact⟨_,q,hd⟩
 refine⟨I.ok,I.os,I.bare,st.un I.base oe.s0 oT.s0 fr,?_,fun x c e=>?_,I.free,I.freeC,fun p hp=>?_,st.hok I.hok oe.hp oT.hp I.stkFree,I.len⟩
 ·obtain⟨m,⟨o,es,ep,ho,r⟩,hl⟩:=I.loc
  obtain⟨sl,q⟩:=any _ o ho (Ne.symm oe.lo) (Ne.symm oT.lo)
  refine⟨m,⟨_,es,ep,q,r⟩,fun i x v e1 e2 e3=>?_⟩
  obtain⟨u,r,l⟩:=hl i x v e1 e2 e3
  refine⟨u,r,?_⟩
  rcases l with l | ⟨k,c,e,z⟩
  ·exact .inl l
  ·exact .inr ⟨k,c,e,cellK x c e _ z⟩
 ·obtain⟨v,z⟩:=I.cell x c e
  exact⟨v,cellK x c e v z⟩
 ·obtain⟨e,n,ne,nf,d⟩:=I.pin p hp
  refine⟨st.keep p.1 p.2 e (oe.pi p hp) (oT.pi p hp) fun z=>?_,n,ne,nf,d⟩
  rcases qr (I.stkSub _ z)with q | q
  ·exact ne q
  ·exact nf q
end
abbrev Cx.mk(X:Cx)(ea:Addr)(pn:List (Addr × Obj)):Cx:={ X with A:=X.A.mark (some (.ref ea)),calm:=false,pn:=pn++X.pn,xe:=fun _ _=>False }
section
variable {X:Cx} {pins pn:List (Addr × Obj)} {σ:L2.St} {H:Hp} {s:Shared} {ea:Addr}
theorem Inv.mk(I:Inv X pins σ H s)(hp:∀p∈pn,s.heap.get? p.1=some p.2/\H p.1=none/\p.1≠X.env.locals/\p.1∉X.fs/\∀v,p.2.data≠.cell v):Inv (Cx.mk X ea pn) pins σ H s:=
 ⟨⟨I.ok.mod,I.ok.kind,I.ok.glob,I.ok.blt,I.ok.above,I.ok.inj,I.ok.has,I.ok.cab,(fun z=>nomatch z),I.ok.frames,I.ok.stk,I.ok.exf,I.ok.bs,I.ok.bsz,I.ok.noex,I.ok.exfs,I.ok.funs,I.ok.frf⟩,I.os,I.bare,I.base,I.loc,I.cell,I.free,I.freeC,fun p q=>by
  rcases qt (show p∈(pn++X.pn)++pins from q)with q | q
  ·rcases qt q with q | q
   ·exact hp p q
   ·exact I.pin p (List.mem_append.mpr (.inl q))
  ·exact I.pin p (List.mem_append.mpr (.inr q)),I.hok,I.len⟩
theorem Inv.unmk(ok:X.Ok)(I:Inv (Cx.mk X ea pn) pins σ H s):Inv X pins σ H s:=
 ⟨ok,I.os,I.bare,I.base,I.loc,I.cell,I.free,I.freeC,fun p q=>I.pin p (by
  rcases qt q with q | q
  ·exact List.mem_append.mpr (.inl (List.mem_append.mpr (.inr q)))
  ·exact List.mem_append.mpr (.inr q)),I.hok,I.len⟩
theorem Yvz(ok:X.Ok){D:Ends}{fl:Flow}{s':Shared}(h:SP (Cx.mk X ea pn) pins D fl s'):SP X pins D fl s':=by
 cases fl with
 | next=>obtain⟨σ',H',I,q⟩:=h;exact⟨σ',H',Inv.unmk ok I,q⟩
 | brk=>obtain⟨σ',H',I,q⟩:=h;exact⟨σ',H',Inv.unmk ok I,q⟩
 | cont=>obtain⟨σ',H',I,q⟩:=h;exact⟨σ',H',Inv.unmk ok I,q⟩
 | ret u=>obtain⟨v,σ',H',I,r,q⟩:=h;exact⟨v,σ',H',Inv.unmk ok I,r,q⟩
end
theorem Yma{K:W.Frag}{M:Model}{A:Around}{E:Value->Shared->Prop}{s:Shared}{e B C:Addr}{oe:Obj}{Q:Bool->Shared->Prop}(X:K.In s.heap)(hB:XC K B)(hC:XC K C)(he:s.heap.get? e=some oe)(hcls:oe.cls=.ref C)
 (hq:Q ((mroK K C).contains (.ref B)) s):wpAny M A (excMatches (.ref e) (.ref B)) Q E s:=by
 obtain⟨bm,N,nm,q,bs,hdct,sn,sub,ab,col,dd,k0,k1,k2,k3,k5,mN,oC,_,_,T,em⟩:=Yi1 X hC
 obtain⟨bm',N',nm',q',bs',hdct',sn',sub',ab',col',dd',l0,l1,l2,l3,l5,mN',oB,_,_,T',em'⟩:=Yi1 X hB
 rw[em]at hq
 obtain⟨hp,g,d,t,os⟩:=s
 have hcB:(Value.ref B::bm').contains (.type "BaseException")=true:=by rw[List.contains_cons,T'.hasType (show vM.contains (.type "BaseException")=true by decide),Bool.or_true]
 have f:=tc_notTuple
 unfold excMatches
 repeat (first | (with_reducible refine wpAny_loadPart_at he ?_;rw[hcls]) | with_reducible refine wpAny_loadPart_at oB ?_ | (with_reducible refine wpAny_isSubtype_exc oB ?_;rw[hcB]) | with_reducible refine wpAny_isSubtype_exc oC ?_ | wp_step)
 all_goals (generalize (Value.ref C::bm).contains (.ref B)=z at *;cases z<;>(wp_walk;first | exact hq | done))
end
section
section
variable {X:Cx} {pins:List (Addr × Obj)} {σ:L2.St} {H:Hp} {s:Shared} {ea T:Addr} {C:Value} {M:Model} {E:Value->Shared->Prop} {Q:Flow->Shared->Prop} {hs:List ExceptHandler}
theorem Yss{h':Heap}{T':Addr}(I:Inv X pins σ H s)(hx:X.ex=[])(oT:Ofa X pins H T)(z:T'=T\/s.heap.get? T'=none):Ofa X pins H T':=by
 rcases z with rfl | z
 ·exact oT
 ·exact Ofa.none I hx z
theorem Yy3(hx:X.ex=[])(hst:X.stack=X.env::X.outer)(hf:X.env.frame=some X.env.locals)(I:Inv X pins σ H s)(x:Exc s.heap ea T C .none)(oe:Ofa X pins H ea)(oT:Ofa X pins H T)
 (k:∀h' T',Inv X pins σ H { s with heap:=h' }->Exc h' ea T' C .none->Ofa X pins H T'->wpAny M X.A (handleBy (.ref ea) X.env hs) Q E { s with heap:=h' }) :
 wpAny M X.A (noteFrame (.ref ea) X.env) (fun _ s₂=>wpAny M X.A (setFlight (.ref ea) none) (fun _ s₃=>wpAny M X.A (handleBy (.ref ea) X.env hs) Q E s₃) E s₂) E s:=by
 have ff:=I.stack
 rw[hst]at ff
 refine Yqm (by rw[I.ok.frames,hst]) hf ff x fun h1 T1 x1 z1 st1=>?_
 rw[<-hst]at st1
 have I1:=Yvy I st1 oe oT
 have oT1:=Yss (h':=h1) I hx oT z1
 refine Yjw (base:=X.base) (l:=X.stack) x1 (fun h2 x2 st2 _=>?_) I1.stack
 exact k h2 T1 (Yvy (s:={ s with heap:=h1 }) I1 st2 oe oT1) x2 oT1
def Xo(ob:Obj)(C:Value):Prop:=ob.cls=C/\∃vs,ob.data=.fields vs/\vs[2]?=some .none
theorem Ytu(I:Inv X pins σ H s)(x:Exc s.heap ea T C .none)(oe:Ofa X pins H ea):∃ob,Xo ob C/\∀p∈[(ea,ob)],s.heap.get? p.1=some p.2/\H p.1=none/\p.1≠X.env.locals/\p.1∉X.fs/\∀v,p.2.data≠.cell v:=by
 obtain⟨ob,vs,oT,ts,h1,h2,h3,_⟩:=x
 refine⟨ob,⟨h2.1,vs,h3,h2.2⟩,fun p hp=>?_⟩
 obtain rfl:p=(ea,ob):=by simpa using hp
 refine⟨h1,oe.hp,oe.lo,fun z=>?_,fun v z=>?_⟩
 ·obtain⟨_,o,q,_⟩:=I.ok.funs.mem z
  rw[oe.s0]at q;cases q
 ·rw[h3]at z;cases z
end
section
variable {X:Cx} {pins:List (Addr × Obj)} {σ:L2.St} {H:Hp} {s:Shared} {ea T B C:Addr} {E:Value->Shared->Prop} {Q:Flow->Shared->Prop} {rest:List ExceptHandler} {y n:Str} {np hpos:Pos} {b₀:Stmt} {suite:List Stmt}
theorem Yqn{i:Nat}(hx:X.ex=[])(I:Inv X pins σ H s)(x:Exc s.heap ea T (.ref C) .none)(oe:Ofa X pins H ea)(oT:Ofa X pins H T)(hB:XC X.K B)(hC:XC X.K C)(hy:X.mg y=some (.ref B))(hg:Gl X y)(hin:(mroK X.K C).contains (.ref B)=true)(hdb:(y==("__debug__":Str))=false)
 (hN:X.N.Nodup) (hi:X.N[i]?=some n) (hl:Loc X.env.scope n) (hf:X.fn n=true\/X.env.scope.names.lookup n=some .local)
 (k:∀s' ob,Xo ob (.ref C)->Inv (Cx.mk X ea [(ea,ob)]) pins (σ.set i (some (V.ref ea))) H s'->wpAny (model X.prog X.w) (X.A.mark (some (.ref ea))) (execs (b₀::suite) X.env) (fun f s₄=>wpAny (model X.prog X.w) X.A (do bindName X.env n .none;unbindBehindTheSuite X.env n hpos) (fun _ s₅=>Q f s₅) E s₄) (fun _ _=>False) s') :
 wpAny (model X.prog X.w) X.A (handleBy (.ref ea) X.env (.ExceptHandler (some (.Name y np)) (some n) (b₀::suite) hpos::rest)) Q E s:=by
 obtain⟨ob,hcl,hp⟩:=Ytu I x oe
 have he:=(hp _ (.head _)).1
 have J:=Inv.mk (ea:=ea) I hp
 refine wpAny_handleBy_cons (codeAny_handlers_test (Yfs (X:=Cx.mk X ea [(ea,ob)]) J hg hy ?_ hdb)) (by intro q;cases q)
 refine Yma I.kIn hB hC he hcl.1 ?_
 rw[hin]
 refine codeAny_handlers_suite_as ?_
 refine Yjw (base:=X.base) (l:=X.stack) x (fun h2 x2 st2 _=>?_) I.stack
 have I2:=Yvy I st2 oe oT
 obtain⟨ob2,hcl2,hp2⟩:=Ytu I2 x2 oe
 refine Yja (X:=Cx.mk X ea [(ea,ob2)]) (v:=V.ref ea) (Inv.mk I2 hp2) hN hi hl rfl (fun s' I'=>?_) hf
 exact wpAny_mono (k _ ob2 hcl2 I') (fun _ _ z=>z) fun _ _ z=>z.elim
theorem Yqo{i:Nat}{Q:Unit->Shared->Prop}{M:Model}(I:Inv X pins σ H s)(hN:X.N.Nodup)(hi:X.N[i]?=some n)(hl:X.env.kindOf n=some .local)(k:∀s',Inv X pins (σ.set i none) H s'->Q () s') :
 wpAny M X.A (do bindName X.env n .none;unbindBehindTheSuite X.env n hpos) Q E s:=by
 obtain⟨m,hn,hlk⟩:=id I.loc
 refine wpAny_nameGoes_keeps hl hn (by rw[I.ok.kind];rfl) fun h' v hn' sb=>k _ ?_
 have cne:=I.cne
 have hiσ:i < σ.length:=by rw[I.len];exact(qm hi).1
 refine⟨I.ok,I.os,I.bare,⟨fun b o e n hb hx=>?_,fun b o e n hb hx=>?_,I.base.free,fun b o e hx=>?_,I.base.tups,I.base.frzs,I.base.tbls⟩,⟨_,hn',fun j y v' e1 e2 e3=>?_⟩,fun y c e=>?_,I.free,I.freeC,fun p hp=>?_,fun b ob e=>?_,by rw[List.length_set];exact I.len⟩
 ·exact(sb.2 b (ql (Qa (qk e) I.ok.above))).trans (I.base.keep b o e n hb hx)
 ·obtain⟨sl,e1⟩:=I.base.slot b o e n hb hx
  exact⟨sl,(sb.2 b (ql (Qa (qk e) I.ok.above))).trans e1⟩
 ·obtain⟨o',e1⟩:=I.base.there b o e hx
  exact⟨o',(sb.2 b (ql (Qa (qk e) I.ok.above))).trans e1⟩
 ·by_cases hj:j=i
  ·subst hj
   rw[List.getElem?_set_self hiσ]at e2
   cases e2
  ·rw[qy (Ne.symm hj)]at e2
   obtain⟨u',r',q⟩:=hlk j y v' e1 e2 e3
   refine⟨u',r',?_⟩
   rcases q with⟨k,e⟩ | ⟨k,c,e,z⟩
   ·refine .inl ⟨k,?_⟩
    have:y≠n:=fun e=>hj (Yi9 hN e1 (e ▸ hi))
    simp[this,e]
   ·exact .inr ⟨k,c,e,z.sameBut sb (cne y c e)⟩
 ·obtain⟨w',z⟩:=I.cell y c e
  exact⟨w',z.sameBut sb (cne y c e)⟩
 ·obtain⟨e,n,ne,nf,d⟩:=I.pin p hp
  exact⟨(sb.2 p.1 ne).trans e,n,ne,nf,d⟩
 ·refine(I.hok b ob e).stay (fun c w' hc q=>(sb.2 c ?_).trans q) (fun _ q=>q) fun _ _ q=>q
  rintro rfl
  rcases hc with rfl | hc
  ·rw[I.free]at e;cases e
  ·rw[I.free]at hc;cases hc
end
end
section
def qN:List Str:=["__getattribute__","__getattr__","__class__"]
inductive TailN (h:Heap) (bmB:List Value):List Value->Prop
 | base:TailN h bmB bmB
 | own {A:Addr} {c0:Value} {dd:Option Addr} {cd:ClassData} {sl:Array (Option Value)} {mA:Str->Option Value} {tl:List Value} :
  h.get? A=some { cls:=c0,dict:=dd,data:=.cls cd,slots:=sl }->h.Ns cd.ns mA->(∀n∈qN,mA n=none)->TailN h bmB tl->TailN h bmB (.ref A::tl)
def Yqp(K:W.Frag)(bmB:List Value):List Value->Bool
 | []=>bmB==[]
 | v::r=>(v::r)==bmB||match v with
   | .ref A=>(match K.lookup A with
     | some ⟨_,_,.cls cd,_⟩=>W.nsOkIn K cd.ns&&qN.all (fun n=>W.nsIn K cd.ns n==some none)&&Yqp K bmB r
     | _=>false)
   | _=>false
theorem Ynm{K:W.Frag}{h:Heap}{bmB:List Value}(X:K.In h):∀{l:List Value},Yqp K bmB l=true->TailN h bmB l
 | [],e=>by rw[<-beq_iff_eq.mp e];exact .base
 | v::r,e=>by
   unfold Yqp at e
   rcases Bool.or_eq_true_iff.mp e with q | q
   ·rw[beq_iff_eq.mp q];exact .base
   ·split at q
    ·split at q
     ·rename_i ho
      simp only[Bool.and_eq_true]at q
      exact .own (X _ _ ho) (.of_isNs (W.isNs_of_in X q.1.1)) (fun n hn=>W.nsMap_none_of_in X q.1.1 (beq_iff_eq.mp (List.all_eq_true.mp q.1.2 n hn))) (Ynm X q.2)
     ·cases q
    ·cases q
abbrev XQ(K:W.Frag)(C:Addr):Prop:=Yqp K vM (mroK K C)=true
section
variable {prog:Program} {w:World} {A:Around} {E:Value->Shared->Prop} {h:Heap} {g:Array GenState} {d:Drawn} {t:Nat} {os:OsState} {a:Addr} {o:Obj}
 {nm q:Str} {C N:Addr} {bs bm:List Value} {hdct:Bool} {sn:List Str} {sub:List Value} {ab:Bool} {col:Option Bool} {dd:Option Addr} {k0 k1 k2 k3 k5:Option Value} {newId:String}
theorem Yv0{M:Model}{tl bmB:List Value}{n:Str}{y:Option Value}{Q:Option Value->Shared->Prop}(hn:n∈qN)(T:TailN h bmB tl)(hrest:lookupAlong bmB n=pure y)(hq:Q y ⟨h,g,d,t,os⟩):wpAny M A (lookupAlong tl n) Q E ⟨h,g,d,t,os⟩:=by
 induction T with
 | base=>rw[hrest];exact wpAny_pure hq
 | own hA hN hni _ ih=>
   rw[lookupAlong_cons]
   refine wpAny_bind (wpAny_classOwn_cls hA hN ?_)
   rw[hni n hn]
   exact ih
theorem Yqq{M:Model}{n:Str}{y:Option Value}{Q:Option Value->Shared->Prop}(hn:n∈qN)(hC:h.get? C=some (excClassObj nm q C N bs bm hdct sn sub ab col dd k0 k1 k2 k3 k5 newId))(T:TailN h vM (.ref C::bm))(hB:typeLookup (.type "ValueError") n=pure y)(hq:Q y ⟨h,g,d,t,os⟩) :
 wpAny M A (typeLookup (.ref C) n) Q E ⟨h,g,d,t,os⟩:=by
 have hrest:lookupAlong vM n=pure y:=by rw[typeLookup_eq,(show mroOf (.type "ValueError")=pure vM from F.attrBase_ValueError.mro)]at hB;exact hB
 rw[typeLookup_eq]
 exact wpAny_bind (wpAny_mroOf_exc hC (Yv0 hn T hrest hq))
theorem Yk5:typeLookup (.type "ValueError") "__class__"=pure (some (.builtin "object.__class__")):=by rw[typeLookup_type,builtinLookup_eq_fast];kernel_rfl
theorem Yv1{R:Result->Shared->Prop}(hC:h.get? C=some (excClassObj nm q C N bs bm hdct sn sub ab col dd k0 k1 k2 k3 k5 newId))(T:OwnTail h vM bm)(hx:h.get? a=some o)(hc:o.cls=.ref C)(hq:R (.ok (.ret (.ref C))) ⟨h,g,d,t,os⟩) :
 codeAny (model prog w) A (.call (.builtin "getset_descriptor.__get__") ⟨[.builtin "object.__class__",.ref a,.ref C],[]⟩) R ⟨h,g,d,t,os⟩:=by
 have hT5:(⟨h,g,d,t,os⟩:Shared).TypeIs (.builtin "object.__class__") "getset_descriptor":=F.typeOf_object_class
 have hcB:(Value.ref C::bm).contains (.type (".".intercalate ("object.__class__".cutAt '.').dropLast))=true:=by
  rw[F.owner_object_class,List.contains_cons,T.hasType (show vM.contains (.type "object")=true by decide)];rfl
 refine codeAny_call_builtin F.slot_gs_get.plain F.entry_gs_get (F.slot_gs_get.check _ _ _ _ _ _ _ _ hT5 (F.args_gs_get _ _ _) ?_)
 repeat (any_goals (first | assumption | (with_reducible refine wpAny_loadPart_at hx ?_;rw[hc]) | (with_reducible refine wpAny_isSubtype_exc hC ?_;rw[hcB]) | wp_step))
 refine⟨Code.quiet_builtin _ (by decide +kernel),codeAny_builtin F.entry_object_class ?_⟩
 repeat (any_goals (first | assumption | (with_reducible refine wpAny_loadPart_at hx ?_;rw[hc]) | wp_step))
theorem Yqr{M:Model}{nameV:Value}{Q:Unit->Shared->Prop}(hC:h.get? C=some (excClassObj nm q C N bs bm hdct sn sub ab col dd k0 k1 k2 k3 k5 newId))(T:OwnTail h vM bm)
 (hx:h.get? a=some o) (hc:o.cls=.ref C) (hq:Q () ⟨h,g,d,t,os⟩):wpAny M A (checkBuiltinCall "BaseException.__getattribute__" ⟨[.ref a,nameV],[]⟩) Q E ⟨h,g,d,t,os⟩:=by
 have hk:builtinKind "BaseException.__getattribute__"=some .slot:=by decide +kernel
 have hsplit:splitId "BaseException.__getattribute__"=some ("BaseException","__getattribute__"):=by decide +kernel
 have hcB:(Value.ref C::bm).contains (.type "BaseException")=true:=by rw[List.contains_cons,T.hasType (show vM.contains (.type "BaseException")=true by decide)];rfl
 have ha:=F.args_bexc_ga (.ref a) nameV
 simp only[checkBuiltinCall,hk,hsplit]
 refine wpAny_bind ?_
 ·unfold isInstance
  repeat (first | (with_reducible refine wpAny_loadPart_at hx ?_;rw[hc]) | (with_reducible refine wpAny_isSubtype_exc hC ?_;rw[hcB]) | wp_step)
  exact hq
theorem Yqs{tk:Tok}{Q:Fin->Shared->Prop}(hC:h.get? C=some (excClassObj nm q C N bs bm hdct sn sub ab col dd k0 k1 k2 k3 k5 newId))(T:OwnTail h vM bm)(TN:TailN h vM (.ref C::bm))(hx:h.get? a=some o)(hc:o.cls=.ref C)(hq:Q (.done (.ret (.ref C))) ⟨h,g,d,t,os⟩) :
 wpAny (model prog w) A (Builtin.«object.__getattribute__» ⟨[.ref a,.str "__class__" tk],[]⟩) Q E ⟨h,g,d,t,os⟩:=by
 have hT5:(⟨h,g,d,t,os⟩:Shared).TypeIs (.builtin "object.__class__") "getset_descriptor":=F.typeOf_object_class
 have f5:=F.typeOf_object_class
 have f6:=F.slot_gs_get.lookup
 have f7:=F.slot_gs_set.lookup
 have hmA:("__class__":Str)∈qN:=.tail _ (.tail _ (.head _))
 repeat (any_goals (first | assumption | (with_reducible refine wpAny_loadPart_at hx ?_;rw[hc]) | with_reducible refine Yqq hmA hC TN Yk5 ?_ | wp_step))
 refine Yv1 hC T hx hc ?_
 repeat (any_goals (first | assumption | wp_step))
theorem Yst{tk:Tok}{R:Result->Shared->Prop}(hC:h.get? C=some (excClassObj nm q C N bs bm hdct sn sub ab col dd k0 k1 k2 k3 k5 newId))(T:OwnTail h vM bm)(TN:TailN h vM (.ref C::bm))(hx:h.get? a=some o)(hc:o.cls=.ref C)(hq:R (.ok (.ret (.ref C))) ⟨h,g,d,t,os⟩) :
 codeAny (model prog w) A (.call (.builtin "BaseException.__getattribute__") ⟨[.ref a,.str "__class__" tk],[]⟩) R ⟨h,g,d,t,os⟩:=
 codeAny_call_builtin F.attrBase_ValueError.ga.plain F.entry_bexc_ga (Yqr hC T hx hc (Yqs hC T TN hx hc hq))
theorem Yy4{tk:Tok}{Q:Value->Shared->Prop}(hC:h.get? C=some (excClassObj nm q C N bs bm hdct sn sub ab col dd k0 k1 k2 k3 k5 newId))(T:OwnTail h vM bm)(TN:TailN h vM (.ref C::bm))(hx:h.get? a=some o)(hc:o.cls=.ref C)(hq:Q (.ref C) ⟨h,g,d,t,os⟩) :
 wpAny (model prog w) A (getAttrBy (.ref a) (.str "__class__" tk) false) Q E ⟨h,g,d,t,os⟩:=by
 have f3:=F.attrBase_ValueError.ga.bind (.ref a)
 have hx2:(Value.builtin "BaseException.__getattribute__"==Value.builtin "object.__getattribute__")=false:=by decide +kernel
 have hx1:(onTheHeap (Value.ref C)&&Value.builtin "BaseException.__getattribute__"==Value.builtin "object.__getattribute__")=false:=by rw[hx2];rfl
 have hm1:("__getattribute__":Str)∈qN:=.head _
 have hm2:("__getattr__":Str)∈qN:=.tail _ (.head _)
 repeat (any_goals (first | assumption | (with_reducible refine wpAny_loadPart_at hx ?_;rw[hc]) | with_reducible refine Yqq hm1 hC TN F.attrBase_ValueError.ga.lookup ?_ | with_reducible refine Yqq hm2 hC TN F.attrBase_ValueError.noGetattr ?_ | wp_step))
 refine Yst hC T TN hx hc ?_
 repeat (any_goals (first | assumption | wp_step))
theorem Ysu{Q:Option Value->Shared->Prop}(hC:h.get? C=some (excClassObj nm q C N bs bm hdct sn sub ab col dd k0 k1 k2 k3 k5 newId))(T:OwnTail h vM bm)(TN:TailN h vM (.ref C::bm))(hx:h.get? a=some o)(hc:o.cls=.ref C)(hq:Q (some (.ref C)) ⟨h,g,d,t+1,os⟩) :
 wpAny (model prog w) A (getAttr? (.ref a) "__class__") Q E ⟨h,g,d,t,os⟩:=by
 unfold getAttr? getAttrBy?
 repeat (any_goals (first | assumption | with_reducible apply Yy4 hC T TN hx hc | wp_step))
end
end
section
section
variable {prog:Program} {w:World} {A:Around} {E:Value->Shared->Prop} {h:Heap} {g:Array GenState} {d:Drawn} {t:Nat} {os:OsState} {a:Addr} {o:Obj}
 {nm q nm' q':Str} {C N B N':Addr} {bs bm bs' bm':List Value} {hdct hdct':Bool} {sn sn':List Str} {sub sub':List Value} {ab ab':Bool} {col col':Option Bool} {dd dd':Option Addr} {k0 k1 k2 k3 k5 l0 l1 l2 l3 l5:Option Value} {newId newId':String}
theorem Ysv{dep:Int}{tk:Tok}{Q:Fin->Shared->Prop}(hC:h.get? C=some (excClassObj nm q C N bs bm hdct sn sub ab col dd k0 k1 k2 k3 k5 newId))(T:OwnTail h vM bm)(TN:TailN h vM (.ref C::bm))
 (hB:h.get? B=some (excClassObj nm' q' B N' bs' bm' hdct' sn' sub' ab' col' dd' l0 l1 l2 l3 l5 newId')) (hx:h.get? a=some o) (hc:o.cls=.ref C) {z:Bool} (hz:(Value.ref C::bm).contains (.ref B)=z)
 (hq:∀t',Q (.done (.ret (.bool z))) ⟨h,g,d,t',os⟩):wpAny (model prog w) A (Builtin.«isinstance.nested» ⟨[.ref a,.ref B,.int dep tk],[]⟩) Q E ⟨h,g,d,t,os⟩:=by
 have q0:=hq t
 have q1:=hq (t+1)
 by_cases e:C=B
 ·subst e
  obtain rfl:true=z:=by rw[<-hz];simp
  have eb:(Value.ref C==Value.ref C)=true:=by simp
  repeat (any_goals (first | assumption | (with_reducible refine wpAny_loadPart_at hx ?_;rw[hc]) | wp_step))
 ·have eb:(Value.ref C==Value.ref B)=false:=by
   cases e2:(Value.ref C==Value.ref B)with
   | false=>rfl
   | true=>exact absurd (by injection eq_of_beq e2) e
  cases z with
  | true=>repeat (any_goals (first | assumption | (with_reducible refine wpAny_loadPart_at hx ?_;rw[hc]) | with_reducible refine wpAny_loadPart_at hB ?_ | with_reducible refine wpAny_loadPart_at hC ?_ | (with_reducible refine wpAny_isSubtype_exc hC ?_;rw[hz]) | wp_step))
  | false=>repeat (any_goals (first | assumption | (with_reducible refine wpAny_loadPart_at hx ?_;rw[hc]) | with_reducible refine wpAny_loadPart_at hB ?_ | with_reducible refine wpAny_loadPart_at hC ?_ | (with_reducible refine wpAny_isSubtype_exc hC ?_;rw[hz]) | with_reducible refine Ysu hC T TN hx hc ?_ | wp_step))
theorem Yqt{dep:Int}{tk:Tok}{Q:Fin->Shared->Prop}(hC:h.get? C=some (excClassObj nm q C N bs bm hdct sn sub ab col dd k0 k1 k2 k3 k5 newId))(T:OwnTail h vM bm)(hx:h.get? a=some o)(hc:o.cls=.ref C)
 (hq:Q (.done (.ret (.bool true))) ⟨h,g,d,t,os⟩):wpAny (model prog w) A (Builtin.«isinstance.nested» ⟨[.ref a,.type "ValueError",.int dep tk],[]⟩) Q E ⟨h,g,d,t,os⟩:=by
 have hz:(Value.ref C::bm).contains (.type "ValueError")=true:=by rw[List.contains_cons,T.hasType (show vM.contains (.type "ValueError")=true by decide)];rfl
 have ht:typeOf (.type "ValueError")=pure (.type "type"):=by kernel_rfl
 have eb:(Value.ref C==Value.type "ValueError")=false:=by rfl
 repeat (any_goals (first | assumption | (with_reducible refine wpAny_loadPart_at hx ?_;rw[hc]) | with_reducible refine wpAny_loadPart_at hC ?_ | (with_reducible refine wpAny_isSubtype_exc hC ?_;rw[hz]) | wp_step))
end
end
section
def Xp(K:W.Frag)(mg:Str->Option Value)(x y:Str)(z:Bool):Prop:=∃C D,mg x=some (.ref C)/\mg y=some (.ref D)/\XC K C/\XQ K C/\XC K D/\(mroK K C).contains (.ref D)=z
def spX(K:W.Frag)(mg:Str->Option Value)(n:Nat)(fr:List D->Option Bool)(xn:Str):Sp:=fun vs H _ E=>vs.length=n/\∃ds G,Same G H/\RpL K G ds vs/\fr ds=some true/\∀C H' G',mg xn=some (.ref C)->Gr H G H' G'->E (.ref C) none H'
def sxOf(K:W.Frag)(mg:Str->Option Value)(E:XK)(xn:Str)(r:Ro->Option Bool):TS:=fun _ σ H=>∃ρ H0 G0 G,r ρ=some true/\SR K H0 G0 σ H G ρ/\∀C H' G',mg xn=some (.ref C)->Gr H0 G0 H' G'->E (.ref C) none H'
structure ZX(X:Cx)(E:XK)(xn:Str)(sts:List Stmt)(r:Ro->Option Bool):Prop where
 un:PSs X sts (sxOf X.K X.mg E xn r)
def Okx(P:Program)(w:World)(K:W.Frag)(mg:Str->Option Value)(base:Heap)(k n:Nat)(x:Str)(ps:List Str)(fr:List D->Option Bool)(xn:Str):Prop:=
 ∃a fd,FnOk P w K mg base (CXN P w) k a fd ps (spX K mg n fr xn)/\Binds K fd ps []/\W.keepIn K (.ref a)=true/\mg x=some (.ref a)
def runX(k n:Nat)(r:Ro->Option Bool)(ds:List D):Option Bool:=if ds.length=k then r (Yr n ds)else none
def xYes:Ro->Option Bool:=fun _=>some true
def xNo:Ro->Option Bool:=fun _=>some false
def xIf(c:Ro->Option Bool)(a b:Ro->Option Bool):Ro->Option Bool:=fun ρ=>(c ρ).bind fun k=>if k=true then a ρ else b ρ
def Ysw(ga:Ro->Option (List D))(fr:List D->Option Bool):Ro->Option Bool:=fun ρ=>(ga ρ).bind fr
theorem PA.nox'{X:Cx}{es:List Expr}{t:TA}(h:PA X.nox es t):PA X es t:=fun pos pins s σ H Q I hw=>
 wpAny_mono (h pos pins s σ H Q (I.wish _) hw) (fun _ _ ⟨v,H',I',r,q⟩=>⟨v,H',I'.unwish,r,q⟩) fun _ _ z=>False.elim z
section
variable {P:Program} {w:World} {K:W.Frag} {mg:Str->Option Value} {base:Heap} {N ps:List Str} {qual xn x y nm:Str} {scope:Scope} {f:Addr} {cd:Value} {A:Around} {outer:List Env} {s0:Shared} {H0:Hp} {E:XK} {sts rest suite:List Stmt} {X:Cx} {j k n:Nat} {fr:List D->Option Bool} {p cpos pos1 np hpos pos:Pos} {e:Expr} {es:List Expr} {ga:Ro->Option (List D)} {b₀:Stmt} {g:Ro->Option Out}
theorem Yeo{y m:Str}{np p1 cpos pos:Pos}{j:Nat}{z:Bool}(hp:Xp K mg xn y z)(hg:Gl (cxOf (CXN P w) P w K mg base N qual scope f cd A outer s0 H0 E) xn:=by rfl)(hdb:(xn==("__debug__":Str))=false:=by decide)
 (hs:starEach [Expr.Constant (.str m) j p1] (envOfC qual scope s0.heap.objs.size f cd)=[(false,eval (Expr.Constant (.str m) j p1) (envOfC qual scope s0.heap.objs.size f cd))]:=by rfl) :
 ZX (cxOf (CXN P w) P w K mg base N qual scope f cd A outer s0 H0 E) E xn (.Raise (some (.Call (.Name xn np) [.Constant (.str m) j p1] [] cpos)) none pos::rest) xYes:=by
 obtain⟨C,_,hm,_,hc,_⟩:=hp
 exact⟨PSs.imp (Ycg (Ysr hm hc hg hdb hs) Ygu) fun D σ H ⟨ρ,H0,G0,G,_,s,h⟩=>h C H G hm s.gr⟩
theorem Yok{X:Cx}:ZX X E xn sts xNo:=⟨PSs.imp Ygu fun _ _ _ ⟨_,_,_,_,e,_⟩=>by cases e⟩
theorem Yk6{X:Cx}{c:Expr}{a:List Stmt}{fc ra rr:Ro->Option Bool}{pos:Pos}(hc:ZT X.nox c fc)(ha:ZX X E xn a ra)(hr:ZX X E xn rest rr):ZX X E xn (.If c a [] pos::rest) (xIf fc ra rr):=
 ⟨PSs.imp (Ycg (Yty (PT.nox hc.un) ha.un Yls) hr.un) fun D σ H ⟨ρ,H0,G0,G,e,s,h⟩=>by
  unfold xIf at e
  obtain⟨k,h1,e⟩:=qa e
  refine tTof.at h1 s fun H1 G1 g1 s1=>?_
  cases k with
  | true=>
    rw[if_pos rfl]at e ⊢
    exact⟨ρ,H0,G0,G1,e,s1,h⟩
  | false=>
    rw[if_neg qh]at e ⊢
    exact⟨ρ,H0,G0,G1,e,s1,h⟩⟩
theorem Yv2{j k n:Nat}{x:Str}{p cpos pos:Pos}{ps:List Str}{fr:List D->Option Bool}{e:Expr}{es:List Expr}{ga:Ro->Option (List D)}(c:Okx P w K mg base j n x ps fr xn)(hr:Room k (cxOf (CXN P w) P w K mg base N qual scope f cd A outer s0 H0 E).A)
 (hg:Gl (cxOf (CXN P w) P w K mg base N qual scope f cd A outer s0 H0 E) x) (ha:ZA (cxOf (CXN P w) P w K mg base N qual scope f cd A outer s0 H0 E).nox (e::es) ga) (hl:∀ρ l,ga ρ=some l->l.length=n) (hj:j<=k:=by first | exact qs _ | omega) (hdb:(x==("__debug__":Str))=false:=by decide)
 (he:starEach (e::es) (envOfC qual scope s0.heap.objs.size f cd)=(false,eval e (envOfC qual scope s0.heap.objs.size f cd))::starEach es (envOfC qual scope s0.heap.objs.size f cd):=by rfl) (hpl:(backTo cpos (starEach es (envOfC qual scope s0.heap.objs.size f cd))).any (·.1)=false:=by rfl)
 (hsw:swapsWith (.Call (.Name x p) (e::es) [] cpos) none pos.line (envOfC qual scope s0.heap.objs.size f cd)=pure false:=by rfl) :
 ZX (cxOf (CXN P w) P w K mg base N qual scope f cd A outer s0 H0 E) E xn (.Expr (.Call (.Name x p) (e::es) [] cpos) pos::rest) (Ysw ga fr):=by
 obtain⟨a,fd,F,hb,hk,hm⟩:=c
 refine⟨PSs.imp (Ycg (Yft (Yo6 (X:=cxOf (CXN P w) P w K mg base N qual scope f cd A outer s0 H0 E) (E:=E) (F.mono hj) hr hg hm hk hb .nil y0j (PA.nox' ha.un) hdb he hpl) hsw) Ygu) fun D σ H ⟨ρ,H0,G0,G,e,s,h⟩=>?_⟩
 unfold Ysw at e
 obtain⟨l,h1,e⟩:=qa e
 refine tAof.at h1 s fun vs H1 G1 g1 r1 s1=>?_
 show spX K mg n fr xn (vs++[]) H1 _ E
 rw[List.append_nil]
 exact⟨by rw[r1.length];exact hl ρ l h1,l,G1,s1.seen,r1,e,fun C H' G' hC g'=>h C H' G' hC (s1.gr.trans g')⟩
theorem Yf2{x:Str}{st:Stmt}{fd:FuncData}{ps:List Str}{k n m:Nat}{r:Ro->Option Bool}(F:Fun K x qual st f fd)(S:FnScope N ps (defScope st))(hn:N.length=n)(hm:ps.length=m)
 (hb:∀(cdv:Value) (A:Around) (outer:List Env) (s:Shared) (H:Hp) (E:XK),Room k (A.deeper (envOfC qual (defScope st) s.heap.objs.size f cdv))->ZX (cxOf (CXN P w) P w K mg base N qual (defScope st) f cdv A outer s H E) E xn (defBody st) r) :
 FnOk P w K mg base (CXN P w) (k+1) f fd ps (spX K mg m (runX m n r) xn):=by
 obtain⟨oc,od,kV,doc,pm,an,cdv,ct,osl,rfl,lk,hcd⟩:=F.ex
 refine Yw7 lk hcd S (fun vs H Q E h=>by rw[h.1,hm]) fun A outer s H vs Q E hr h=>?_
 obtain⟨hl,ds,G,sm,rr,e,q⟩:=h
 refine⟨_,(hb cdv A outer s H E hr).un,?_⟩
 unfold runX at e
 split at e
 ·exact⟨Yr n ds,H,G,G,e,by rw[<-hn];exact SR.start sm rr,fun C H' G' hC g=>q C H' G' hC g⟩
 ·cases e
theorem SR.drop{K:W.Frag}{H0 G0 H G:Hp}{σ:L2.St}{ρ:Ro}(s:SR K H0 G0 σ H G ρ)(i:Nat):SR K H0 G0 (σ.set i none) H G (ρ.set i none):=by
 have get:∀(m:Nat) (o:B),(ρ.set i none)[m]?=some (some o)->m≠i/\ρ[m]?=some (some o):=fun m o e=>by
  by_cases z:m=i
  ·subst z
   rw[List.getElem?_set,if_pos rfl]at e
   split at e<;>cases e
  ·rw[qy (Ne.symm z)]at e
   exact⟨z,e⟩
 have gs:∀m,m≠i->(σ.set i none)[m]?=σ[m]?:=fun m z=>qy (Ne.symm z)
 refine⟨s.gr,by rw[List.length_set,List.length_set];exact s.len,fun m d e=>?_,fun m l e=>?_,fun m m' l l' a b e e' ne q q'=>?_,fun m t ks vs e=>?_,fun m m' t ks vs t' ks' vs' a b e e' ne q q'=>?_⟩
 ·obtain⟨z,e⟩:=get _ _ e
  rw[gs m z];exact s.sh m d e
 ·obtain⟨z,e⟩:=get _ _ e
  rw[gs m z];exact s.ow m l e
 ·obtain⟨z,e⟩:=get _ _ e
  obtain⟨z',e'⟩:=get _ _ e'
  rw[gs m z]at q;rw[gs m' z']at q'
  exact s.ap m m' l l' a b e e' ne q q'
 ·obtain⟨z,e⟩:=get _ _ e
  rw[gs m z];exact s.od m t ks vs e
 ·obtain⟨z,e⟩:=get _ _ e
  obtain⟨z',e'⟩:=get _ _ e'
  rw[gs m z]at q;rw[gs m' z']at q'
  exact s.apd m m' t ks vs t' ks' vs' a b e e' ne q q'
end
def isX(i:Nat)(ea:Addr)(z:Bool):Ro->Option D:=fun ρ=>(getV i ρ).bind fun d=>match d with
 | .adr b=>if b=ea then some (.bl z)else none
 | _=>none
section
variable {X:Cx} {ea:Addr} {ob:Obj} {x xn y:Str} {p p1 p2 pos:Pos} {z:Bool}
theorem Yqu{C B:Addr}(hob:Xo ob (.ref C))(hC:XC X.K C)(hQ:XQ X.K C)(hB:XC X.K B)(hz:(mroK X.K C).contains (.ref B)=z):Yb9 (Cx.mk X ea [(ea,ob)]) (.builtin "isinstance") (fun xs H Q=>xs=[.ref ea,.ref B]/\Q (.bl z) H):=by
 intro pins s σ H xs us Q I r h
 obtain⟨rfl,q⟩:=h
 obtain⟨u,u',rfl,r1,r2⟩:=Yn0 r
 cases (show u=Value.ref ea from r1)
 cases (show u'=Value.ref B from r2)
 have he:=(I.pin (ea,ob) (List.mem_append.mpr (.inl (List.mem_append.mpr (.inl (.head _)))))).1
 have X':X.K.In s.heap:=I.kIn
 obtain⟨bm,N,nm,q0,bs,hdct,sn,sub,ab,col,dd,k0,k1,k2,k3,k5,mN,oC,_,_,T,em⟩:=Yi1 X' hC
 obtain⟨bm',N',nm',q',bs',hdct',sn',sub',ab',col',dd',l0,l1,l2,l3,l5,mN',oB,_,_,T',em'⟩:=Yi1 X' hB
 have TN:=Ynm X' hQ
 rw[em]at hz TN
 refine call_isinstance (S:=fun _ R s'=>s'=s/\∀t',R (.ok (.ret (.bool z))) { s' with toks:=t' }) (fun _ _ _ _ s' hs=>?_) ⟨rfl,fun t'=>⟨.bl z,H,I.tok t',rfl,q⟩⟩
 obtain⟨rfl,hs⟩:=hs
 obtain⟨hp,g,d,t,os⟩:=s'
 exact isinstance_outer (Ysv oC T TN oB he hob.1 hz fun t'=>hs t') (by intro e;cases e)
theorem Yw(i:Nat)(hp:Xp X.K X.mg xn y z)(hob:∀C,X.mg xn=some (.ref C)->Xo ob (.ref C))(hm:X.mg "isinstance"=none)(hg:Gl X "isinstance":=by rfl)(hgy:Gl X y:=by rfl)(hi:X.N[i]?=some x:=by rfl)(hv:Vis X.env.scope x:=by first | exact Or.inl rfl | exact Or.inr (Or.inl rfl) | exact Or.inr (Or.inr rfl))
 (hb:bootBuiltins "isinstance"=some (.builtin "isinstance"):=by decide +kernel) (hd:(x==("__debug__":Str))=false:=by decide) (hcd:(x==("__classdict__":Str))=false:=by decide) (hdy:(y==("__debug__":Str))=false:=by decide)
 (hs:starEach [.Name x p1,.Name y p2] X.env=(false,eval (.Name x p1) X.env)::starEach [.Name y p2] X.env:=by rfl) (hs2:starEach [.Name y p2] X.env=(false,eval (.Name y p2) X.env)::starEach [] X.env:=by rfl) (hpl:(backTo pos (starEach [.Name y p2] X.env)).any (·.1)=false:=by rfl) :
 ZE (Cx.mk X ea [(ea,ob)]) (.Call (.Name "isinstance" p) [.Name x p1,.Name y p2] [] pos) (isX i ea z):=by
 obtain⟨C,B,mC,mB,hC,hQ,hB,hz⟩:=hp
 refine⟨PE.imp (Yeh (X:=Cx.mk X ea [(ea,ob)]) (Yqu (hob C mC) hC hQ hB hz) hg hm hb (Ybd (Yfa (i:=i) hi hv hd hcd) (Ybd (Ylr hgy mB (v:=.ref B) rfl hdy) Ydq hs2) hs) (by decide) (by decide) hs hpl) fun σ H Q ⟨ρ,d,H0,G0,G,e,s,h⟩=>?_⟩
 obtain⟨d',h1,e2⟩:=qa (show(getV i ρ).bind _=some d from e)
 clear e
 cases d' with
 | adr b=>
   dsimp only at e2
   split at e2
   ·rename_i hb
    subst hb
    cases e2
    obtain⟨v,hv,rv⟩:=s.sh i _ (Yg4 h1)
    rw[Rp]at rv
    subst rv
    exact⟨_,hv,rfl,h _ H G (.refl s.seen) (by rw[Rp])⟩
   ·cases e2
 | _=>cases e2
theorem Yqv{C:Addr}(hob:Xo ob (.ref C))(hC:XC X.K C):Yb9 (Cx.mk X ea [(ea,ob)]) (.builtin "isinstance") (fun xs H Q=>xs=[.ref ea,.ty "ValueError"]/\Q (.bl true) H):=by
 intro pins s σ H xs us Q I r h
 obtain⟨rfl,q⟩:=h
 obtain⟨u,u',rfl,r1,r2⟩:=Yn0 r
 cases (show u=Value.ref ea from r1)
 cases (show u'=Value.type "ValueError" from r2)
 have he:=(I.pin (ea,ob) (List.mem_append.mpr (.inl (List.mem_append.mpr (.inl (.head _)))))).1
 obtain⟨bm,N,nm,q0,bs,hdct,sn,sub,ab,col,dd,k0,k1,k2,k3,k5,mN,oC,_,_,T,em⟩:=Yi1 (show X.K.In s.heap from I.kIn) hC
 refine call_isinstance (S:=fun _ R s'=>s'=s/\R (.ok (.ret (.bool true))) s') (fun _ _ _ _ s' hs=>?_) ⟨rfl,⟨.bl true,H,I,rfl,q⟩⟩
 obtain⟨rfl,hs⟩:=hs
 obtain⟨hp,g,d,t,os⟩:=s'
 exact isinstance_outer (Yqt oC T he hob.1 hs) (by intro e;cases e)
theorem Ygp(i:Nat){z':Bool}(hp:Xp X.K X.mg xn y z')(hob:∀C,X.mg xn=some (.ref C)->Xo ob (.ref C))(hm:X.mg "isinstance"=none)(hm2:X.mg "ValueError"=none)(hg:Gl X "isinstance":=by rfl)(hgy:Gl X "ValueError":=by rfl)(hi:X.N[i]?=some x:=by rfl)(hv:Vis X.env.scope x:=by first | exact Or.inl rfl | exact Or.inr (Or.inl rfl) | exact Or.inr (Or.inr rfl))
 (hb:bootBuiltins "isinstance"=some (.builtin "isinstance"):=by decide +kernel) (hb2:bootBuiltins "ValueError"=some (.type "ValueError"):=by decide +kernel) (hd:(x==("__debug__":Str))=false:=by decide) (hcd:(x==("__classdict__":Str))=false:=by decide)
 (hs:starEach [.Name x p1,.Name "ValueError" p2] X.env=(false,eval (.Name x p1) X.env)::starEach [.Name "ValueError" p2] X.env:=by rfl) (hs2:starEach [.Name "ValueError" p2] X.env=(false,eval (.Name "ValueError" p2) X.env)::starEach [] X.env:=by rfl) (hpl:(backTo pos (starEach [.Name "ValueError" p2] X.env)).any (·.1)=false:=by rfl) :
 ZE (Cx.mk X ea [(ea,ob)]) (.Call (.Name "isinstance" p) [.Name x p1,.Name "ValueError" p2] [] pos) (isX i ea true):=by
 obtain⟨C,B,mC,mB,hC,_⟩:=hp
 refine⟨PE.imp (Yeh (X:=Cx.mk X ea [(ea,ob)]) (Yqv (hob C mC) hC) hg hm hb (Ybd (Yfa (i:=i) hi hv hd hcd) (Ybd (You hgy hm2 hb2 (v:=.ty "ValueError") rfl (by decide) (by decide)) Ydq hs2) hs) (by decide) (by decide) hs hpl) fun σ H Q ⟨ρ,d,H0,G0,G,e,s,h⟩=>?_⟩
 obtain⟨d',h1,e2⟩:=qa (show(getV i ρ).bind _=some d from e)
 clear e
 cases d' with
 | adr b=>
   dsimp only at e2
   split at e2
   ·rename_i hb
    subst hb
    cases e2
    obtain⟨v,hv,rv⟩:=s.sh i _ (Yg4 h1)
    rw[Rp]at rv
    subst rv
    exact⟨_,hv,rfl,h _ H G (.refl s.seen) (by rw[Rp])⟩
   ·cases e2
 | _=>cases e2
end
end
section
theorem Yjx:entryFor table "proto.unchain"=some Builtin.«proto.unchain»:=entryFor_of_tree (by kernel_rfl)
section
variable {prog:Program} {w:World} {A:Around} {E:Value->Shared->Prop} {s:Shared} {ea:Addr} {ob:Obj} {ws:Array Value} {X:Cx} {C:Value}
theorem Yqw{α:Type}{n:Addr}{o:Obj}{vs:Array Value}{Q:α->Shared->Prop}(hh:A.handled=some (.ref ea))(he:s.heap.get? ea=some ob)(hd:ob.data=.fields ws)(h2:ws[2]?=some .none)(hn:s.heap.get? n=some o)(hnd:o.data=.fields vs)(hsz:2 < vs.size)(hne:ea≠n)
 (h:E (.ref n) { s with heap:=s.heap.update n (Obj.mapFields (·.setIfInBounds 2 (.ref ea))) }):wpAny (model prog w) A (raiseNew (.ref n):Sem α) Q E s:=by
 unfold raiseNew
 refine wpAny_bind (wpAny_handled ?_)
 rw[hh]
 show wpAny _ _ (if (Value.ref ea != Value.ref n)=true then _ else _) _ _ _
 rw[if_pos (show(Value.ref ea != Value.ref n)=true from by simpa using hne)]
 refine wpAny_bind (wpAny_holding (wpAny_runValue (codeAny_builtin Yjx ?_)))
 unfold Builtin.«proto.unchain»
 refine wpAny_bind (wpAny_field he hd h2 ?_)
 rw[if_pos (by decide)]
 refine wpAny_bind (wpAny_pure (wpAny_pure ?_))
 refine wpAny_bind ?_
 unfold updateField
 refine wpAny_bind (wpAny_load hn ?_)
 rw[hnd]
 show wpAny _ _ (if 2 < vs.size then _ else _) _ _ _
 rw[if_pos hsz]
 exact wpAny_update hn (wpAny_throw h)
theorem Yqx{it l:Addr}{i:Nat}{items:Array Value}{Q:Option Value->Shared->Prop}(hh:A.handled=some (.ref ea))(he:s.heap.get? ea=some ob)(hob:ob.data=.fields ws)(h2:ws[2]?=some .none)(hne:ea≠it)
 (hit:s.heap.IsListIter it l i) (hl:s.heap.IsList l items) (hx:items[i]?=none) (hQ:∀h',Heap.ExtBut it s.heap h'->Q none { s with heap:=h' }):wpAny (model prog w) A (pyNext (.ref it)) Q E s:=by
 obtain⟨o,ho,hc,hd⟩:=id hit
 obtain⟨ol,hol,_,nl,hdl⟩:=hl
 unfold pyNext
 refine wpAny_bind (wpAny_attempt (wpAny_callSpecial?_slot (name:=Str.ofString "__next__") hit.typeIs slot_listiter_next (wpAny_call_entry slot_listiter_next hit.typeIs entry_listiter_next ?_ (args_listiter_next _))))
 show wpAny _ _ (field (.ref it) 0 >>= _) _ _ s
 refine wpAny_bind (wpAny_field ho hd (x:=.ref l) rfl ?_)
 show wpAny _ _ (if (Value.ref l==Value.none)=true then _ else _) _ _ s
 rw[if_neg (show ¬((Value.ref l==Value.none)=true) from qh)]
 show wpAny _ _ (field (.ref it) 1 >>= _) _ _ s
 refine wpAny_bind (wpAny_field ho hd (x:=.int i 0) rfl ?_)
 show wpAny _ _ (seqItems? (.ref l) >>= _) _ _ s
 refine wpAny_bind (wpAny_seqItems hol hdl ?_)
 simp only[Int.toNat_natCast,hx]
 refine wpAny_bind (wpAny_rule (wpAny_bind (wpAny_setField ho hd (by simp) ?_)))
 show wpAny _ _ (newExc (.type "StopIteration") [] >>= _) _ _ _
 refine wpAny_bind ?_
 simp only[newExc,newTuple]
 refine wpAny_bind (wpAny_newObj_type ?_ (by size_fits))
 refine wpAny_bind (m:=firstArgMember _ _) (wpAny_of_eq (a:=Value.none) (by first | rfl | (simp only[firstArgMember];rfl)) ?_)
 refine wpAny_newObj_type ?_ (by size_fits)
 have hlt:=qk he
 refine Yqw (show A.in1.handled=some (.ref ea) from hh) (qd _ (qd _ ((Heap.get?_update_other _ _ (Ne.symm hne)).trans he))) hob h2 (qo _ rfl) rfl (by simp[ownMembersOf]) (ql (by rw[Heap.size_push,Heap.size_update];exact qu hlt)) ?_
 refine wpAny_bind (wpAny_isInstance (T:="StopIteration") (b:=true) ⟨_,Heap.get?_update_self _ (qo _ rfl) rfl,rfl⟩ isSubtype_stop ?_)
 refine wpAny_pure (hQ _ fun b u hb e=>?_)
 have:=qk e
 rw[Heap.get?_update_other _ _ (Nat.ne_of_gt (by rw[Heap.size_push,Heap.size_update];exact qu this))]
 exact qd _ (qd _ ((Heap.get?_update_other _ _ (Ne.symm hb)).trans e))
theorem Ymb(hh:A.handled=some (.ref ea))(hob:ob.data=.fields ws)(h2:ws[2]?=some .none)(I ax:Addr)(hne:ax≠I)(hei:ea≠I)(items:Array Value) :
 Walks prog w A I [I,ax,ea] [I] items.size (fun i v=>items[i]?=some v) (fun i h=>(h.IsListIter I ax i/\h.IsList ax items)/\h.get? ea=some ob) where
 sub:=fun b hb=>by simp at hb;simp[hb]
 frame:=fun _ _ _ st hk=>⟨⟨st.1.1.at fun o e=>hk I (by simp) o e,st.1.2.at fun o e=>hk ax (by simp) o e⟩,hk ea (by simp) _ st.2⟩
 item:=fun i s Q E hi st hQ=>by
  refine wpAny_pyNext_list_item st.1.1 st.1.2 (x:=items[i]) (by simp[hi]) fun h' hit' hs'=>?_
  exact hQ _ h' s.toks (by simp[hi]) ⟨⟨hit',st.1.2.extBut hs'.extBut hne⟩,hs'.extBut ea _ hei st.2⟩ fun b o hb e=>hs'.extBut b o (fun h=>hb (by simp[h])) e
 done:=fun s Q E st hQ=>Yqx hh st.2 hob h2 hei st.1.1 st.1.2 (by simp) fun h' he'=>hQ h' s.toks fun b o hb e=>he' b o (fun h=>hb (by simp[h])) e
 self:=fun _ _ _ _ st hQ=>wpAny_pyIter_listiter st.1.1 hQ
theorem Yqy(hob:Xo ob C):Yb9 (Cx.mk X ea [(ea,ob)]) (.builtin "any") (rBls fun bs=>.bl (bs.any id)):=by
 intro pins s σ H xs us Q I r h
 obtain⟨a,bs,rfl,hr,q⟩:=h
 obtain⟨u,rfl,ru⟩:=Yfu r
 cases ru
 obtain⟨its,rv,pl,hz⟩:=I.list (.inl hr)
 cases Ygm rv
 obtain⟨hcl,ws,hd,h2⟩:=hob
 have he:=(I.pin (ea,ob) (List.mem_append.mpr (.inl (List.mem_append.mpr (.inl (.head _)))))).1
 have hl:=pl.isList
 have hne:a≠s.heap.objs.size:=by
  obtain⟨o,ho,_⟩:=hl
  exact ql (qk ho)
 have hei:ea≠s.heap.objs.size:=ql (qk he)
 have hhm:(Cx.mk X ea [(ea,ob)]).A.in1.handled=some (.ref ea):=rfl
 refine call_any_walk (wpAny_pyIter_list hl ?_)
 refine⟨_,_,_,_,_,_,fun i=>bs.getD i false,rfl,Ymb hhm hd h2 s.heap.objs.size a hne hei _,⟨⟨⟨_,qo _ rfl,rfl,rfl⟩,?_⟩,qd _ he⟩,Yhd _ _ _ bs,fun h' tk k=>⟨.bl _,H,(show Inv (Cx.mk X ea [(ea,ob)]) pins σ H { s with heap:=h',toks:=tk } from Ydx I k),?_,q⟩⟩
 ·obtain⟨o,ho,r⟩:=hl
  exact⟨o,qd _ ho,r⟩
 ·show Value.bool _=Value.bool _
  rw[qj,qe,Yky]
end
end
section
section
variable {X:Cx} {ea:Addr} {ob:Obj} {xn y:Str} {z:Bool}
theorem Yep(hp:Xp X.K X.mg xn y z)(hob:∀C,X.mg xn=some (.ref C)->Xo ob (.ref C)):Yb9 (Cx.mk X ea [(ea,ob)]) (.builtin "any") (rBls fun bs=>.bl (bs.any id)):=by
 obtain⟨C,_,hC,_⟩:=hp
 exact Yqy (hob C hC)
end
def powI:D->D->Option D:=i2 (fun i j=>decide (0<=j/\j<=1000000/\i.natAbs < 2 ^ 64)) fun i j=>i ^ j.toNat
section
variable {X:Cx} {a b:Expr} {fa fb:Ro->Option D} {pos:Pos}
theorem Yy5(ha:MC X a fa)(hb:MC X b fb):ME X (.BinOp a .Pow b pos) (b2 fa fb powI):=Yiv Ywy (Ym4 (fun i j h=>(show 0<=j/\j<=1000000/\i.natAbs < 2 ^ 64 from of_decide_eq_true h))) ha hb
theorem Yv3(ha:ZC X a fa)(hb:ZC X b fb):ZE X (.BinOp a .Pow b pos) (b2 fa fb powI):=⟨Yy5 ha.un hb.un⟩
end
def Xk(K:W.Frag)(x y:Str)(z:Bool):Prop:=∃C D,W.nsIn K mainGlobals x=some (some (.ref C))/\W.nsIn K mainGlobals y=some (some (.ref D))/\XC K C/\XQ K C/\XC K D/\(mroK K C).contains (.ref D)=z
theorem Xk.on{K:W.Frag}{h:Heap}{mg:Str->Option Value}{x y:Str}{z:Bool}(F:Xk K x y z)(X:K.In h)(G:h.Ns mainGlobals mg):Xp K mg x y z:=by
 obtain⟨C,D,a,b,r⟩:=F
 exact⟨C,D,W.mg_of X G a,W.mg_of X G b,r⟩
theorem xk_mk{K:W.Frag}{x y:Str}{z:Bool}{C D:Addr}(a:W.nsIn K mainGlobals x=some (some (.ref C)))(b:W.nsIn K mainGlobals y=some (some (.ref D)))(c:W.excIn K C vM "ValueError.__new__"=true)(d:Yqp K vM (mroK K C)=true)(e:W.excIn K D vM "ValueError.__new__"=true)(f:(mroK K C).contains (.ref D)=z):Xk K x y z:=⟨C,D,a,b,c,d,e,f⟩
end
section
end
end M
namespace L2
open PySem PySem.Spec PyProof.Rows M
end L2
namespace M
open PySem PySem.Spec PyProof.Rows L2
section
def sxE(K:W.Frag)(mg:Str->Option Value)(E:XK)(xn:Str)(r:Ro->Option Bool):TE:=fun σ H _=>∃ρ H0 G0 G,r ρ=some true/\SR K H0 G0 σ H G ρ/\∀C H' G',mg xn=some (.ref C)->Gr H0 G0 H' G'->E (.ref C) none H'
def sxA(K:W.Frag)(mg:Str->Option Value)(E:XK)(xn:Str)(r:Ro->Option Bool):TA:=fun σ H _=>∃ρ H0 G0 G,r ρ=some true/\SR K H0 G0 σ H G ρ/\∀C H' G',mg xn=some (.ref C)->Gr H0 G0 H' G'->E (.ref C) none H'
structure YE(X:Cx)(E:XK)(xn:Str)(e:Expr)(r:Ro->Option Bool):Prop where
 un:PE X e (sxE X.K X.mg E xn r)
structure YA(X:Cx)(E:XK)(xn:Str)(es:List Expr)(r:Ro->Option Bool):Prop where
 un:PA X es (sxA X.K X.mg E xn r)
structure YS(X:Cx)(E:XK)(xn:Str)(st:Stmt)(r:Ro->Option Bool):Prop where
 un:PS X st (sxOf X.K X.mg E xn r)
end
section
end
section
def Rsd(X:Cx)(pins:List (Addr × Obj))(σ:L2.St)(E:XK):Value->Shared->Prop:=fun e s'=>∃H1 s1,Inv X pins σ H1 s1/\CXN X.prog X.w X.stack H1 s1 E e s'
structure ZR(X:Cx)(xn:Str)(sts:List Stmt)(r:Ro->Option Bool):Prop where
 un:∀(E:XK) (pins:List (Addr × Obj)) (s:Shared) (σ:L2.St) (H:Hp) (ρ:Ro) (H0 G0 G:Hp),Inv X pins σ H s->r ρ=some true->SR X.K H0 G0 σ H G ρ->(∀C H' G',X.mg xn=some (.ref C)->Gr H G H' G'->E (.ref C) none H')->wpAny (model X.prog X.w) X.A (execs sts X.env) (fun _ _=>False) (Rsd X pins σ E) s
section
variable {X:Cx} {xn:Str} {pos:Pos} {k:Nat} {f C:Addr} {fd:FuncData} {ps:List Str} {sp:Sp} {E:XK} {pins:List (Addr × Obj)} {σ:L2.St} {H:Hp} {s:Shared} {Q:VK} {us:List Value} {vs:List V}
theorem Yk7{sts:List Stmt}:ZR X xn sts xNo:=⟨fun _ _ _ _ _ _ _ _ _ _ e=>by cases e⟩
theorem Yk8{c:Expr}{a b:List Stmt}{fc ra rb:Ro->Option Bool}(hc:ZT X c fc)(ha:ZR X xn a ra)(hb:ZR X xn b rb)(hxe:∀e s,¬X.xe e s:=by exact fun _ _ h=>h):ZR X xn [.If c a b pos] (xIf fc ra rb):=⟨fun E pins s σ H ρ H0 G0 G I e sr h=>by
 unfold xIf at e
 obtain⟨k,h1,e⟩:=qa e
 refine wpAny_execs_cons (wpAny_If (wpAny_mono (hc.un pins s σ H (fun d H1=>d=k/\∃G1,Gr H G H1 G1/\SR X.K H0 G0 σ H1 G1 ρ) I (tTof.at h1 sr fun H1 G1 g1 s1=>⟨rfl,G1,g1,s1⟩)) (fun d s1 hx=>?_) fun e s z=>(hxe e s z).elim))
 obtain⟨H1,I1,rfl,G1,g1,sr1⟩:=hx
 cases d with
 | true=>
   rw[if_pos rfl]at e
   exact wpAny_mono (ha.un E pins s1 σ H1 ρ H0 G0 G1 I1 e sr1 fun C H' G' hC g'=>h C H' G' hC (g1.trans g')) (fun _ _ z=>z.elim) fun _ _ z=>z
 | false=>
   rw[if_neg qh]at e
   exact wpAny_mono (hb.un E pins s1 σ H1 ρ H0 G0 G1 I1 e sr1 fun C H' G' hC g'=>h C H' G' hC (g1.trans g')) (fun _ _ z=>z.elim) fun _ _ z=>z⟩
theorem Yqz(F:FnOk X.prog X.w X.K X.mg X.base (CXN X.prog X.w) k f fd ps sp)(hr:Room k X.A)(hb:Binds X.K fd ps [])(I:Inv X pins σ H s)(r:Vals vs us)(h:sp vs H Q E):wpAny (model X.prog X.w) X.A (call (.ref f) us) (EP X pins σ Q) (Rsd X pins σ E) s:=by
 have hl:(us++[]).length=ps.length:=by rw[List.append_nil,<-r.length];exact F.len _ _ _ _ h
 refine wpAny_call (codeAny_mono (F.run X.A X.stack s H ⟨us,[]⟩ us vs Q E hr I.env0 (by have:=hb s us I.kIn hl;rwa [List.append_nil]at this) r h) fun r s' hq=>?_)
 cases r with
 | error e=>exact⟨H,s,I,hq⟩
 | ok fl=>
   cases fl with
   | ret u=>exact I.after hq
   | next=>exact False.elim hq
   | brk=>exact False.elim hq
   | cont=>exact False.elim hq
theorem Yq0(M:Mk X.K C f)(F:FnOk X.prog X.w X.K X.mg X.base (CXN X.prog X.w) k f fd ps sp)(hr:Room (k+1) X.A)(hb:Binds X.K fd ps [])(I:Inv X pins σ H s)(r:Vals vs us)
 (h:∀x dx,H x=none->H dx=none->dx≠x->sp (.ref x::vs) (upd (upd H dx (.own x)) x (.ins C dx [])) (fun v H2=>v=.non/\Q (.ref x) H2) E) :
 wpAny (model X.prog X.w) X.A (call (.ref C) us) (EP X pins σ Q) (Rsd X pins σ E) s:=by
 have hq:=h (s.heap.objs.size+1) s.heap.objs.size (I.hok.fresh (Nat.le_succ _)) (I.hok.fresh (qs _)) (ql (qx _))
 have I2:=Inv.made (C:=C) I
 have r2:Vals (V.ref (s.heap.objs.size+1)::vs) (Value.ref (s.heap.objs.size+1)::us):=.cons rfl r
 have hl:(Value.ref (s.heap.objs.size+1)::us++[]).length=ps.length:=by
  have e:=r2.length
  rw[F.len _ _ _ _ hq]at e
  rw[List.append_nil]
  exact e.symm
 have hb':=hb _ (Value.ref (s.heap.objs.size+1)::us) I2.kIn hl
 rw[List.append_nil]at hb'
 refine wpAny_call (Ymw (f:=f) I.kIn M.makes M.init (beq_iff_eq.mp M.fn) (codeAny_mono (F.run _ X.stack _ _ ⟨Value.ref (s.heap.objs.size+1)::us,[]⟩ (Value.ref (s.heap.objs.size+1)::us) _ _ E (hr.make C us [])
  (I2.env0.make C us []) hb' r2 hq) fun r s' hq'=>?_))
 cases r with
 | error e=>exact⟨_,_,I2,hq'⟩
 | ok fl=>
   cases fl with
   | ret u=>
     obtain⟨v,H',I3,rv,ev,q3⟩:=I2.after hq'
     subst ev
     exact⟨rv,⟨V.ref (s.heap.objs.size+1),H',I3,rfl,q3⟩⟩
   | next=>exact False.elim hq'
   | brk=>exact False.elim hq'
   | cont=>exact False.elim hq'
end
def Okmx(P:Program)(w:World)(K:W.Frag)(mg:Str->Option Value)(base:Heap)(k n:Nat)(c m:Str)(ps:List Str)(fr:List D->Option Bool)(xn:Str):Prop:=
 ∃C f fd,FnOk P w K mg base (CXN P w) k f fd ps (spX K mg n fr xn)/\Binds K fd ps []/\W.nsIn K mainGlobals c=some (some (.ref C))/\Cls K C/\Meth K C m f
def OkIx(P:Program)(w:World)(K:W.Frag)(mg:Str->Option Value)(base:Heap)(k n:Nat)(ps:List Str)(fr:List D->Option Bool)(xn:Str):Prop:=
 ∃C f fd,mg "Watch"=some (.ref C)/\Mk K C f/\FnOk P w K mg base (CXN P w) k f fd ps (spX K mg n fr xn)/\Binds K fd ps []
def xMth(c m:Str)(fo:Ro->Option D)(ga:Ro->Option (List D))(fr:List D->Option Bool):Ro->Option Bool:=fun ρ=>(fo ρ).bind fun d=>match d with
 | .obj c' ks vs=>if c'=c/\m∉ks then (ga ρ).bind fun l=>fr (.obj c' ks vs::l)else none
 | _=>none
def Yq1(ga:Ro->Option (List D))(fr:List D->Option Bool):Ro->Option Bool:=fun ρ=>(ga ρ).bind fun l=>@ite _ (∀x:Addr,fr (.adr x::l)=some true) (Classical.propDecidable _) (some true) none
section
variable {X:Cx} {xn c m x:Str} {o e:Expr} {es:List Expr} {fo:Ro->Option D} {ga:Ro->Option (List D)} {fr:List D->Option Bool} {ps:List Str} {j k n:Nat} {p apos cpos pos:Pos}
theorem Yq2{pl:Sem Bool}(O:Okmx X.prog X.w X.K X.mg X.base j (n+1) c m ps fr xn)(hr:Room k X.A)(ho:ZE X o fo)(ha:ZA X (e::es) ga)(hlen:∀ρ l,ga ρ=some l->l.length=n)(hj:j<=k:=by first | exact qs _ | omega)(hxe:∀e s,¬X.xe e s:=by exact fun _ _ h=>h)
 (hst:starEach (e::es) X.env=(false,eval e X.env)::starEach es X.env:=by rfl) (hpl:(backTo cpos (starEach es X.env)).any (·.1)=false:=by rfl) (hsw:swapsWith (.Call (.Attribute o m apos) (e::es) [] cpos) none pos.line X.env=pure false:=by rfl)
 (ht:eval (.Call (.Attribute o m apos) (e::es) [] cpos) X.env=(do
  let ov <-eval o X.env
  standAt apos.atName
  let (f,first) <-holding [ov] (getMethod ov m pl)
  callWith cpos f first (backTo cpos (starEach (e::es) X.env)) (backToKw cpos (keywordEach [] X.env))):=by rfl) :
 ZR X xn [.Expr (.Call (.Attribute o m apos) (e::es) [] cpos) pos] (xMth c m fo ga fr):=⟨fun E pins s σ H ρ H0 G0 G I er sr h=>by
 obtain⟨C,f,fd,F,hb,hn,cl,me⟩:=O
 unfold xMth at er
 obtain⟨d,h1,er1⟩:=qa er
 clear er
 refine wpAny_execs_cons (wpAny_Expr_any ?_ I.quiet hsw)
 cases d with
 | obj c' ks vs=>
   change (if c'=c/\m∉ks then (ga ρ).bind fun l=>fr (.obj c' ks vs::l)else none)=some true at er1
   by_cases hc:c'=c/\m∉ks
   ·rw[if_pos hc]at er1
    obtain⟨l,h2,er2⟩:=qa er1
    obtain⟨rfl,hm⟩:=hc
    refine W.methodCall_KW (pl:=pl) (wpAny_mono (ho.un pins s σ H (fun v H1=>∃G1,Gr H G H1 G1/\Rp X.K G1 (.obj c' ks vs) v/\SR X.K H0 G0 σ H1 G1 ρ) I (tOf.at h1 sr fun v H1 G1 g1 r1 s1=>⟨G1,g1,r1,s1⟩)) (fun u s1 hx=>?_) fun e s z=>(hxe e s z).elim) ht
    obtain⟨v,H1,I1,rv,G1,g1,r1,sr1⟩:=hx
    have r1':=r1
    rw[Rp]at r1
    obtain⟨a,C',dx,xs,rfl,nn,ga',lx,q⟩:=r1
    rw[hn]at nn
    cases nn
    obtain rfl:u=Value.ref a:=rv
    refine Yeg I1 (sr1.seen _ _ ga') cl me (Yju hm) ?_
    refine W.callWith_K (first:=[.ref a]) (h₀:=X.base) I.ok.mod.kin me.kp (wpAny_mono (ha.un cpos pins s1 σ H1 (fun vs2 H2=>∃G2,Gr H1 G1 H2 G2/\RpL X.K G2 l vs2/\SR X.K H0 G0 σ H2 G2 ρ) I1 (tAof.at h2 sr1 fun vs2 H2 G2 g2 r2 s2=>⟨G2,g2,r2,s2⟩)) (fun us s2 hx=>?_) fun e s z=>(hxe e s z).elim) hst hpl
    obtain⟨vs2,H2,I2,r,G2,g2,r2,sr2⟩:=hx
    refine⟨I2.kIn,?_⟩
    refine wpAny_mono (Yqz (us:=.ref a::us) (vs:=.ref a::vs2) (Q:=fun _ _=>False) (E:=E) F (hr.mono hj) hb I2 (.cons rfl r) ⟨by rw[qq,r2.length,hlen ρ l h2],.obj c' ks vs::l,G2,sr2.seen,.cons (r1'.mono g2.g) r2,er2,fun C H' G' hC g'=>h C H' G' hC (g1.trans (g2.trans g'))⟩) (fun _ _ z=>?_) fun _ _ z=>z
    obtain⟨_,_,_,_,z⟩:=z
    exact z.elim
   ·rw[if_neg hc]at er1
    cases er1
 | _=>cases er1⟩
theorem Ysx{pl:Sem Bool}(O:Okmx X.prog X.w X.K X.mg X.base j 1 c m ps fr xn)(hr:Room k X.A)(ho:ZE X o fo)(hj:j<=k:=by first | exact qs _ | omega)(hxe:∀e s,¬X.xe e s:=by exact fun _ _ h=>h)
 (hsw:swapsWith (.Call (.Attribute o m apos) [] [] cpos) none pos.line X.env=pure false:=by rfl)
 (ht:eval (.Call (.Attribute o m apos) [] [] cpos) X.env=(do
  let ov <-eval o X.env
  standAt apos.atName
  let (f,first) <-holding [ov] (getMethod ov m pl)
  callWith cpos f first (backTo cpos (starEach [] X.env)) (backToKw cpos (keywordEach [] X.env))):=by rfl) :
 ZR X xn [.Expr (.Call (.Attribute o m apos) [] [] cpos) pos] (xMth c m fo aNil fr):=⟨fun E pins s σ H ρ H0 G0 G I er sr h=>by
 obtain⟨C,f,fd,F,hb,hn,cl,me⟩:=O
 unfold xMth at er
 obtain⟨d,h1,er1⟩:=qa er
 clear er
 refine wpAny_execs_cons (wpAny_Expr_any ?_ I.quiet hsw)
 cases d with
 | obj c' ks vs=>
   change (if c'=c/\m∉ks then (aNil ρ).bind fun l=>fr (.obj c' ks vs::l)else none)=some true at er1
   by_cases hc:c'=c/\m∉ks
   ·rw[if_pos hc]at er1
    change fr [.obj c' ks vs]=some true at er1
    obtain⟨rfl,hm⟩:=hc
    refine W.methodCall_KW (pl:=pl) (wpAny_mono (ho.un pins s σ H (fun v H1=>∃G1,Gr H G H1 G1/\Rp X.K G1 (.obj c' ks vs) v/\SR X.K H0 G0 σ H1 G1 ρ) I (tOf.at h1 sr fun v H1 G1 g1 r1 s1=>⟨G1,g1,r1,s1⟩)) (fun u s1 hx=>?_) fun e s z=>(hxe e s z).elim) ht
    obtain⟨v,H1,I1,rv,G1,g1,r1,sr1⟩:=hx
    have r1':=r1
    rw[Rp]at r1
    obtain⟨a,C',dx,xs,rfl,nn,ga',lx,q⟩:=r1
    rw[hn]at nn
    cases nn
    obtain rfl:u=Value.ref a:=rv
    refine Yeg I1 (sr1.seen _ _ ga') cl me (Yju hm) ?_
    refine W.callWith_K0 (first:=[.ref a]) I1.kIn me.kp ?_
    refine wpAny_mono (Yqz (us:=[.ref a]) (vs:=[.ref a]) (Q:=fun _ _=>False) (E:=E) F (hr.mono hj) hb I1 (.cons rfl .nil) ⟨rfl,[.obj c' ks vs],G1,sr1.seen,.one r1',er1,fun C H' G' hC g'=>h C H' G' hC (g1.trans g')⟩) (fun _ _ z=>?_) fun _ _ z=>z
    obtain⟨_,_,_,_,z⟩:=z
    exact z.elim
   ·rw[if_neg hc]at er1
    cases er1
 | _=>cases er1⟩
theorem Yv4(O:OkIx X.prog X.w X.K X.mg X.base j (n+1) ps fr xn)(hr:Room k X.A)(hg:Gl X "Watch")(ha:ZA X (e::es) ga)(hlen:∀ρ l,ga ρ=some l->l.length=n)(hj:j+1<=k:=by first | exact qs _ | omega)(hxe:∀e s,¬X.xe e s:=by exact fun _ _ h=>h)
 (hst:starEach (e::es) X.env=(false,eval e X.env)::starEach es X.env:=by rfl) (hpl:(backTo cpos (starEach es X.env)).any (·.1)=false:=by rfl) (hsw:swapsWith (.Call (.Name "Watch" p) (e::es) [] cpos) none pos.line X.env=pure false:=by rfl) :
 ZR X xn [.Expr (.Call (.Name "Watch" p) (e::es) [] cpos) pos] (Yq1 ga fr):=⟨fun E pins s σ H ρ H0 G0 G I er sr h=>by
 obtain⟨C,f,fd,hm,mk,F,hb⟩:=O
 unfold Yq1 at er
 obtain⟨l,h1,er⟩:=qa er
 have er:∀x:Addr,fr (.adr x::l)=some true:=by
  by_cases z:∀x:Addr,fr (.adr x::l)=some true
  ·exact z
  ·rw[@if_neg _ (Classical.propDecidable _) z]at er
   cases er
 refine wpAny_execs_cons (wpAny_Expr_any ?_ I.quiet hsw)
 refine wpAny_Call_Name_kw (Yfs I hg hm ?_ (by decide))
 refine W.callWith_K (h₀:=X.base) I.ok.mod.kin mk.kp (wpAny_mono (ha.un cpos pins s σ H (fun vs2 H2=>∃G2,Gr H G H2 G2/\RpL X.K G2 l vs2/\SR X.K H0 G0 σ H2 G2 ρ) I (tAof.at h1 sr fun vs2 H2 G2 g2 r2 s2=>⟨G2,g2,r2,s2⟩)) (fun us s2 hx=>?_) fun e s z=>(hxe e s z).elim) hst hpl
 obtain⟨vs2,H2,I2,r,G2,g2,r2,sr2⟩:=hx
 refine⟨I2.kIn,?_⟩
 refine wpAny_mono (Yq0 (Q:=fun _ _=>False) (E:=E) mk F (hr.mono hj) hb I2 r fun x dx hx hdx hne=>?_) (fun _ _ z=>?_) fun _ _ z=>z
 ·have sm:Same H2 (upd (upd H2 dx (.own x)) x (.ins C dx [])):=fun a o ho=>by
   have n1:a≠x:=fun z=>by rw[z,hx]at ho;cases ho
   have n2:a≠dx:=fun z=>by rw[z,hdx]at ho;cases ho
   rw[Yk n1,Yk n2]
   exact ho
  have g3:Gr H2 G2 (upd (upd H2 dx (.own x)) x (.ins C dx [])) G2:=⟨sm,Same.refl _,sr2.seen.trans sm,fun _ h h'=>absurd h h'⟩
  exact⟨by rw[qq,r2.length,hlen ρ l h1],.adr x::l,G2,g3.s,.cons (by rw[Rp]) r2,er x,fun C' H' G' hC g'=>h C' H' G' hC (g2.trans (g3.trans g'))⟩
 ·obtain⟨_,_,_,_,z⟩:=z
  exact z.elim⟩
end
def tryR(r:Ro->Option Bool)(g:Ro->Option Out):Ro->Option Out:=fun ρ=>(r ρ).bind fun b=>if b=true then g ρ else none
def orS(f g:Ro->Option Out):Ro->Option Out:=fun ρ=>match f ρ with
 | some o=>some o
 | none=>g ρ
section
variable {X:Cx} {y nm xn:Str} {np hpos pos:Pos} {b₀:Stmt} {suite body:List Stmt} {g:Ro->Option Out} {r:Ro->Option Bool} {P:Program} {w:World} {K:W.Frag} {mg:Str->Option Value} {base:Heap}
theorem Yq3{st:Stmt}{f g:Ro->Option Out}(h1:ZS X st f)(h2:ZS X st g):ZS X st (orS f g):=⟨fun pins s σ H D I ⟨ρ,out,H0,G0,G,e,sr,h⟩=>by
 unfold orS at e
 split at e
 ·rename_i o ho
  cases e
  exact h1.un pins s σ H D I ⟨ρ,out,H0,G0,G,ho,sr,h⟩
 ·exact h2.un pins s σ H D I ⟨ρ,out,H0,G0,G,e,sr,h⟩⟩
theorem Ygq(i:Nat){gs:Addr->Ro->Option Out}(hb:ZR X xn body r)(hp:Xp X.K X.mg xn y true)(hgy:Gl X y)(hN:X.N.Nodup)
 (hs:∀ea ob,(∀C,X.mg xn=some (.ref C)->Xo ob (.ref C))->ZB (Cx.mk X ea [(ea,ob)]) (b₀::suite) (gs ea)) (hgs:∀ea ρ out,g ρ=some out->∃ρ3,gs ea (ρ.set i (some (.sh (.adr ea))))=some (.nx ρ3)/\out=.nx (ρ3.set i none))
 (hx:X.ex=[]:=by rfl) (hst:X.stack=X.env::X.outer:=by rfl) (hfr:X.env.frame=some X.env.locals:=by rfl) (hi:X.N[i]?=some nm:=by rfl) (hlo:X.env.kindOf nm=some .local:=by rfl) (hdy:(y==("__debug__":Str))=false:=by decide) :
 ZS X (.Try body [.ExceptHandler (some (.Name y np)) (some nm) (b₀::suite) hpos] [] [] pos) (tryR r g):=⟨fun pins s σ H D I ⟨ρ,out,H0,G0,G,e,sr,h⟩=>by
 obtain⟨C,B,mC,mB,hC,_,hB,hin⟩:=hp
 unfold tryR at e
 obtain⟨b,h2,e⟩:=qa e
 cases b with
 | false=>rw[if_neg qh]at e;cases e
 | true=>
   rw[if_pos rfl]at e
   refine wpAny_Try_except (wpAny_mono (hb.un (fun C' _ H2=>C'=.ref C/\∃G2,Gr H G H2 G2) pins s σ H ρ H0 G0 G I h2 sr fun C' H' G' hC' g'=>?_) (fun _ _ z=>z.elim) fun ev s' z=>?_)
   ·rw[mC]at hC'
    cases hC'
    exact⟨rfl,G',g'⟩
   ·obtain⟨H1,s1,I1,ea,T,H',C',rfl,os,bare,un,hok,x0,n1,n2,n3,n4,rfl,G2,g2⟩:=z
    have J:=I1.call' os un hok bare (fun b z=>nomatch z)
    refine Yy3 hx hst hfr J x0 (Ofa.of I1 hx n1 n3) (Ofa.of I1 hx n2 n4) fun h' T' I2 x2 o2=>?_
    refine Yqn hx I2 x2 (Ofa.of I1 hx n1 n3) o2 hB hC mB hgy hin hdy hN hi (.inl hlo) (.inr hlo) fun s3 ob hc I3=>?_
    obtain⟨ρ3,e3,rfl⟩:=hgs ea ρ _ e
    have sr':=(sr.grow g2).set_sh i (d:=.adr ea) (v:=.ref ea) (by rw[Rp])
    refine wpAny_mono ((hs ea ob fun C' q=>by rw[mC]at q;cases q;exact hc).un pins s3 _ H' { nx:=fun σ2 H3=>D.nx (σ2.set i none) H3,rt:=fun _ _=>False } I3 ⟨_,.nx ρ3,H0,G0,G2,e3,sr',fun σ2 H2 G3 s2=>h _ H2 G3 (s2.drop i)⟩) (fun fl s4 q=>?_) fun _ _ z=>z
    have q':=Yvz I.ok q
    cases fl with
    | next=>
      obtain⟨σ4,H4,I4,q4⟩:=q'
      exact Yqo I4 hN hi hlo fun s5 I5=>⟨_,H4,I5,q4⟩
    | brk=>obtain⟨_,_,_,q4⟩:=q';exact False.elim q4
    | cont=>obtain⟨_,_,_,q4⟩:=q';exact False.elim q4
    | ret u=>obtain⟨_,_,_,_,_,q4⟩:=q';exact False.elim q4⟩
theorem okmx{c x q xn:Str}{st:Stmt}{k n m:Nat}{N ps:List Str}{r:Ro->Option Bool}(F:Mq K c x q st)(S:FnScope N ps (defScope st))(hb:∀{f:Addr} {cdv:Value} {A:Around} {outer:List Env} {s:Shared} {H:Hp} {E:XK},Room k (A.deeper (envOfC q (defScope st) s.heap.objs.size f cdv))->ZX (cxOf (CXN P w) P w K mg base N q (defScope st) f cdv A outer s H E) E xn (defBody st) r)(hn:N.length=n:=by rfl)(hm:ps.length=m:=by rfl)
 (B:Bnm x q st ps:=by(intro _ _ _ _ _ _ us hl;first | (obtain⟨_,rfl⟩:=len1 hl;rfl) | (obtain⟨_,_,rfl⟩:=len2 hl;rfl) | (obtain⟨_,_,_,rfl⟩:=len3 hl;rfl))):Okmx P w K mg base (k+1) m c x ps (runX m n r) xn:=by
 obtain⟨C,f,fd,a,cl,me,fu⟩:=F
 exact⟨C,f,fd,Yf2 (k:=k) fu S hn hm fun _ _ _ _ _ _ hr=>hb hr,fu.binds B,a,cl,me⟩
theorem okix{st:Stmt}{k n m:Nat}{N ps:List Str}{r:Ro->Option Bool}{xn:Str}(F:Iq K st)(hW:∀C,W.nsIn K mainGlobals "Watch"=some (some (.ref C))->mg "Watch"=some (.ref C))(S:FnScope N ps (defScope st))
 (hb:∀{f:Addr} {cdv:Value} {A:Around} {outer:List Env} {s:Shared} {H:Hp} {E:XK},Room k (A.deeper (envOfC "Watch.__init__" (defScope st) s.heap.objs.size f cdv))->ZX (cxOf (CXN P w) P w K mg base N "Watch.__init__" (defScope st) f cdv A outer s H E) E xn (defBody st) r) (hn:N.length=n:=by rfl) (hm:ps.length=m:=by rfl)
 (B:Bnm "__init__" "Watch.__init__" st ps:=by(intro _ _ _ _ _ _ us hl;obtain⟨_,_,_,rfl⟩:=len3 hl;rfl)):OkIx P w K mg base (k+1) m ps (runX m n r) xn:=by
 obtain⟨C,f,fd,a,mk,fu⟩:=F
 exact⟨C,f,fd,hW C a,mk,Yf2 (k:=k) fu S hn hm fun _ _ _ _ _ _ hr=>hb hr,fu.binds B⟩
end
def mxI:List Int->Option Int
 | []=>none
 | n::r=>some (r.foldl max n)
def Yk9:List D->Option D
 | [.lst l]=>(Ydk l).bind fun ns=>(mxI ns).map D.int
 | _=>none
theorem Yq4:∀(r:List Int) (n:Int),(r.foldl max n=n\/r.foldl max n∈r)/\n<=r.foldl max n/\∀a∈r,a<=r.foldl max n
 | [],n=>⟨.inl rfl,Int.le_refl _,fun _ h=>nomatch h⟩
 | b::r,n=>by
   obtain⟨h1,h2,h3⟩:=Yq4 r (max n b)
   rw[List.foldl_cons]
   refine⟨?_,by omega,fun a ha=>?_⟩
   ·rcases h1 with h1 | h1
    ·rw[h1]
     rcases Int.le_total n b with z | z
     ·rw[Int.max_eq_right z];exact .inr (.head _)
     ·rw[Int.max_eq_left z];exact .inl rfl
    ·exact .inr (.tail _ h1)
   ·rcases qr ha with rfl | ha
    ·omega
    ·exact h3 a ha
theorem Yjy{ns:List Int}{m:Int}(h:mxI ns=some m):m∈ns/\∀a∈ns,a<=m:=by
 cases ns with
 | nil=>cases h
 | cons n r=>
   cases h
   obtain⟨h1,h2,h3⟩:=Yq4 r n
   refine⟨?_,fun a ha=>?_⟩
   ·rcases h1 with h1 | h1
    ·rw[h1];exact .head _
    ·exact .tail _ h1
   ·rcases qr ha with rfl | ha
    ·exact h2
    ·exact h3 a ha
def Yy6:List V->Hp->VK->Prop:=fun vs H Q=>∃(a:Addr) (ns:List Int) (m:Int),vs=[.ref a]/\Rd H a (.lst (ns.map V.int))/\mxI ns=some m/\Q (.int m) H
section
variable {X:Cx} {K:W.Frag}
theorem Yla(hc:X.calm=true):Yb9 X (.builtin "max") Yy6:=by
 intro pins s σ H xs us Q I r h
 obtain⟨a,ns,m,rfl,hr,hm,q⟩:=h
 obtain⟨u,rfl,ru⟩:=Yfu r
 cases ru
 obtain⟨its,rv,pl,hz⟩:=I.list (.inl hr)
 have hI:=Yei rv
 obtain⟨xs,e⟩:=hI.allInts.items
 have hns:ns=xs.toList.map (·.1):=by
  rw[<-hI.numsOf,<-nums_intItems,<-e]
 obtain⟨s1,s2⟩:=Yjy hm
 have hsz:0 < xs.size:=by
  have h3:0 < ns.length:=List.length_pos_of_mem s1
  rw[hns,qe,qi]at h3
  exact h3
 have hl:=pl.isList
 rw[e]at hl
 refine max_intList (I.ok.hd hc) hl hsz fun v h' tk hv hk=>?_
 obtain⟨t,rfl⟩:=intItems_at hv
 obtain⟨h1,h2⟩:=argBest_gt (numAt xs) (xs.size - 1)
 have hmem:numAt xs (argBest (fun i j=>decide (numAt xs i > numAt xs j)) (xs.size - 1))∈ns:=by
  rw[hns,numAt_eq,List.getD_eq_getElem?_getD,qp (by rw[qe,qi];omega)]
  exact List.getElem_mem _
 have hmx:m=numAt xs (argBest (fun i j=>decide (numAt xs i > numAt xs j)) (xs.size - 1)):=by
  have a1:=s2 _ hmem
  obtain⟨j,hj,e2⟩:=List.getElem_of_mem s1
  have hj':j < xs.size:=by
   rw[hns,qe,qi]at hj
   exact hj
  have a2:=h2 j (by omega)
  have e3:numAt xs j=m:=by
   rw[numAt_eq,<-hns,List.getD_eq_getElem?_getD,qp hj,e2]
   rfl
  rw[e3]at a2
  omega
 rw[hmx]at q
 exact⟨.int _,H,I.kept hk,⟨t,rfl⟩,q⟩
theorem Ynn:SemC K Yy6 Yk9:=by
 intro vs ds d H G Q h s r q
 unfold Yk9 at h
 split at h
 ·obtain⟨ns,h1,h⟩:=qa h
  obtain⟨m,h2,rfl⟩:=qb h
  obtain⟨v,rfl,rv⟩:=Ydj r
  rw[Ct]at rv
  obtain⟨a,xs,rfl,g',rl⟩:=rv
  cases Yek h1
  cases Ygl rl
  exact⟨a,ns,m,rfl,g',h2,q _ H G (.refl s) (by rw[Rp])⟩
 ·cases h
theorem nrM{α:Sort _}{a b:α}(h:a=b):a=b:=h
@[simp] theorem Ylb(l:List D):Yk9 [.lst l]=(Ydk l).bind fun ns=>(mxI ns).map D.int:=nrM rfl
end
end
section
def Yol(l i:Nat)(f:Ro->Option D)(g:Addr->Ro->List Bool->Option (OutW (List Bool))):Ro->List Bool->Option (OutW (List Bool)):=fun ρ t=>match ρ[i]? with
 | some (some (.sh (.obj c ks [b,h,.adr l'])))=>if l'=l/\c="Watch"/\ks=wks then (f ρ).bind fun
  | .bl k=>(g l [some (.sh (watD b h (.adr l))),some (.sh (.bl k))] t).bind fun
    | .rt d t'=>if t'=t++[k]then some (.nx ρ t')else none
    | _=>none
  | _=>none
  else none
 | _=>none
section
variable {X:Cx} {l:Addr} {e:Expr} {f:Ro->Option D} {pos:Pos}
theorem Yom(i:Nat){j' k:Nat}{x:Str}{ps:List Str}{p2 apos cpos:Pos}{pl:Sem Bool}{g:Addr->Ro->List Bool->Option (OutW (List Bool))}(O:Okm X.prog X.w X.K X.mg X.base j' "Watch" "settle" ps (spS X.K g))(hr:Room k X.A)(he:ME X e f)
 (hj:j'<=k:=by first | exact qs _ | omega) (hi:X.N[i]?=some x:=by rfl) (hv:Vis X.env.scope x:=by first | exact Or.inl rfl | exact Or.inr (Or.inl rfl) | exact Or.inr (Or.inr rfl))
 (hd:(x==("__debug__":Str))=false:=by decide) (hcd:(x==("__classdict__":Str))=false:=by decide)
 (hse:swapsWith (.Call (.Attribute (.Name x p2) "settle" apos) [e] [] cpos) none pos.line X.env=pure false:=by rfl)
 (hst:starEach [e] X.env=(false,eval e X.env)::starEach [] X.env:=by rfl) (hpl:(backTo cpos (starEach [] X.env)).any (·.1)=false:=by rfl)
 (ht:eval (.Call (.Attribute (.Name x p2) "settle" apos) [e] [] cpos) X.env=(do
  let ov <-eval (.Name x p2) X.env
  standAt apos.atName
  let (f,first) <-holding [ov] (getMethod ov "settle" pl)
  callWith cpos f first (backTo cpos (starEach [e] X.env)) (backToKw cpos (keywordEach [] X.env))):=by rfl) :
 WS wl X l (.Expr (.Call (.Attribute (.Name x p2) "settle" apos) [e] [] cpos) pos) (Yol l i f g):=by
 obtain⟨C,fa,fd,F,hb,hn,cl,me⟩:=O
 refine PS.imp (Yft (Yt6 (E:=E0) (Yfa hi hv hd hcd) cl me F (hr.mono hj) hb .nil Yrz (Ybd he Ydq hst) hst hpl ht) hse) fun F σ H hx_=>?_
 obtain⟨ρ,t,out,H0,G0,G,e,w,c⟩:=hx_
 unfold Yol at e
 split at e
 ·rename_i c' ks b h l' hi'
  split at e
  ·rename_i hc
   obtain⟨rfl,rfl,rfl⟩:=hc
   obtain⟨d0,h2,e⟩:=qa e
   cases d0 with
   | bl kk=>
     obtain⟨o2,h3,e⟩:=qa e
     cases o2 with
     | rt d t'=>
       dsimp only at e
       split at e
       ·rename_i hsc
        subst hsc
        cases e
        obtain⟨v,q1,q2⟩:=w.sr.sh i _ hi'
        rw[Rp]at q2
        obtain⟨a,C',dx,xs,rfl,n,ga,lx,q⟩:=q2
        rw[hn]at n
        cases n
        obtain⟨y1,y2,y3,rfl,r1,r2,r3⟩:=q.three
        rw[Rp]at r3
        subst r3
        refine⟨_,q1,a,dx,_,rfl,w.sr.seen _ _ ga,rfl,tOf.at h2 w.sr fun v H1 G1 g1 rv s1=>?_⟩
        rw[Rp]at rv
        subst rv
        have w1:WR X.K l' (wl t) H0 G0 σ H1 G1 ρ:=⟨s1,w.g0,w.h0⟩
        refine⟨rfl,a,l',y1,y2,kk,b,h,t,d,C,dx,G1,rfl,hn,s1.seen,g1.g _ _ ga,w1.no,w1.at,r1.mono g1.g,r2.mono g1.g,h3,fun v H' G' keep hl' rd=>?_⟩
        have w2:=w1.put (wl (t++[kk]))
        have sm:Same (upd H1 l' (wl (t++[kk]))) H':=fun x o ho=>by
         by_cases z:x=l'
         ·subst z;rw[Yo]at ho;rw[<-ho];exact hl'
         ·rw[Yk z]at ho;exact keep x o z ho
        have w3:SR X.K (upd H0 l' (wl (t++[kk]))) G0 σ H' G1 ρ:=w2.sr.grow ⟨sm,Same.refl _,w2.sr.seen.trans sm,fun _ h h'=>absurd h h'⟩
        exact c _ H' G1 _ (Off.put l' H0 _) ⟨w3,w.g0,Yo⟩
       ·cases e
     | _=>cases e
   | _=>cases e
  ·cases e
 ·cases e
theorem Ymc(i:Nat){j' k:Nat}{x:Str}{ps:List Str}{p2 apos cpos:Pos}{pl:Sem Bool}{g:Addr->Wm}(O:Okm X.prog X.w X.K X.mg X.base j' "Watch" "settle" ps (spS X.K g))(hr:Room k X.A)(he:ZE X e f)
 (hj:j'<=k:=by first | exact qs _ | omega) (hi:X.N[i]?=some x:=by rfl) (hv:Vis X.env.scope x:=by first | exact Or.inl rfl | exact Or.inr (Or.inl rfl) | exact Or.inr (Or.inr rfl))
 (hd:(x==("__debug__":Str))=false:=by decide) (hcd:(x==("__classdict__":Str))=false:=by decide) (hse:swapsWith (.Call (.Attribute (.Name x p2) "settle" apos) [e] [] cpos) none pos.line X.env=pure false:=by rfl)
 (hst:starEach [e] X.env=(false,eval e X.env)::starEach [] X.env:=by rfl) (hpl:(backTo cpos (starEach [] X.env)).any (·.1)=false:=by rfl)
 (ht:eval (.Call (.Attribute (.Name x p2) "settle" apos) [e] [] cpos) X.env=(do
  let ov <-eval (.Name x p2) X.env
  standAt apos.atName
  let (f,first) <-holding [ov] (getMethod ov "settle" pl)
  callWith cpos f first (backTo cpos (starEach [e] X.env)) (backToKw cpos (keywordEach [] X.env))):=by rfl) :
 ZWS X l (.Expr (.Call (.Attribute (.Name x p2) "settle" apos) [e] [] cpos) pos) (Yol l i f g):=⟨Yom i O hr he.un hj hi hv hd hcd hse hst hpl ht⟩
end
end
end M
namespace Lw
open PySem PySem.Spec PyProof.Rows L2 M
def top(i:Nat):Stmt:=PySem.Challenge.pw_duskbook_k39_watches_refused.main.body.getD i (.Pass ⟨0,0,0,0⟩)
def Yno:List Str:=[(Str.ofString "keeper"),(Str.ofString "storm")]
set_option maxHeartbeats 4000000
def Fq(K:W.Frag)(mg:Str->Option Value)(x:Str)(i:Nat):Prop:=∃a fd,Fun K x x (top i) a fd/\mg x=some (.ref a)
def Fk(K:W.Frag)(x:Str)(i:Nat):Prop:=∃a fd,W.nsIn K mainGlobals x=some (some (.ref a))/\Fun K x x (top i) a fd
theorem Fk.on{K:W.Frag}{h:Heap}{mg:Str->Option Value}{x:Str}{i:Nat}(F:Fk K x i)(X:K.In h)(G:h.Ns mainGlobals mg):Fq K mg x i:=by
 obtain⟨a,fd,n,f⟩:=F
 exact⟨a,fd,f,W.mg_of X G n⟩
theorem fk_mk{K:W.Frag}{x:Str}{i:Nat}{f:Addr}{oc:Value}{od an:Option Addr}{osl:Array (Option Value)}{kV doc pm cdv ct:Value}(a:W.nsIn K mainGlobals x=some (some (.ref f)))(l:K.lookup f=some ⟨oc,od,.func (W.fnOf x x (defArgs (top i)) (defBody (top i)) (defScope (top i)) .none kV doc pm an cdv ct),osl⟩)(c:W.codeIn K cdv x=true)(k:W.keepIn K (.ref f)=true):Fk K x i:=⟨_,_,a,Ymy l c k⟩
theorem fns{N ps:List Str}{sc:Scope}(a:sc.kind=.function:=by rfl)(b:sc.isCoroutine=false:=by rfl)(c:sc.isGenerator=false:=by rfl)(d:N.Nodup:=by decide +kernel)(e:N.take ps.length=ps:=by rfl)(f:∀x∈ps,sc.names.lookup x=some .local\/sc.names.lookup x=some .cell:=by decide +kernel)(g:∀y∈sc.names,y.2≠.free:=by decide +kernel):FnScope N ps sc:=⟨a,b,c,d,e,f,g⟩
def Bnd(x:Str)(i:Nat)(ps:List Str):Prop:=∀(kV doc pm:Value) (an:Option Addr) (cdv ct:Value) (us:List Value),us.length=ps.length->bindArgs (W.fnOf x x (defArgs (top i)) (defBody (top i)) (defScope (top i)) .none kV doc pm an cdv ct) ⟨us,[]⟩=pure (ps.zip us)
theorem okfn{P:Program}{w:World}{K:W.Frag}{mg:Str->Option Value}{base:Heap}{x:Str}{i k n m:Nat}{N ps:List Str}{fb:Ro->Option Out}(F:Fq K mg x i)(S:FnScope N ps (defScope (top i)))(hb:∀{f:Addr} {cdv:Value} {A:Around} {outer:List Env} {s:Shared} {H:Hp} {E:XK},Room k (A.deeper (envOfC x (defScope (top i)) s.heap.objs.size f cdv))->ZB (cxOf CX0 P w K mg base N x (defScope (top i)) f cdv A outer s H E).nox (defBody (top i)) fb)(hn:N.length=n:=by rfl)(hm:ps.length=m:=by rfl)(B:Bnd x i ps:=by(intro _ _ _ _ _ _ us hl;first | (obtain⟨_,rfl⟩:=len1 hl;rfl) | (obtain⟨_,_,rfl⟩:=len2 hl;rfl) | (obtain⟨_,_,_,rfl⟩:=len3 hl;rfl) | (obtain⟨_,_,_,_,rfl⟩:=len4 hl;rfl) | (obtain⟨_,_,_,_,_,rfl⟩:=len5 hl;rfl) | (obtain⟨_,_,_,_,_,_,rfl⟩:=len6 hl;rfl) | (obtain⟨_,_,_,_,_,_,_,rfl⟩:=len7 hl;rfl))):Okf P w K mg base (k+1) m x ps (runB m n fb):=by
 obtain⟨a,fd,f,h⟩:=F
 exact Yyc f (f.binds B) h (Yf1 (k:=k) f S hn hm fun _ _ _ _ _ _ hr=>hb hr)
theorem okfx{P:Program}{w:World}{K:W.Frag}{mg:Str->Option Value}{base:Heap}{x xn:Str}{i k n m:Nat}{N ps:List Str}{r:Ro->Option Bool}(F:Fq K mg x i)(S:FnScope N ps (defScope (top i)))(hb:∀{f:Addr} {cdv:Value} {A:Around} {outer:List Env} {s:Shared} {H:Hp} {E:XK},Room k (A.deeper (envOfC x (defScope (top i)) s.heap.objs.size f cdv))->ZX (cxOf (CXN P w) P w K mg base N x (defScope (top i)) f cdv A outer s H E) E xn (defBody (top i)) r)(hn:N.length=n:=by rfl)(hm:ps.length=m:=by rfl)(B:Bnd x i ps:=by(intro _ _ _ _ _ _ us hl;first | (obtain⟨_,rfl⟩:=len1 hl;rfl) | (obtain⟨_,_,rfl⟩:=len2 hl;rfl) | (obtain⟨_,_,_,rfl⟩:=len3 hl;rfl) | (obtain⟨_,_,_,_,rfl⟩:=len4 hl;rfl) | (obtain⟨_,_,_,_,_,rfl⟩:=len5 hl;rfl) | (obtain⟨_,_,_,_,_,_,rfl⟩:=len6 hl;rfl) | (obtain⟨_,_,_,_,_,_,_,rfl⟩:=len7 hl;rfl))):Okx P w K mg base (k+1) m x ps (runX m n r) xn:=by
 obtain⟨a,fd,f,h⟩:=F
 exact⟨a,fd,Yf2 (k:=k) f S hn hm fun _ _ _ _ _ _ hr=>hb hr,f.binds B,f.kp,h⟩
theorem aL1{f0:Ro->Option D}:∀ρ l,Yd f0 aNil ρ=some l->l.length=1:=Yfh fun _ _ h=>Yr9 h
theorem aL2{f0 f1:Ro->Option D}:∀ρ l,Yd f0 (Yd f1 aNil) ρ=some l->l.length=2:=Yfh aL1
theorem aL3{f0 f1 f2:Ro->Option D}:∀ρ l,Yd f0 (Yd f1 (Yd f2 aNil)) ρ=some l->l.length=3:=Yfh aL2
theorem aL4{f0 f1 f2 f3:Ro->Option D}:∀ρ l,Yd f0 (Yd f1 (Yd f2 (Yd f3 aNil))) ρ=some l->l.length=4:=Yfh aL3
structure Bl(K:W.Frag)(w:World)(mg:Str->Option Value):Prop where
 Len:mg "len"=none
 Range:mg "range"=none
 List:mg "list"=none
 Tuple:mg "tuple"=none
 Int:mg "int"=none
 Str:mg "str"=none
 Sorted:mg "sorted"=none
 Any:mg "any"=none
 All:mg "all"=none
 Isinstance:mg "isinstance"=none
 Enumerate:mg "enumerate"=none
 Set:mg "set"=none
 Max:mg "max"=none
 Valueerror:mg "ValueError"=none
 g_BEACON_COUNT:GI mg "BEACON_COUNT" 60
 g_HANDS:GT K mg "HANDS" Yno
 f12:Fq K mg "either_holds" 12
 f13:Fq K mg "sum_holds" 13
 f14:Fq K mg "if_holds" 14
 f15:Fq K mg "rule_holds" 15
 f16:Fq K mg "broken_rules" 16
 f17:Fq K mg "holds" 17
 f18:Fq K mg "beacons_in" 18
 f19:Fq K mg "beacons_of" 19
 f28:Fq K mg "is_hand" 28
 f29:Fq K mg "check_hands" 29
 f32:Fq K mg "_law_cell" 32
 f33:Fq K mg "_law_mixed" 33
 f34:Fq K mg "_law_kind" 34
 f35:Fq K mg "_law_rule" 35
 f36:Fq K mg "_law_bits" 36
 f37:Fq K mg "_law_beacons" 37
 w_init:Iq K (inClass (top 30) 0)
 w_turn:Mq K "Watch" "turn" "Watch.turn" (inClass (top 30) 1)
 w_winner:Mq K "Watch" "winner" "Watch.winner" (inClass (top 30) 4)
 w_settle:Mq K "Watch" "settle" "Watch.settle" (inClass (top 30) 5)
 w_back:Mq K "Watch" "back" "Watch.back" (inClass (top 30) 6)
 f38:Fq K mg "_law_kinds" 38
 f39:Fq K mg "_law_bad_hands" 39
 f40:Fq K mg "_law_no_light" 40
 w_evening:Mq K "Watch" "evening" "Watch.evening" (inClass (top 30) 2)
 cW:∀C,W.nsIn K mainGlobals "Watch"=some (some (.ref C))->mg "Watch"=some (.ref C)
 n_book:Nq K "Watch" "book"
 n_hands:Nq K "Watch" "hands"
 n_truths:Nq K "Watch" "truths"
 x_NoHands_NoHands:Xp K mg "NoHands" "NoHands" true
 x_Over_Over:Xp K mg "Over" "Over" true
 x_NoLight_NoLight:Xp K mg "NoLight" "NoLight" true
 x_NoneSettled_NoneSettled:Xp K mg "NoneSettled" "NoneSettled" true
 x_NoneSettled_DuskError:Xp K mg "NoneSettled" "DuskError" true
 x_NoneSettled_NoLight:Xp K mg "NoneSettled" "NoLight" false
 x_NoneSettled_Over:Xp K mg "NoneSettled" "Over" false
 x_NoneSettled_NoHands:Xp K mg "NoneSettled" "NoHands" false
 x_NoneSettled_NoTable:Xp K mg "NoneSettled" "NoTable" false
 x_NoneSettled_NoPaper:Xp K mg "NoneSettled" "NoPaper" false
 x_NoneSettled_NoPage:Xp K mg "NoneSettled" "NoPage" false
 x_NoneSettled_NoBook:Xp K mg "NoneSettled" "NoBook" false
 x_NoLight_DuskError:Xp K mg "NoLight" "DuskError" true
 x_NoLight_NoneSettled:Xp K mg "NoLight" "NoneSettled" false
 x_NoLight_Over:Xp K mg "NoLight" "Over" false
 x_NoLight_NoHands:Xp K mg "NoLight" "NoHands" false
 x_NoLight_NoTable:Xp K mg "NoLight" "NoTable" false
 x_NoLight_NoPaper:Xp K mg "NoLight" "NoPaper" false
 x_NoLight_NoPage:Xp K mg "NoLight" "NoPage" false
 x_NoLight_NoBook:Xp K mg "NoLight" "NoBook" false
 x_Over_DuskError:Xp K mg "Over" "DuskError" true
 x_Over_NoneSettled:Xp K mg "Over" "NoneSettled" false
 x_Over_NoLight:Xp K mg "Over" "NoLight" false
 x_Over_NoHands:Xp K mg "Over" "NoHands" false
 x_Over_NoTable:Xp K mg "Over" "NoTable" false
 x_Over_NoPaper:Xp K mg "Over" "NoPaper" false
 x_Over_NoPage:Xp K mg "Over" "NoPage" false
 x_Over_NoBook:Xp K mg "Over" "NoBook" false
 x_NoHands_DuskError:Xp K mg "NoHands" "DuskError" true
 x_NoHands_NoneSettled:Xp K mg "NoHands" "NoneSettled" false
 x_NoHands_NoLight:Xp K mg "NoHands" "NoLight" false
 x_NoHands_Over:Xp K mg "NoHands" "Over" false
 x_NoHands_NoTable:Xp K mg "NoHands" "NoTable" false
 x_NoHands_NoPaper:Xp K mg "NoHands" "NoPaper" false
 x_NoHands_NoPage:Xp K mg "NoHands" "NoPage" false
 x_NoHands_NoBook:Xp K mg "NoHands" "NoBook" false
section
variable {P:Program} {w:World} {K:W.Frag} {mg:Str->Option Value} {base:Heap}
theorem Yhq:FnScope ["rule","evening"] ["rule","evening"] (defScope (top 12)):=fns
theorem cs_either_holds_0:CompSc ["rule","evening"] (defScope (top 12)) ["saying","evening"] [none,some 1] (fsc [(".0",.local),("saying",.local),("evening",.free)]):=Yap (by decide +kernel)
def Ybt:Ro->Option D:=(mB (b2 (b2 (getC 1) (b2 (getC 0) (kD (.int 0)) ixD) ixD) (b2 (getC 0) (kD (.int 1)) ixD) (eqM false)))
def Yey:Ro->Option Out:=(sRet (cC (Yd (lF (Yc3 (b1 (getV 0) Ys) [none,some 1] (gSet 0) tY (Ybt))) aNil) anyC))
def Ybz:List D->Option D:=runB 2 2 Yey
theorem Yhr(bl:Bl K w mg):Okf P w K mg base 1 2 "either_holds" ["rule","evening"] Ybz:=by
 refine okfn bl.f12 Yhq fun hr=>?_
 exact(Yq (Yx (Yz (Yfi rfl) Ydy rfl bl.Any boot_any (Ym (Yc (Yt (Ybc cs_either_holds_0 rfl (Ybj (Yh 0)) (fun _ _ _ _ _=>(Yaj 0 cs_either_holds_0.nd)) (fun _ _ _ _ _=>Ycb) (fun _ _ _ _ _=>(Yds hr.units (Yc (Yu (Ye 1) (Yc (Yu (Ye 0) (Yc Yg))))) (Yc (Yu (Ye 0) (Yc Yg))))) (Ybs (i:=0) rfl)))) Yp))))
theorem sc_sum_holds:FnScope ["rule","evening","lit_ones"] ["rule","evening"] (defScope (top 13)):=fns
theorem cs_sum_holds_0:CompSc ["rule","evening","lit_ones"] (defScope (top 13)) ["beacon","evening"] [none,some 1] (fsc [(".0",.local),("beacon",.local),("evening",.free)]):=Yap (by decide +kernel)
def Yc5:Ro->Option Bool:=(b1 (b2 (getC 1) (getC 0) ixD) truD)
def Yc6:Ro->Option D:=(getV 0)
def Yhs:Ro->Option Out:=(sSeq (sOwn 2 (Yc3 (b1 (b2 (getC 0) (kD (.int 0)) ixD) Ys) [none,some 1] (gSet 0) (Yc5) (Yc6))) (sRet (mB (b2 (mB (b2 (b2 (cC (Yd (getC 2) aNil) lenC) (kD (.int 2)) modI) (kD (.int 1)) (eqM false))) (b2 (getC 0) (kD (.int 1)) ixD) (eqM false)))))
def Ydm:List D->Option D:=runB 2 3 Yhs
theorem Ylc(bl:Bl K w mg):Okf P w K mg base 1 2 "sum_holds" ["rule","evening"] Ydm:=by
 refine okfn bl.f13 sc_sum_holds fun hr=>?_
 exact(Yl (Ynb 2 sc_sum_holds.nd cs_sum_holds_0 rfl (Ybj (Yu (Ye 0) (Yc Yg))) (fun _ _ _ _ _=>(Yaj 0 cs_sum_holds_0.nd)) (fun _ _ _ _ _=>(Ynd (Ydz (Yc (Yu (Ye 1) (Ye 0)))))) (fun _ _ _ _ _=>(Yh 0)) (Ybs (i:=0) rfl)) (Yq (Yx (Yds hr.units (Yc (Yds hr.units (Yc (Yak (Yc (Yz Yab Ybr rfl bl.Len PySem.boot_len (Ym (Ye 2) Yp))) (Yc Yg))) (Yc Yg))) (Yc (Yu (Ye 0) (Yc Yg)))))))
theorem Ymd:FnScope ["rule","evening","lit"] ["rule","evening","lit"] (defScope (top 14)):=fns
theorem cs_if_holds_0:CompSc ["rule","evening","lit"] (defScope (top 14)) ["beacon","evening","lit"] [none,some 1,some 2] (fsc [(".0",.local),("beacon",.local),("evening",.free),("lit",.free)]):=Yap (by decide +kernel)
def Ydn:Ro->Option D:=(mB (b2 (b2 (getC 1) (getC 0) ixD) (getC 2) (eqM true)))
def Yeq:Ro->Option Out:=(sSeq (sIf (b1 (cC (Yd (lF (Yc3 (b1 (b2 (getC 0) (kD (.int 0)) ixD) Ys) [none,some 1,some 2] (gSet 0) tY (Ydn))) aNil) anyC) truD) (sRet (kD (.bl true))) sNil) (sRet (andV (mB (b2 (b2 (getC 0) (kD (.int 1)) ixD) (kD .non) (isN true))) (mB (b2 (b2 (getC 1) (b2 (getC 0) (kD (.int 1)) ixD) ixD) (getC 2) (eqM false))))))
def Yer:List D->Option D:=runB 3 3 Yeq
theorem Yme(bl:Bl K w mg):Okf P w K mg base 1 3 "if_holds" ["rule","evening","lit"] Yer:=by
 refine okfn bl.f14 Ymd fun hr=>?_
 exact(Yl (Yba (Ydz (Yc (Yz (Yfi rfl) Ydy rfl bl.Any boot_any (Ym (Yc (Yt (Ybc cs_if_holds_0 rfl (Ybj (Yu (Ye 0) (Yc Yg))) (fun _ _ _ _ _=>(Yaj 0 cs_if_holds_0.nd)) (fun _ _ _ _ _=>Ycb) (fun _ _ _ _ _=>(Yyn hr.units (Yc (Yu (Ye 1) (Ye 0))) (Ye 2))) (Ybs (i:=0) rfl)))) Yp)))) (Yq (Yx y0)) Yaq) (Yq (Yx (Yp9 (Ysi (Yc (Yu (Ye 0) (Yc Yg))) (Yc Ybe)) (Ym9 (Yds hr.units (Yc (Yu (Ye 1) (Yc (Yu (Ye 0) (Yc Yg))))) (Ye 2)))))))
theorem Yjz:FnScope ["kind","rule","evening"] ["kind","rule","evening"] (defScope (top 15)):=fns
@[simp] def Yie:Ro->Option Out:=(sRet (cC (Yd (getV 1) (Yd (getV 2) (Yd (mB (b2 (getC 0) (kD (.str "ifs")) (eqM false))) aNil))) Yer))
@[simp] def Yif:Ro->Option Out:=(sSeq (sIf (b2 (getC 0) (kD (.str "sums")) (eqM false)) (sRet (cC (Yd (getV 1) (Yd (getV 2) aNil)) Ydm)) sNil) Yie)
def Yb4:Ro->Option Out:=(sSeq (sIf (b2 (getC 0) (kD (.str "eithers")) (eqM false)) (sRet (cC (Yd (getV 1) (Yd (getV 2) aNil)) Ybz)) sNil) Yif)
def Yc0:List D->Option D:=runB 3 3 Yb4
theorem Yj0(bl:Bl K w mg):Okf P w K mg base 2 3 "rule_holds" ["kind","rule","evening"] Yc0:=by
 refine okfn bl.f15 Yjz fun hr=>?_
 exact(Yl (Yba (Ybi hr.units (Ye 0) (Yc Yai)) (Yq (Yx (Yn (Yhr bl) hr rfl (Yb (Yh 1) (Yb (Yh 2) Yi)) aL2))) Yaq) (Yl (Yba (Ybi hr.units (Ye 0) (Yc Yai)) (Yq (Yx (Yn (Ylc bl) hr rfl (Yb (Yh 1) (Yb (Yh 2) Yi)) aL2))) Yaq) (Yq (Yx (Yn (Yme bl) hr rfl (Yb (Yh 1) (Yb (Yh 2) (Yb (Yds hr.units (Ye 0) (Yc Yai)) Yi))) aL3)))))
theorem Yht:FnScope ["book","evening"] ["book","evening"] (defScope (top 16)):=fns
theorem cs_broken_rules_0:CompSc ["book","evening"] (defScope (top 16)) ["place","rule","book","evening"] [none,none,some 0,some 1] (fsc [(".0",.local),("place",.local),("rule",.local),("rule_holds",.globalImplicit),("book",.free),("evening",.free)]):=Yap (by decide +kernel)
def Ybu:Ro->Option Bool:=(notT (b1 (cC (Yd (b2 (getC 2) (kD (.int 0)) ixD) (Yd (getV 1) (Yd (getV 3) aNil))) Yc0) truD))
def Ybv:Ro->Option D:=(getV 0)
def Yez:Ro->Option Out:=(sRet (lF (Yc3 (b1 (b2 (getC 0) (kD (.int 1)) ixD) Ysf) [none,none,some 0,some 1] (Yl1 0 1) (Ybu) (Ybv))))
def Yb0:List D->Option D:=runB 2 2 Yez
theorem Yhu(bl:Bl K w mg):Okf P w K mg base 3 2 "broken_rules" ["book","evening"] Yb0:=by
 refine okfn bl.f16 Yht fun hr=>?_
 exact(Yq (Yx (Yt (Ybc cs_broken_rules_0 rfl (Yjs rfl bl.Enumerate (Yu (Ye 0) (Yc Yg))) (fun _ _ _ _ _=>(Ysk 0 1 rfl cs_broken_rules_0.nd)) (fun _ _ _ _ _=>(Ynd (Yl5 (Ydz (Yc (Yn (Yj0 bl) hr rfl (Yb (Yu (Ye 2) (Yc Yg)) (Yb (Yh 1) (Yb (Yh 3) Yi))) aL3)))))) (fun _ _ _ _ _=>(Yh 0)) (Ysb (i:=0) (k:=1) rfl rfl)))))
theorem Ysy:FnScope ["book","evening"] ["book","evening"] (defScope (top 17)):=fns
def Yq5:Ro->Option Out:=(sRet (mB (b2 (cC (Yd (cC (Yd (getV 0) (Yd (getV 1) aNil)) Yb0) aNil) lenC) (kD (.int 0)) (eqM false))))
def Yj1:List D->Option D:=runB 2 2 Yq5
theorem Ysz(bl:Bl K w mg):Okf P w K mg base 4 2 "holds" ["book","evening"] Yj1:=by
 refine okfn bl.f17 Ysy fun hr=>?_
 exact(Yq (Yx (Yds hr.units (Yc (Yz Yab Ybr rfl bl.Len PySem.boot_len (Ym (Yc (Yn (Yhu bl) hr rfl (Yb (Yh 0) (Yb (Yh 1) Yi)) aL2)) Yp))) (Yc Yg))))
theorem Yj2:FnScope ["kind","rule"] ["kind","rule"] (defScope (top 18)):=fns
theorem cs_beacons_in_0:CompSc ["kind","rule"] (defScope (top 18)) ["saying"] [none] (fsc [(".0",.local),("saying",.local)]):=Yap (by decide +kernel)
def Ycp:Ro->Option D:=(b2 (getC 0) (kD (.int 0)) ixD)
@[simp] def Yig:Ro->Option Out:=(sRet (lF (b2 (lF (cF (Yd (b2 (getC 1) (kD (.int 0)) ixD) aNil) Yn8)) (lF (dLst (Yd (b2 (getC 1) (kD (.int 1)) ixD) aNil))) catD)))
@[simp] def Yih:Ro->Option Out:=(sSeq (sIf (orT (b2 (getC 0) (kD (.str "sums")) (eqM false)) (b2 (b2 (getC 1) (kD (.int 1)) ixD) (kD .non) (isN false))) (sRet (lF (cF (Yd (b2 (getC 1) (kD (.int 0)) ixD) aNil) Yn8))) sNil) Yig)
def Yb5:Ro->Option Out:=(sSeq (sIf (b2 (getC 0) (kD (.str "eithers")) (eqM false)) (sRet (lF (Yc3 (b1 (getV 1) Ys) [none] (gSet 0) tY (Ycp)))) sNil) Yih)
def Yc1:List D->Option D:=runB 2 2 Yb5
theorem Yj3(bl:Bl K w mg):Okf P w K mg base 1 2 "beacons_in" ["kind","rule"] Yc1:=by
 refine okfn bl.f18 Yj2 fun hr=>?_
 exact(Yl (Yba (Ybi hr.units (Ye 0) (Yc Yai)) (Yq (Yx (Yt (Ybc cs_beacons_in_0 rfl (Ybj (Yh 1)) (fun _ _ _ _ _=>(Yaj 0 cs_beacons_in_0.nd)) (fun _ _ _ _ _=>Ycb) (fun _ _ _ _ _=>(Yu (Ye 0) (Yc Yg))) (Ybs (i:=0) rfl))))) Yaq) (Yl (Yba (Yi0 (Ytr (Ybi hr.units (Ye 0) (Yc Yai)) (Yp8 (Yhh (Yc (Yu (Ye 1) (Yc Yg))) (Yc Ybe))))) (Yq (Yx (Yt (Yel Ycw Ygk rfl bl.List boot_list (Ym (Yc (Yu (Ye 1) (Yc Yg))) Yp))))) Yaq) (Yq (Yx (Yt (Ybk (Yc (Yt (Yel Ycw Ygk rfl bl.List boot_list (Ym (Yc (Yu (Ye 1) (Yc Yg))) Yp)))) (Yc (Yt (Yy (Yb (Yu (Ye 1) (Yc Yg)) Yi))))))))))
theorem sc_beacons_of:FnScope ["book","found","rule"] ["book"] (defScope (top 19)):=fns
def Ycq:Ro->Option Out:=(sMut 1 (cC (Yd (b2 (getC 0) (kD (.int 0)) ixD) (Yd (getV 2) aNil)) Yc1) extD)
@[simp] def Yii:Ro->Option Out:=(sRet (lF (Yfk (getC 1))))
@[simp] def Yij:Ro->Option Out:=(sSeq (sFor (b1 (b2 (getC 0) (kD (.int 1)) ixD) Ys) (gSet 2) Ycq) Yii)
def Yga:Ro->Option Out:=(sSeq (sOwn 1 (dLst aNil)) Yij)
def Yb6:List D->Option D:=runB 1 3 Yga
theorem Yfp(bl:Bl K w mg):Okf P w K mg base 2 1 "beacons_of" ["book"] Yb6:=by
 refine okfn bl.f19 sc_beacons_of fun hr=>?_
 exact(Yl (Ya2 1 sc_beacons_of.nd (Yy Yi)) (Yl (Yjr PassesOwn.never rfl (Ybj (Yu (Ye 0) (Yc Yg))) (Yaj 2 sc_beacons_of.nd) (Yq (Yoh 1 (Yn (Yj3 bl) hr rfl (Yb (Yu (Ye 0) (Yc Yg)) (Yb (Yh 2) Yi)) aL2)))) (Yq (Yx (Yt (Yl8 rfl rfl bl.Sorted rfl bl.Set (Ye 1)))))))
theorem Yon:FnScope ["thing"] ["thing"] (defScope (top 28)):=fns
def Yq6:Ro->Option Out:=(sRet (andV (mB (b1 (getC 0) (isiD "str"))) (mB (b1 (getC 0) (inG false Yno)))))
def Ydc:List D->Option D:=runB 1 1 Yq6
theorem Yi2(bl:Bl K w mg):Okf P w K mg base 1 1 "is_hand" ["thing"] Ydc:=by
 refine okfn bl.f28 Yon fun hr=>?_
 exact(Yq (Yx (Yp9 (Yvi (Ye 0) rfl rfl bl.Isinstance bl.Str boot_str (Yu6)) (Ym9 (Yvx hr.units bl.g_HANDS rfl (Ye 0))))))
theorem Ye0:FnScope ["book","hands"] ["book","hands"] (defScope (top 29)):=fns
theorem cs_check_hands_0:CompSc ["book","hands"] (defScope (top 29)) ["thing"] [none] (fsc [(".0",.local),("thing",.local),("is_hand",.globalImplicit)]):=Yap (by decide +kernel)
theorem cs_check_hands_1:CompSc ["book","hands"] (defScope (top 29)) ["beacon","hands"] [none,some 1] (fsc [(".0",.local),("beacon",.local),("len",.globalImplicit),("hands",.free)]):=Yap (by decide +kernel)
theorem cs_check_hands_2:CompSc ["book","hands"] (defScope (top 29)) ["thing"] [none] (fsc [(".0",.local),("thing",.local),("is_hand",.globalImplicit)]):=Yap (by decide +kernel)
theorem cs_check_hands_3:CompSc ["book","hands"] (defScope (top 29)) ["beacon","hands"] [none,some 1] (fsc [(".0",.local),("beacon",.local),("len",.globalImplicit),("hands",.free)]):=Yap (by decide +kernel)
def Ycc:Ro->Option D:=(cC (Yd (getV 0) aNil) Ydc)
def Ycd:Ro->Option D:=(mB (b2 (getC 0) (cC (Yd (getC 1) aNil) lenC) geI))
@[simp] def Yhv:Ro->Option Out:=(sIf (b1 (cC (Yd (lF (Yc3 (b1 (cC (Yd (getV 0) aNil) Yb6) Ys) [none,some 1] (gSet 0) tY (Ycd))) aNil) anyC) truD) nS sNil)
@[simp] def Yhw:Ro->Option Out:=(sSeq (sIf (notT (b1 (cC (Yd (lF (Yc3 (b1 (getV 1) Ys) [none] (gSet 0) tY (Ycc))) aNil) allC) truD)) nS sNil) Yhv)
def Yam:Ro->Option D:=(cC (Yd (getV 0) aNil) Ydc)
def Yce:Ro->Option D:=(mB (b2 (getC 0) (cC (Yd (getC 1) aNil) lenC) geI))
def Ydo:Ro->Option Out:=(sSeq (sIf (b2 (cC (Yd (getC 1) aNil) lenC) (kD (.int 60)) gtI) nS sNil) Yhw)
def Ybl:List D->Option D:=runB 2 2 Ydo
theorem Yik(bl:Bl K w mg):Okf P w K mg base 3 2 "check_hands" ["book","hands"] Ybl:=by
 refine okfn bl.f29 Ye0 fun hr=>?_
 exact(Yl (Yba (Ytq (Yc (Yz Yab Ybr rfl bl.Len PySem.boot_len (Ym (Ye 1) Yp))) (Yc (Ync bl.g_BEACON_COUNT rfl))) (Yq Yd1) Yaq) (Yl (Yba (Yl5 (Ydz (Yc (Yz (Yk0 rfl) Yp0 rfl bl.All boot_all (Ym (Yc (Yt (Ybc cs_check_hands_0 rfl (Ybj (Yh 1)) (fun _ _ _ _ _=>(Yaj 0 cs_check_hands_0.nd)) (fun _ _ _ _ _=>Ycb) (fun _ _ _ _ _=>(Yn (Yi2 bl) hr rfl (Yb (Yh 0) Yi) aL1)) (Ybs (i:=0) rfl)))) Yp))))) (Yq Yd1) Yaq) (Yq (Yba (Ydz (Yc (Yz (Yfi rfl) Ydy rfl bl.Any boot_any (Ym (Yc (Yt (Ybc cs_check_hands_1 rfl (Ybj (Yn (Yfp bl) hr rfl (Yb (Yh 0) Yi) aL1)) (fun _ _ _ _ _=>(Yaj 0 cs_check_hands_1.nd)) (fun _ _ _ _ _=>Ycb) (fun _ _ _ _ _=>(Ytp (Ye 0) (Yc (Yz Yab Ybr rfl bl.Len PySem.boot_len (Ym (Ye 1) Yp))))) (Ybs (i:=0) rfl)))) Yp)))) (Yq Yd1) Yaq))))
def Ybb:Ro->Option Bool:=(xIf (b2 (cC (Yd (getC 1) aNil) lenC) (kD (.int 60)) gtI) xYes (xIf (notT (b1 (cC (Yd (lF (Yc3 (b1 (getV 1) Ys) [none] (gSet 0) tY (Yam))) aNil) allC) truD)) xYes (xIf (b1 (cC (Yd (lF (Yc3 (b1 (cC (Yd (getV 0) aNil) Yb6) Ys) [none,some 1] (gSet 0) tY (Yce))) aNil) anyC) truD) xYes xNo)))
def Yad:List D->Option Bool:=runX 2 2 Ybb
theorem Yhx(bl:Bl K w mg):Okx P w K mg base 3 2 "check_hands" ["book","hands"] Yad "NoHands":=by
 refine okfx bl.f29 Ye0 fun hr=>?_
 exact(Yk6 (Ytq (Yc (Yz Yab Ybr rfl bl.Len PySem.boot_len (Ym (Ye 1) Yp))) (Yc (Ync bl.g_BEACON_COUNT rfl))) (Yeo bl.x_NoHands_NoHands) (Yk6 (Yl5 (Ydz (Yc (Yz (Yk0 rfl) Yp0 rfl bl.All boot_all (Ym (Yc (Yt (Ybc cs_check_hands_2 rfl (Ybj (Yh 1)) (fun _ _ _ _ _=>(Yaj 0 cs_check_hands_2.nd)) (fun _ _ _ _ _=>Ycb) (fun _ _ _ _ _=>(Yn (Yi2 bl) hr rfl (Yb (Yh 0) Yi) aL1)) (Ybs (i:=0) rfl)))) Yp))))) (Yeo bl.x_NoHands_NoHands) (Yk6 (Ydz (Yc (Yz (Yfi rfl) Ydy rfl bl.Any boot_any (Ym (Yc (Yt (Ybc cs_check_hands_3 rfl (Ybj (Yn (Yfp bl) hr rfl (Yb (Yh 0) Yi) aL1)) (fun _ _ _ _ _=>(Yaj 0 cs_check_hands_3.nd)) (fun _ _ _ _ _=>Ycb) (fun _ _ _ _ _=>(Ytp (Ye 0) (Yc (Yz Yab Ybr rfl bl.Len PySem.boot_len (Ym (Ye 1) Yp))))) (Ybs (i:=0) rfl)))) Yp)))) (Yeo bl.x_NoHands_NoHands) Yok)))
theorem Ymf:FnScope ["script","k"] ["script","k"] (defScope (top 32)):=fns
def Yf3:Ro->Option Out:=(sSeq (sIf (b2 (getC 1) (cC (Yd (getC 0) aNil) lenC) ltI) (sRet (b2 (getC 0) (getC 1) ixD)) sNil) (sRet (kD (.int 0))))
def Yan:List D->Option D:=runB 2 2 Yf3
theorem Ya3(bl:Bl K w mg):Okf P w K mg base 1 2 "_law_cell" ["script","k"] Yan:=by
 refine okfn bl.f32 Ymf fun hr=>?_
 exact(Yl (Yba (Yyl (Ye 1) (Yc (Yz Yab Ybr rfl bl.Len PySem.boot_len (Ym (Ye 0) Yp)))) (Yq (Yx (Yu (Ye 0) (Ye 1)))) Yaq) (Yq (Yx Yg)))
theorem Yld:FnScope ["cell","by"] ["cell","by"] (defScope (top 33)):=fns
def Yhy:Ro->Option Out:=(sRet (b2 (b2 (b2 (getC 0) (kD (.int 2305843009213693951)) modI) (getC 1) mulI) (kD (.int 2305843009213693951)) modI))
def Ybf:List D->Option D:=runB 2 2 Yhy
theorem Yc2(bl:Bl K w mg):Okf P w K mg base 1 2 "_law_mixed" ["cell","by"] Ybf:=by
 refine okfn bl.f33 Yld fun hr=>?_
 exact(Yq (Yx (Yak (Yc (Yp6 (Yc (Yak (Ye 0) (Yc Yg))) (Ye 1))) (Yc Yg))))
theorem Ymg:FnScope ["cell"] ["cell"] (defScope (top 34)):=fns
def Ydd:Ro->Option Out:=(sRet (b2 (lF (dLst (Yd (kD (.str "eithers")) (Yd (kD (.str "sums")) (Yd (kD (.str "ifs")) (Yd (kD (.str "nots")) aNil)))))) (b2 (getC 0) (kD (.int 4)) modI) ixD))
def Yes:List D->Option D:=runB 1 1 Ydd
theorem Ymh(bl:Bl K w mg):Okf P w K mg base 1 1 "_law_kind" ["cell"] Yes:=by
 refine okfn bl.f34 Ymg fun hr=>?_
 exact(Yq (Yx (Yu (Yc (Yt (Yy (Yb Yai (Yb Yai (Yb Yai (Yb Yai Yi))))))) (Yc (Yak (Ye 0) (Yc Yg))))))
theorem sc_law_rule:FnScope ["kind","cell","many","left","size","sayings","k","body"] ["kind","cell","many"] (defScope (top 35)):=fns
def Yci:Ro->Option Out:=(sSeq (sIf (b2 (dTup (Yd (b2 (b2 (getC 3) (kD (.int 2)) divI) (getC 2) modI) (Yd (mB (b2 (b2 (getC 3) (kD (.int 2)) modI) (kD (.int 1)) (eqM false))) aNil))) (getC 5) (inM true)) (sMut 5 (dTup (Yd (b2 (b2 (getC 3) (kD (.int 2)) divI) (getC 2) modI) (Yd (mB (b2 (b2 (getC 3) (kD (.int 2)) modI) (kD (.int 1)) (eqM false))) aNil))) appD) sNil) (sSet 3 (b2 (getC 3) (b2 (kD (.int 2)) (getC 2) mulI) divI)))
def Ycj:Ro->Option Out:=(sSeq (sIf (b2 (b2 (getC 3) (getC 2) modI) (getC 7) (inM true)) (sMut 7 (b2 (getC 3) (getC 2) modI) appD) sNil) (sSet 3 (b2 (getC 3) (getC 2) divI)))
@[simp] def Yle:Ro->Option Out:=(sRet (dTup (Yd (cC (Yd (lF (cF (Yd (getC 7) aNil) Ykv)) aNil) tupC) (Yd (b2 (lF (dLst (Yd (kD .non) (Yd (b2 (b2 (getC 3) (kD (.int 3)) divI) (getC 2) modI) aNil)))) (cC (Yd (mB (b2 (b2 (getC 3) (kD (.int 3)) modI) (kD (.int 0)) gtI)) aNil) intC) ixD) aNil))))
@[simp] def Yd3:Ro->Option Out:=(sSeq (sIf (b2 (getC 0) (kD (.str "sums")) (eqM false)) (sRet (dTup (Yd (cC (Yd (lF (cF (Yd (getC 7) aNil) Ykv)) aNil) tupC) (Yd (mB (b2 (b2 (getC 3) (kD (.int 2)) modI) (kD (.int 1)) (eqM false))) aNil)))) sNil) Yle)
@[simp] def Ylf:Ro->Option Out:=(sSeq (sFor (cF (Yd (getV 4) aNil) rng1) (gSet 6) Ycj) Yd3)
@[simp] def Ylg:Ro->Option Out:=(sSeq (sOwn 7 (dLst aNil)) Ylf)
@[simp] def Ylh:Ro->Option Out:=(sSeq (sIf (b2 (getC 0) (kD (.str "eithers")) (eqM false)) (sSeq (sOwn 5 (dLst aNil)) (sSeq (sFor (cF (Yd (getV 4) aNil) rng1) (gSet 6) Yci) (sRet (cC (Yd (lF (cF (Yd (getC 5) aNil) Ykv)) aNil) tupC)))) sNil) Ylg)
@[simp] def Yli:Ro->Option Out:=(sSeq (sSet 3 (b2 (getC 3) (kD (.int 7)) divI)) Ylh)
@[simp] def Ylj:Ro->Option Out:=(sSeq (sSet 4 (b2 (getC 3) (b2 (lF (dLst (Yd (kD (.int 7)) (Yd (kD (.int 3)) aNil)))) (cC (Yd (mB (b2 (getC 0) (kD (.str "eithers")) (eqM false))) aNil) intC) ixD) modI)) Yli)
def Yet:Ro->Option Out:=(sSeq (sSet 3 (cC (Yd (getV 1) (Yd (kD (.int 1181783497276652981)) aNil)) Ybf)) Ylj)
def Yeu:List D->Option D:=runB 3 8 Yet
theorem Ymi(bl:Bl K w mg):Okf P w K mg base 2 3 "_law_rule" ["kind","cell","many"] Yeu:=by
 refine okfn bl.f35 sc_law_rule fun hr=>?_
 exact(Yl (Ya1 3 sc_law_rule.nd (Yn (Yc2 bl) hr rfl (Yb (Yh 1) (Yb Yg Yi)) aL2)) (Yl (Ya1 4 sc_law_rule.nd (Yak (Ye 3) (Yc (Yu (Yc (Yt (Yy (Yb Yg (Yb Yg Yi))))) (Yc (Yar Ygv Yl0 rfl bl.Int boot_int (Ym (Yc (Yds hr.units (Ye 0) (Yc Yai))) Yp))))))) (Yl (Ya1 3 sc_law_rule.nd (Yc4 (Ye 3) (Yc Yg))) (Yl (Yba (Ybi hr.units (Ye 0) (Yc Yai)) (Yl (Ya2 5 sc_law_rule.nd (Yy Yi)) (Yl (Yjr PassesOwn.never rfl (Ydb rfl bl.Range (Yb (Yh 4) Yi)) (Yaj 6 sc_law_rule.nd) (Yl (Yba (Yp7 hr.units (Yc (Ye7 (Yb (Yak (Yc (Yc4 (Ye 3) (Yc Yg))) (Ye 2)) (Yb (Yds hr.units (Yc (Yak (Ye 3) (Yc Yg))) (Yc Yg)) Yi)))) (Ye 5)) (Yq (Yf0 5 (Ye7 (Yb (Yak (Yc (Yc4 (Ye 3) (Yc Yg))) (Ye 2)) (Yb (Yds hr.units (Yc (Yak (Ye 3) (Yc Yg))) (Yc Yg)) Yi))))) Yaq) (Yq (Ya1 3 sc_law_rule.nd (Yc4 (Ye 3) (Yc (Yp6 (Yc Yg) (Ye 2)))))))) (Yq (Yx (Yar Yao Ydv rfl bl.Tuple boot_tuple (Ym (Yc (Yt (Yhi Ydw Ye6 rfl bl.Sorted boot_sorted (Ym (Ye 5) Yp)))) Yp)))))) Yaq) (Yl (Ya2 7 sc_law_rule.nd (Yy Yi)) (Yl (Yjr PassesOwn.never rfl (Ydb rfl bl.Range (Yb (Yh 4) Yi)) (Yaj 6 sc_law_rule.nd) (Yl (Yba (Yp7 hr.units (Yc (Yak (Ye 3) (Ye 2))) (Ye 7)) (Yq (Yf0 7 (Yak (Ye 3) (Ye 2)))) Yaq) (Yq (Ya1 3 sc_law_rule.nd (Yc4 (Ye 3) (Ye 2)))))) (Yl (Yba (Ybi hr.units (Ye 0) (Yc Yai)) (Yq (Yx (Ye7 (Yb (Yar Yao Ydv rfl bl.Tuple boot_tuple (Ym (Yc (Yt (Yhi Ydw Ye6 rfl bl.Sorted boot_sorted (Ym (Ye 7) Yp)))) Yp)) (Yb (Yds hr.units (Yc (Yak (Ye 3) (Yc Yg))) (Yc Yg)) Yi))))) Yaq) (Yq (Yx (Ye7 (Yb (Yar Yao Ydv rfl bl.Tuple boot_tuple (Ym (Yc (Yt (Yhi Ydw Ye6 rfl bl.Sorted boot_sorted (Ym (Ye 7) Yp)))) Yp)) (Yb (Yu (Yc (Yt (Yy (Yb Ybe (Yb (Yak (Yc (Yc4 (Ye 3) (Yc Yg))) (Ye 2)) Yi))))) (Yc (Yar Ygv Yl0 rfl bl.Int boot_int (Ym (Yc (Yyk (Yc (Yak (Ye 3) (Yc Yg))) (Yc Yg))) Yp)))) Yi))))))))))))
theorem sc_law_bits:FnScope ["cell","many","left","bits","k"] ["cell","many"] (defScope (top 36)):=fns
def Ydp:Ro->Option Out:=(sSeq (sMut 3 (mB (b2 (b2 (getC 2) (kD (.int 2)) modI) (kD (.int 1)) (eqM false))) appD) (sSet 2 (b2 (getC 2) (kD (.int 2)) divI)))
@[simp] def Ylk:Ro->Option Out:=(wF [3] (sRet (getV 3)))
@[simp] def Yll:Ro->Option Out:=(sSeq (sFor (cF (Yd (getV 1) aNil) rng1) (gSet 4) Ydp) Ylk)
@[simp] def Ylm:Ro->Option Out:=(sSeq (sOwn 3 (dLst aNil)) Yll)
def Yi3:Ro->Option Out:=(sSeq (sSet 2 (cC (Yd (getV 0) (Yd (kD (.int 1442695040888963407)) aNil)) Ybf)) Ylm)
def Yde:List D->Option D:=runB 2 5 Yi3
theorem Yhz(bl:Bl K w mg):Okf P w K mg base 2 2 "_law_bits" ["cell","many"] Yde:=by
 refine okfn bl.f36 sc_law_bits fun hr=>?_
 exact(Yl (Ya1 2 sc_law_bits.nd (Yn (Yc2 bl) hr rfl (Yb (Yh 0) (Yb Yg Yi)) aL2)) (Yl (Ya2 3 sc_law_bits.nd (Yy Yi)) (Yl (Yjr PassesOwn.never rfl (Ydb rfl bl.Range (Yb (Yh 1) Yi)) (Yaj 4 sc_law_bits.nd) (Yl (Yf0 3 (Yds hr.units (Yc (Yak (Ye 2) (Yc Yg))) (Yc Yg))) (Yq (Ya1 2 sc_law_bits.nd (Yc4 (Ye 2) (Yc Yg)))))) (Yq (Yl6 [3] (Yx (Yh 3)))))))
theorem Yil:FnScope ["kind","rule"] ["kind","rule"] (defScope (top 37)):=fns
theorem cs_law_beacons_0:CompSc ["kind","rule"] (defScope (top 37)) ["saying"] [none] (fsc [(".0",.local),("saying",.local)]):=Yap (by decide +kernel)
def Ycf:Ro->Option D:=(b2 (getC 0) (kD (.int 0)) ixD)
@[simp] def Yh0:Ro->Option Out:=(sRet (lF (b2 (lF (cF (Yd (b2 (getC 1) (kD (.int 0)) ixD) aNil) Yn8)) (lF (dLst (Yd (b2 (getC 1) (kD (.int 1)) ixD) aNil))) catD)))
@[simp] def Yh1:Ro->Option Out:=(sSeq (sIf (orT (b2 (getC 0) (kD (.str "sums")) (eqM false)) (b2 (b2 (getC 1) (kD (.int 1)) ixD) (kD .non) (isN false))) (sRet (lF (cF (Yd (b2 (getC 1) (kD (.int 0)) ixD) aNil) Yn8))) sNil) Yh0)
def Ybm:Ro->Option Out:=(sSeq (sIf (b2 (getC 0) (kD (.str "eithers")) (eqM false)) (sRet (lF (Yc3 (b1 (getV 1) Ys) [none] (gSet 0) tY (Ycf)))) sNil) Yh1)
def Yck:List D->Option D:=runB 2 2 Ybm
theorem Yim(bl:Bl K w mg):Okf P w K mg base 1 2 "_law_beacons" ["kind","rule"] Yck:=by
 refine okfn bl.f37 Yil fun hr=>?_
 exact(Yl (Yba (Ybi hr.units (Ye 0) (Yc Yai)) (Yq (Yx (Yt (Ybc cs_law_beacons_0 rfl (Ybj (Yh 1)) (fun _ _ _ _ _=>(Yaj 0 cs_law_beacons_0.nd)) (fun _ _ _ _ _=>Ycb) (fun _ _ _ _ _=>(Yu (Ye 0) (Yc Yg))) (Ybs (i:=0) rfl))))) Yaq) (Yl (Yba (Yi0 (Ytr (Ybi hr.units (Ye 0) (Yc Yai)) (Yp8 (Yhh (Yc (Yu (Ye 1) (Yc Yg))) (Yc Ybe))))) (Yq (Yx (Yt (Yel Ycw Ygk rfl bl.List boot_list (Ym (Yc (Yu (Ye 1) (Yc Yg))) Yp))))) Yaq) (Yq (Yx (Yt (Ybk (Yc (Yt (Yel Ycw Ygk rfl bl.List boot_list (Ym (Yc (Yu (Ye 1) (Yc Yg))) Yp)))) (Yc (Yt (Yy (Yb (Yu (Ye 1) (Yc Yg)) Yi))))))))))
theorem Yd4:FnScope ["self","book","hands"] ["self","book","hands"] (defScope (inClass (top 30) 0)):=fns
def Ycr:Ro->Option Out:=(sExp (cC (Yd (getV 1) (Yd (getV 2) aNil)) Ybl))
def Yd5:Ro->Option D:=(getV 1)
def Yd6:Ro->Option D:=(cC (Yd (getC 2) aNil) tupC)
theorem Yh2(bl:Bl K w mg):OkI P w K mg base 4 ["self","book","hands"] Ycr Yd5 Yd6:=by
 refine okin bl.w_init bl.cW Yd4 bl.n_book.cf bl.n_hands.cf bl.n_truths.cf fun hr=>?_
 exact(Ycg (zuS (Ysl (Yn (Yik bl) hr rfl (Yb (Yh 1) (Yb (Yh 2) Yi)) aL2))) (Ycg (Yo3 (pv 0) (zuE (Yh 1)) rfl) (Ycg (Yo3 (pv 0) (zuE (Yar Yao Ydv rfl bl.Tuple boot_tuple (Ym (Ye 2) Yp))) rfl) (Ylt (Yo3 (pv 0) (Yte Ydq) rfl)))))
def Yd7:Ro->Option Bool:=(Ysw (Yd (getV 1) (Yd (getV 2) aNil)) Yad)
def Yb1:List D->Option Bool:=runX 3 3 Yd7
theorem Ygg(bl:Bl K w mg):OkIx P w K mg base 4 3 ["self","book","hands"] Yb1 "NoHands":=by
 refine okix bl.w_init bl.cW Yd4 fun hr=>?_
 exact(Yv2 (Yhx bl) hr rfl (Yb (Yh 1) (Yb (Yh 2) Yi)) aL2)
theorem Yj4:FnScope ["self"] ["self"] (defScope (inClass (top 30) 1)):=fns
def Yd8:Ro->Option Out:=(sSeq (sIf (b2 (cC (Yd (b1 (getV 0) (fldD "Watch" "truths")) aNil) lenC) (cC (Yd (b1 (getV 0) (fldD "Watch" "hands")) aNil) lenC) (eqM false)) (sRet (kD .non)) sNil) (sRet (b2 (b1 (getV 0) (fldD "Watch" "hands")) (cC (Yd (b1 (getV 0) (fldD "Watch" "truths")) aNil) lenC) ixD)))
def Yaa:List D->Option D:=runB 1 1 Yd8
theorem Ycl(bl:Bl K w mg):Okm P w K mg base 1 "Watch" "turn" ["self"] (spOf K 1 Yaa):=by
 refine okmn bl.w_turn Yj4 fun hr=>?_
 exact(Yl (Yba (Ybi hr.units (Yc (Yz Yab Ybr rfl bl.Len PySem.boot_len (Ym (Yc (Yd2 bl.n_truths.cf (Yh 0))) Yp))) (Yc (Yz Yab Ybr rfl bl.Len PySem.boot_len (Ym (Yc (Yd2 bl.n_hands.cf (Yh 0))) Yp)))) (Yq (Yx Ybe)) Yaq) (Yq (Yx (Yu (Yc (Yd2 bl.n_hands.cf (Yh 0))) (Yc (Yz Yab Ybr rfl bl.Len PySem.boot_len (Ym (Yc (Yd2 bl.n_truths.cf (Yh 0))) Yp)))))))
theorem Yh3:FnScope ["self"] ["self"] (defScope (inClass (top 30) 4)):=fns
def Yb2:Ro->Option Out:=(sSeq (sIf (b2 (b1 (getV 0) (mthD "Watch" "turn" Yaa)) (kD .non) (isN true)) (sRet (kD .non)) sNil) (sRet (ifV (b1 (cC (Yd (b1 (getV 0) (fldD "Watch" "book")) (Yd (b1 (getV 0) (fldD "Watch" "truths")) aNil)) Yj1) truD) (kD (.str "keeper")) (kD (.str "storm")))))
def Yax:List D->Option D:=runB 1 1 Yb2
theorem Yh4(bl:Bl K w mg):Okm P w K mg base 5 "Watch" "winner" ["self"] (spOf K 1 Yax):=by
 refine okmn bl.w_winner Yh3 fun hr=>?_
 exact(Yl (Yba (Ysj (Yc (Yco (Ycl bl) hr (Yh 0))) (Yc Ybe)) (Yq (Yx Ybe)) Yaq) (Yq (Yx (Yyo (Ydz (Yc (Yn (Ysz bl) hr rfl (Yb (Yd2 bl.n_book.cf (Yh 0)) (Yb (Yd2 bl.n_truths.cf (Yh 0)) Yi)) aL2))) Yai Yai))))
theorem Ycs:FnScope ["self","lit"] ["self","lit"] (defScope (inClass (top 30) 5)):=fns
def Yb3(l:Addr):Wm:=(seqW (ifW (Yid l 0 (b2 (b1 (getV 0) (mthD "Watch" "turn" Yaa)) (kD .non) (isN false))) (Ygf nS) nilW) (seqW (Ygf (sIf (andT (b2 (getC 1) (kD (.bl true)) (isB true)) (b2 (getC 1) (kD (.bl false)) (isB true))) nS sNil)) (seqW (appW l 0 (getV 1)) (retL l 0 (b1 (getV 0) (mthD "Watch" "winner" Yax))))))
theorem Yh5(bl:Bl K w mg):Okm P w K mg base 6 "Watch" "settle" ["self","lit"] (spS K Yb3):=by
 refine okms bl.w_settle Ycs fun hr=>?_
 exact(Yby (Yk4 (Yfo 0 (Yhh (Yc (Yco (Ycl bl) hr (Yh 0))) (Yc Ybe))) (Ydl (Ycy Yd1)) Yho) (Yby (Ycy (Yba (Yi0 (Yjq (Yem (Ye 1) (Yc y0)) (Ygn (Yem (Ye 1) (Yc y0))))) (Yq Yd1) Yaq)) (Yby (Yvw 0 bl.n_truths.cf (Yh 1)) (Ydl (Ynl 0 (Yco (Yh4 bl) hr (Yh 0)))))))
def Ya5:Ro->Option Bool:=(xIf (b2 (b1 (getV 0) (mthD "Watch" "turn" Yaa)) (kD .non) (isN false)) xYes (xIf (andT (b2 (getC 1) (kD (.bl true)) (isB true)) (b2 (getC 1) (kD (.bl false)) (isB true))) xNo xNo))
def y4:List D->Option Bool:=runX 2 2 Ya5
theorem Yd9(bl:Bl K w mg):Okmx P w K mg base 6 2 "Watch" "settle" ["self","lit"] y4 "Over":=by
 refine okmx bl.w_settle Ycs fun hr=>?_
 exact(Yk6 (Yhh (Yc (Yco (Ycl bl) hr (Yh 0))) (Yc Ybe)) (Yeo bl.x_Over_Over) (Yk6 (Yi0 (Yjq (Yem (Ye 1) (Yc y0)) (Ygn (Yem (Ye 1) (Yc y0))))) Yok Yok))
def Ybn:Ro->Option Bool:=(xIf (b2 (b1 (getV 0) (mthD "Watch" "turn" Yaa)) (kD .non) (isN false)) xNo (xIf (andT (b2 (getC 1) (kD (.bl true)) (isB true)) (b2 (getC 1) (kD (.bl false)) (isB true))) xYes xNo))
def Yaf:List D->Option Bool:=runX 2 2 Ybn
theorem Ydf(bl:Bl K w mg):Okmx P w K mg base 6 2 "Watch" "settle" ["self","lit"] Yaf "NoLight":=by
 refine okmx bl.w_settle Ycs fun hr=>?_
 exact(Yk6 (Yhh (Yc (Yco (Ycl bl) hr (Yh 0))) (Yc Ybe)) Yok (Yk6 (Yi0 (Yjq (Yem (Ye 1) (Yc y0)) (Ygn (Yem (Ye 1) (Yc y0))))) (Yeo bl.x_NoLight_NoLight) Yok))
theorem Yj5:FnScope ["self"] ["self"] (defScope (inClass (top 30) 6)):=fns
def Yfq:Ro->Option Bool:=(xIf (b2 (cC (Yd (b1 (getV 0) (fldD "Watch" "truths")) aNil) lenC) (kD (.int 0)) (eqM false)) xYes xNo)
def Yb7:List D->Option Bool:=runX 1 1 Yfq
theorem Yin(bl:Bl K w mg):Okmx P w K mg base 1 1 "Watch" "back" ["self"] Yb7 "NoneSettled":=by
 refine okmx bl.w_back Yj5 fun hr=>?_
 exact(Yk6 (Ybi hr.units (Yc (Yz Yab Ybr rfl bl.Len PySem.boot_len (Ym (Yc (Yd2 bl.n_truths.cf (Yh 0))) Yp))) (Yc Yg)) (Yeo bl.x_NoneSettled_NoneSettled) Yok)
theorem sc_law_kinds:FnScope ["way","watch","book","thing","kinds","e","some","more"] ["way","watch","book","thing"] (defScope (top 38)):=fns
def Yas(ea:Addr):Ro->Option Out:=(sSeq (sOwn 6 (dLst (Yd (isX 5 ea false) (Yd (isX 5 ea false) (Yd (isX 5 ea false) (Yd (isX 5 ea true) aNil)))))) (sSeq (sOwn 7 (dLst (Yd (isX 5 ea false) (Yd (isX 5 ea false) (Yd (isX 5 ea false) (Yd (isX 5 ea false) aNil)))))) (sOwn 4 (b2 (lF (b2 (lF (dLst (Yd (isX 5 ea true) aNil))) (getC 6) catD)) (lF (dLst (Yd (cC (Yd (getC 7) aNil) anyC) aNil))) catD))))
def Yah:Ro->Option Out
 | [a0,a1,a2,a3,_,_,_,_]=>some (.nx [a0,a1,a2,a3,some (.ow [.bl true,.bl false,.bl false,.bl false,.bl true,.bl false]),none,some (.ow [.bl false,.bl false,.bl false,.bl true]),some (.ow [.bl false,.bl false,.bl false,.bl false])])
 | _=>none
theorem Yc7:∀ea ρ out,Yah ρ=some out->∃ρ3,Yas ea (ρ.set 5 (some (.sh (.adr ea))))=some (.nx ρ3)/\out=.nx (ρ3.set 5 none):=by
 intro ea ρ out h
 unfold Yah at h
 split at h
 ·cases h
  exact⟨_,by simp[Yas,isX,catD];rfl,rfl⟩
 ·cases h
def Ya6(ea:Addr):Ro->Option Out:=(sSeq (sOwn 6 (dLst (Yd (isX 5 ea false) (Yd (isX 5 ea false) (Yd (isX 5 ea true) (Yd (isX 5 ea false) aNil)))))) (sSeq (sOwn 7 (dLst (Yd (isX 5 ea false) (Yd (isX 5 ea false) (Yd (isX 5 ea false) (Yd (isX 5 ea false) aNil)))))) (sOwn 4 (b2 (lF (b2 (lF (dLst (Yd (isX 5 ea true) aNil))) (getC 6) catD)) (lF (dLst (Yd (cC (Yd (getC 7) aNil) anyC) aNil))) catD))))
def Ya7:Ro->Option Out
 | [a0,a1,a2,a3,_,_,_,_]=>some (.nx [a0,a1,a2,a3,some (.ow [.bl true,.bl false,.bl false,.bl true,.bl false,.bl false]),none,some (.ow [.bl false,.bl false,.bl true,.bl false]),some (.ow [.bl false,.bl false,.bl false,.bl false])])
 | _=>none
theorem Yea:∀ea ρ out,Ya7 ρ=some out->∃ρ3,Ya6 ea (ρ.set 5 (some (.sh (.adr ea))))=some (.nx ρ3)/\out=.nx (ρ3.set 5 none):=by
 intro ea ρ out h
 unfold Ya7 at h
 split at h
 ·cases h
  exact⟨_,by simp[Ya6,isX,catD];rfl,rfl⟩
 ·cases h
def Ybw(ea:Addr):Ro->Option Out:=(sSeq (sOwn 6 (dLst (Yd (isX 5 ea false) (Yd (isX 5 ea true) (Yd (isX 5 ea false) (Yd (isX 5 ea false) aNil)))))) (sSeq (sOwn 7 (dLst (Yd (isX 5 ea false) (Yd (isX 5 ea false) (Yd (isX 5 ea false) (Yd (isX 5 ea false) aNil)))))) (sOwn 4 (b2 (lF (b2 (lF (dLst (Yd (isX 5 ea true) aNil))) (getC 6) catD)) (lF (dLst (Yd (cC (Yd (getC 7) aNil) anyC) aNil))) catD))))
def Ybx:Ro->Option Out
 | [a0,a1,a2,a3,_,_,_,_]=>some (.nx [a0,a1,a2,a3,some (.ow [.bl true,.bl false,.bl true,.bl false,.bl false,.bl false]),none,some (.ow [.bl false,.bl true,.bl false,.bl false]),some (.ow [.bl false,.bl false,.bl false,.bl false])])
 | _=>none
theorem Yfr:∀ea ρ out,Ybx ρ=some out->∃ρ3,Ybw ea (ρ.set 5 (some (.sh (.adr ea))))=some (.nx ρ3)/\out=.nx (ρ3.set 5 none):=by
 intro ea ρ out h
 unfold Ybx at h
 split at h
 ·cases h
  exact⟨_,by simp[Ybw,isX,catD];rfl,rfl⟩
 ·cases h
def Ya8(ea:Addr):Ro->Option Out:=(sSeq (sOwn 6 (dLst (Yd (isX 5 ea true) (Yd (isX 5 ea false) (Yd (isX 5 ea false) (Yd (isX 5 ea false) aNil)))))) (sSeq (sOwn 7 (dLst (Yd (isX 5 ea false) (Yd (isX 5 ea false) (Yd (isX 5 ea false) (Yd (isX 5 ea false) aNil)))))) (sOwn 4 (b2 (lF (b2 (lF (dLst (Yd (isX 5 ea true) aNil))) (getC 6) catD)) (lF (dLst (Yd (cC (Yd (getC 7) aNil) anyC) aNil))) catD))))
def Ya9:Ro->Option Out
 | [a0,a1,a2,a3,_,_,_,_]=>some (.nx [a0,a1,a2,a3,some (.ow [.bl true,.bl true,.bl false,.bl false,.bl false,.bl false]),none,some (.ow [.bl true,.bl false,.bl false,.bl false]),some (.ow [.bl false,.bl false,.bl false,.bl false])])
 | _=>none
theorem Yeb:∀ea ρ out,Ya9 ρ=some out->∃ρ3,Ya8 ea (ρ.set 5 (some (.sh (.adr ea))))=some (.nx ρ3)/\out=.nx (ρ3.set 5 none):=by
 intro ea ρ out h
 unfold Ya9 at h
 split at h
 ·cases h
  exact⟨_,by simp[Ya8,isX,catD];rfl,rfl⟩
 ·cases h
@[simp] def Yj6:Ro->Option Out:=(wF [4] (sRet (getV 4)))
@[simp] def Ybo:Ro->Option Out:=(sSeq (orS (tryR (xIf (b2 (getC 0) (kD (.int 0)) (eqM false)) (Yq1 (Yd (getV 2) (Yd (getV 3) aNil)) Yb1) (xIf (b2 (getC 0) (kD (.int 1)) (eqM false)) xNo xNo)) Ya9) (orS (tryR (xIf (b2 (getC 0) (kD (.int 0)) (eqM false)) xNo (xIf (b2 (getC 0) (kD (.int 1)) (eqM false)) (xMth "Watch" "settle" (getV 1) (Yd (getV 3) aNil) y4) xNo)) Ybx) (orS (tryR (xIf (b2 (getC 0) (kD (.int 0)) (eqM false)) xNo (xIf (b2 (getC 0) (kD (.int 1)) (eqM false)) (xMth "Watch" "settle" (getV 1) (Yd (getV 3) aNil) Yaf) xNo)) Ya7) (tryR (xIf (b2 (getC 0) (kD (.int 0)) (eqM false)) xNo (xIf (b2 (getC 0) (kD (.int 1)) (eqM false)) xNo (xMth "Watch" "back" (getV 1) aNil Yb7))) Yah)))) Yj6)
def Yct:Ro->Option Out:=(sSeq (sOwn 4 (dLst aNil)) Ybo)
def y8:List D->Option D:=runB 4 8 Yct
theorem Yb8(bl:Bl K w mg):Okf P w K mg base 7 4 "_law_kinds" ["way","watch","book","thing"] y8:=by
 refine okfn bl.f38 sc_law_kinds fun hr=>?_
 exact(Yl (Ya2 4 sc_law_kinds.nd (Yy Yi)) (Yl (Yq3 (Ygq 5 (gs:=Ya8) (Yk8 (Ybi hr.units (Ye 0) (Yc Yg)) (Yv4 (Ygg bl) hr rfl (Yb (Yh 2) (Yb (Yh 3) Yi)) aL2) (Yk8 (Ybi hr.units (Ye 0) (Yc Yg)) Yk7 Yk7)) bl.x_NoHands_DuskError rfl sc_law_kinds.nd (fun ea ob hob=>(Yl (Ya2 6 sc_law_kinds.nd (Yy (Yb (Yw 5 bl.x_NoHands_NoHands hob bl.Isinstance) (Yb (Yw 5 bl.x_NoHands_Over hob bl.Isinstance) (Yb (Yw 5 bl.x_NoHands_NoLight hob bl.Isinstance) (Yb (Yw 5 bl.x_NoHands_NoneSettled hob bl.Isinstance) Yi)))))) (Yl (Ya2 7 sc_law_kinds.nd (Yy (Yb (Yw 5 bl.x_NoHands_NoBook hob bl.Isinstance) (Yb (Yw 5 bl.x_NoHands_NoPage hob bl.Isinstance) (Yb (Yw 5 bl.x_NoHands_NoPaper hob bl.Isinstance) (Yb (Yw 5 bl.x_NoHands_NoTable hob bl.Isinstance) Yi)))))) (Yq (Ya2 4 sc_law_kinds.nd (Ybk (Yc (Yt (Ybk (Yc (Yt (Yy (Yb (Ygp 5 bl.x_NoHands_NoHands hob bl.Isinstance bl.Valueerror) Yi)))) (Ye 6)))) (Yc (Yt (Yy (Yb (Yz (Yep bl.x_NoHands_NoHands hob) Ydy rfl bl.Any boot_any (Ym (Ye 7) Yp)) Yi)))))))))) Yeb) (Yq3 (Ygq 5 (gs:=Ybw) (Yk8 (Ybi hr.units (Ye 0) (Yc Yg)) Yk7 (Yk8 (Ybi hr.units (Ye 0) (Yc Yg)) (Yq2 (Yd9 bl) hr (Yh 1) (Yb (Yh 3) Yi) aL1) Yk7)) bl.x_Over_DuskError rfl sc_law_kinds.nd (fun ea ob hob=>(Yl (Ya2 6 sc_law_kinds.nd (Yy (Yb (Yw 5 bl.x_Over_NoHands hob bl.Isinstance) (Yb (Yw 5 bl.x_Over_Over hob bl.Isinstance) (Yb (Yw 5 bl.x_Over_NoLight hob bl.Isinstance) (Yb (Yw 5 bl.x_Over_NoneSettled hob bl.Isinstance) Yi)))))) (Yl (Ya2 7 sc_law_kinds.nd (Yy (Yb (Yw 5 bl.x_Over_NoBook hob bl.Isinstance) (Yb (Yw 5 bl.x_Over_NoPage hob bl.Isinstance) (Yb (Yw 5 bl.x_Over_NoPaper hob bl.Isinstance) (Yb (Yw 5 bl.x_Over_NoTable hob bl.Isinstance) Yi)))))) (Yq (Ya2 4 sc_law_kinds.nd (Ybk (Yc (Yt (Ybk (Yc (Yt (Yy (Yb (Ygp 5 bl.x_Over_Over hob bl.Isinstance bl.Valueerror) Yi)))) (Ye 6)))) (Yc (Yt (Yy (Yb (Yz (Yep bl.x_Over_Over hob) Ydy rfl bl.Any boot_any (Ym (Ye 7) Yp)) Yi)))))))))) Yfr) (Yq3 (Ygq 5 (gs:=Ya6) (Yk8 (Ybi hr.units (Ye 0) (Yc Yg)) Yk7 (Yk8 (Ybi hr.units (Ye 0) (Yc Yg)) (Yq2 (Ydf bl) hr (Yh 1) (Yb (Yh 3) Yi) aL1) Yk7)) bl.x_NoLight_DuskError rfl sc_law_kinds.nd (fun ea ob hob=>(Yl (Ya2 6 sc_law_kinds.nd (Yy (Yb (Yw 5 bl.x_NoLight_NoHands hob bl.Isinstance) (Yb (Yw 5 bl.x_NoLight_Over hob bl.Isinstance) (Yb (Yw 5 bl.x_NoLight_NoLight hob bl.Isinstance) (Yb (Yw 5 bl.x_NoLight_NoneSettled hob bl.Isinstance) Yi)))))) (Yl (Ya2 7 sc_law_kinds.nd (Yy (Yb (Yw 5 bl.x_NoLight_NoBook hob bl.Isinstance) (Yb (Yw 5 bl.x_NoLight_NoPage hob bl.Isinstance) (Yb (Yw 5 bl.x_NoLight_NoPaper hob bl.Isinstance) (Yb (Yw 5 bl.x_NoLight_NoTable hob bl.Isinstance) Yi)))))) (Yq (Ya2 4 sc_law_kinds.nd (Ybk (Yc (Yt (Ybk (Yc (Yt (Yy (Yb (Ygp 5 bl.x_NoLight_NoLight hob bl.Isinstance bl.Valueerror) Yi)))) (Ye 6)))) (Yc (Yt (Yy (Yb (Yz (Yep bl.x_NoLight_NoLight hob) Ydy rfl bl.Any boot_any (Ym (Ye 7) Yp)) Yi)))))))))) Yea) (Ygq 5 (gs:=Yas) (Yk8 (Ybi hr.units (Ye 0) (Yc Yg)) Yk7 (Yk8 (Ybi hr.units (Ye 0) (Yc Yg)) Yk7 (Ysx (Yin bl) hr (Yh 1)))) bl.x_NoneSettled_DuskError rfl sc_law_kinds.nd (fun ea ob hob=>(Yl (Ya2 6 sc_law_kinds.nd (Yy (Yb (Yw 5 bl.x_NoneSettled_NoHands hob bl.Isinstance) (Yb (Yw 5 bl.x_NoneSettled_Over hob bl.Isinstance) (Yb (Yw 5 bl.x_NoneSettled_NoLight hob bl.Isinstance) (Yb (Yw 5 bl.x_NoneSettled_NoneSettled hob bl.Isinstance) Yi)))))) (Yl (Ya2 7 sc_law_kinds.nd (Yy (Yb (Yw 5 bl.x_NoneSettled_NoBook hob bl.Isinstance) (Yb (Yw 5 bl.x_NoneSettled_NoPage hob bl.Isinstance) (Yb (Yw 5 bl.x_NoneSettled_NoPaper hob bl.Isinstance) (Yb (Yw 5 bl.x_NoneSettled_NoTable hob bl.Isinstance) Yi)))))) (Yq (Ya2 4 sc_law_kinds.nd (Ybk (Yc (Yt (Ybk (Yc (Yt (Yy (Yb (Ygp 5 bl.x_NoneSettled_NoneSettled hob bl.Isinstance bl.Valueerror) Yi)))) (Ye 6)))) (Yc (Yt (Yy (Yb (Yz (Yep bl.x_NoneSettled_NoneSettled hob) Ydy rfl bl.Any boot_any (Ym (Ye 7) Yp)) Yi)))))))))) Yc7)))) (Yq (Yl6 [4] (Yx (Yh 4))))))
theorem sc_law_bad_hands:FnScope ["hands","way","cell","at","thing"] ["hands","way","cell"] (defScope (top 39)):=fns
theorem cs_law_bad_hands_0:CompSc ["hands","way","cell","at","thing"] (defScope (top 39)) ["k","hands"] [none,some 0] (fsc [(".0",.local),("k",.local),("len",.globalImplicit),("hands",.free)]):=Yap (by decide +kernel)
def Ybp:Ro->Option D:=(b2 (getC 1) (b2 (getC 0) (cC (Yd (getC 1) aNil) lenC) modI) ixD)
@[simp] def Yf4:Ro->Option Out:=(sRet (lF (b2 (lF (b2 (lF (slF (getC 0) none (some (getC 3)))) (lF (dLst (Yd (getV 4) aNil))) catD)) (lF (slF (getC 0) (some (getC 3)) none)) catD)))
@[simp] def Yf5:Ro->Option Out:=(sSeq (sSet 4 (b2 (lF (dLst (Yd (kD (.str "Keeper")) (Yd (kD (.str "storm ")) (Yd (kD (.str "")) (Yd (kD .non) (Yd (kD (.int 0)) (Yd (kD (.bl true)) (Yd (kD (.str "k")) (Yd (dTup (Yd (kD (.str "storm")) aNil)) aNil)))))))))) (b2 (b2 (getC 2) (kD (.int 64)) divI) (kD (.int 8)) modI) ixD)) Yf4)
@[simp] def Yf6:Ro->Option Out:=(sSeq (sSet 3 (b2 (getC 2) (b2 (cC (Yd (getC 0) aNil) lenC) (kD (.int 1)) addI) modI)) Yf5)
def Ycu:Ro->Option Out:=(sSeq (sIf (b2 (b2 (getC 1) (kD (.int 2)) modI) (kD (.int 0)) (eqM false)) (sRet (lF (Yc3 (cF (Yd (b2 (kD (.int 61)) (b2 (getC 2) (kD (.int 40)) modI) addI) aNil) rng1) [none,some 0] (gSet 0) tY (Ybp)))) sNil) Yf6)
def Ybq:List D->Option D:=runB 3 5 Ycu
theorem Ygh(bl:Bl K w mg):Okf P w K mg base 1 3 "_law_bad_hands" ["hands","way","cell"] Ybq:=by
 refine okfn bl.f39 sc_law_bad_hands fun hr=>?_
 exact(Yl (Yba (Ybi hr.units (Yc (Yak (Ye 1) (Yc Yg))) (Yc Yg)) (Yq (Yx (Yt (Ybc cs_law_bad_hands_0 rfl (Ydb rfl bl.Range (Yb (Yhj (Yc Yg) (Yc (Yak (Ye 2) (Yc Yg)))) Yi)) (fun _ _ _ _ _=>(Yaj 0 cs_law_bad_hands_0.nd)) (fun _ _ _ _ _=>Ycb) (fun _ _ _ _ _=>(Yu (Ye 1) (Yc (Yak (Ye 0) (Yc (Yz Yab Ybr rfl bl.Len PySem.boot_len (Ym (Ye 1) Yp))))))) (Ybs (i:=0) rfl))))) Yaq) (Yl (Ya1 3 sc_law_bad_hands.nd (Yak (Ye 2) (Yc (Yhj (Yc (Yz Yab Ybr rfl bl.Len PySem.boot_len (Ym (Ye 0) Yp))) (Yc Yg))))) (Yl (Ya1 4 sc_law_bad_hands.nd (Yu (Yc (Yt (Yy (Yb Yai (Yb Yai (Yb Yai (Yb Ybe (Yb Yg (Yb y0 (Yb Yai (Yb (Ye7 (Yb Yai Yi)) Yi))))))))))) (Yc (Yak (Yc (Yc4 (Ye 2) (Yc Yg))) (Yc Yg))))) (Yq (Yx (Yt (Ybk (Yc (Yt (Ybk (Yc (Yt (Yd0 (fl:=none) (fh:=(some (getC 3))) (Ye 0) Yna (Yiz (Ye 3))))) (Yc (Yt (Yy (Yb (Yh 4) Yi))))))) (Yc (Yt (Yd0 (fl:=(some (getC 3))) (fh:=none) (Ye 0) (Yiz (Ye 3)) Yna))))))))))
theorem Yh6:FnScope ["cell"] ["cell"] (defScope (top 40)):=fns
def Yag:Ro->Option Out:=(sRet (b2 (lF (dLst (Yd (kD (.int 0)) (Yd (kD (.int 1)) (Yd (kD .non) (Yd (kD (.str "lit")) (Yd (kD (.str "True")) (Yd (kD (.int 2)) (Yd (b2 (b1 (kD (.int 1)) negI) (b2 (b2 (getC 0) (kD (.int 8)) divI) (b2 (kD (.int 10)) (kD (.int 60)) powI) modI) subI) (Yd (dTup (Yd (kD (.bl true)) aNil)) aNil)))))))))) (b2 (getC 0) (kD (.int 8)) modI) ixD))
def Yay:List D->Option D:=runB 1 1 Yag
theorem Yec(bl:Bl K w mg):Okf P w K mg base 1 1 "_law_no_light" ["cell"] Yay:=by
 refine okfn bl.f40 Yh6 fun hr=>?_
 exact(Yq (Yx (Yu (Yc (Yt (Yy (Yb Yg (Yb Yg (Yb Ybe (Yb Yai (Yb Yai (Yb Yg (Yb (Yvh (Yc (Yl7 (Yc Yg))) (Yc (Yak (Yc (Yc4 (Ye 0) (Yc Yg))) (Yc (Yv3 (Yc Yg) (Yc Yg)))))) (Yb (Ye7 (Yb y0 Yi)) Yi))))))))))) (Yc (Yak (Ye 0) (Yc Yg))))))
theorem Ygi:FnScope ["self"] ["self"] (defScope (inClass (top 30) 2)):=fns
def Yed:Ro->Option Out:=(sRet (cC (Yd (b1 (getV 0) (fldD "Watch" "truths")) aNil) tupC))
def Yae:List D->Option D:=runB 1 1 Yed
theorem Ydt(bl:Bl K w mg):Okm P w K mg base 1 "Watch" "evening" ["self"] (spOf K 1 Yae):=by
 refine okmn bl.w_evening Ygi fun hr=>?_
 exact(Yq (Yx (Yar Yao Ydv rfl bl.Tuple boot_tuple (Ym (Yc (Yd2 bl.n_truths.cf (Yh 0))) Yp))))
theorem sc_law:FnScope ["script","kind","many","rules","book","hands","handed","top","watch","evening","beacon","thing"] ["script"] (defScope (top 41)):=fns
theorem cs_law_0:CompSc ["script","kind","many","rules","book","hands","handed","top","watch","evening","beacon","thing"] (defScope (top 41)) ["cell","kind","many"] [none,some 1,some 2] (fsc [(".0",.local),("cell",.local),("_law_rule",.globalImplicit),("kind",.free),("many",.free)]):=Yap (by decide +kernel)
theorem cs_law_1:CompSc ["script","kind","many","rules","book","hands","handed","top","watch","evening","beacon","thing"] (defScope (top 41)) ["bit"] [none] (fsc [(".0",.local),("bit",.local),("int",.globalImplicit)]):=Yap (by decide +kernel)
theorem cs_law_2:CompSc ["script","kind","many","rules","book","hands","handed","top","watch","evening","beacon","thing"] (defScope (top 41)) ["rule","kind"] [none,some 1] (fsc [(".0",.local),("rule",.local),("max",.globalImplicit),("_law_beacons",.globalImplicit),("kind",.free)]):=Yap (by decide +kernel)
def Yj7:Ro->Option D:=(cC (Yd (getV 1) (Yd (getV 0) (Yd (getV 2) aNil))) Yeu)
def Ynp:Ro->Option D:=(b2 (lF (dLst (Yd (kD (.str "storm")) (Yd (kD (.str "keeper")) aNil)))) (cC (Yd (getC 0) aNil) intC) ixD)
def Ygr:Ro->Option D:=(cC (Yd (lF (b2 (lF (dLst (Yd (b1 (kD (.int 1)) negI) aNil))) (cC (Yd (getV 1) (Yd (getV 0) aNil)) Yck) catD)) aNil) Yk9)
def Ygs(l:Addr):Wm:=(seqW (Ygf (sSet 11 (cC (Yd (cC (Yd (cC (Yd (getV 0) (Yd (b2 (kD (.int 3)) (getC 10) addI) aNil)) Yan) (Yd (kD (.int 1865811235122147685)) aNil)) Ybf) aNil) Yay))) (seqW (ifW (Yid l 8 (b2 (cC (Yd (kD (.int 1)) (Yd (getV 8) (Yd (getV 4) (Yd (getV 11) aNil)))) y8) (lF (dLst (Yd (kD (.bl true)) (Yd (kD (.bl false)) (Yd (kD (.bl false)) (Yd (kD (.bl true)) (Yd (kD (.bl false)) (Yd (kD (.bl false)) aNil)))))))) (eqM true))) (Ygf (sRet (kD (.bl false)))) nilW) (seqW (Yol l 8 (b2 (getC 9) (getC 10) ixD) Yb3) (ifW (Yid l 8 (b2 (b1 (getV 8) (mthD "Watch" "evening" Yae)) (cC (Yd (lF (slF (getC 9) none (some (b2 (getC 10) (kD (.int 1)) addI)))) aNil) tupC) (eqM true))) (Ygf (sRet (kD (.bl false)))) nilW))))
def Ygt(l:Addr):Wm:=(ifW (Yid l 8 (b2 (cC (Yd (kD (.int 1)) (Yd (getV 8) (Yd (getV 4) (Yd (getV 11) aNil)))) y8) (lF (dLst (Yd (kD (.bl true)) (Yd (kD (.bl false)) (Yd (kD (.bl true)) (Yd (kD (.bl false)) (Yd (kD (.bl false)) (Yd (kD (.bl false)) aNil)))))))) (eqM true))) (Ygf (sRet (kD (.bl false)))) nilW)
def Yq7(l:Addr):Wm:=(retL l 8 (mB (b2 (b1 (getV 8) (mthD "Watch" "evening" Yae)) (cC (Yd (getC 9) aNil) tupC) (eqM false))))
def Yq8(l:Addr):Wm:=(seqW (Yjv (b1 (lF (dLst (Yd (kD (.bl true)) (Yd (kD (.bl false)) (Yd (cC (Yd (cC (Yd (getV 0) (Yd (kD (.int 4)) aNil)) Yan) aNil) Yay) aNil))))) Ys) (gSet 11) (Ygt l)) (Yq7 l))
def Yq9(l:Addr):Wm:=(seqW (Yjv (cF (Yd (getV 2) aNil) rng1) (gSet 10) (Ygs l)) (Yq8 l))
def Yra(l:Addr):Wm:=(seqW (Ygf (sSet 9 (cC (Yd (cC (Yd (getV 0) (Yd (kD (.int 4)) aNil)) Yan) (Yd (getV 2) aNil)) Yde))) (Yq9 l))
def Ymj(l:Addr):Wm:=(seqW (ifW (Yid l 8 (b2 (cC (Yd (kD (.int 2)) (Yd (getV 8) (Yd (getV 4) (Yd (kD .non) aNil)))) y8) (lF (dLst (Yd (kD (.bl true)) (Yd (kD (.bl false)) (Yd (kD (.bl false)) (Yd (kD (.bl false)) (Yd (kD (.bl true)) (Yd (kD (.bl false)) aNil)))))))) (eqM true))) (Ygf (sRet (kD (.bl false)))) nilW) (Yra l))
def Ymk:Ro->Option Out:=(Yoi 8 [5] Ycr Yd5 Yd6 (getV 4) (getV 5) Ymj)
def Yml:Ro->Option Out:=(sSeq (sIf (andT (b2 (getC 7) (kD (.int 0)) geI) (b2 (cC (Yd (kD (.int 0)) (Yd (kD .non) (Yd (getV 4) (Yd (lF (slF (getC 5) none (some (getC 7)))) aNil)))) y8) (lF (dLst (Yd (kD (.bl true)) (Yd (kD (.bl true)) (Yd (kD (.bl false)) (Yd (kD (.bl false)) (Yd (kD (.bl false)) (Yd (kD (.bl false)) aNil)))))))) (eqM true))) (sRet (kD (.bl false))) sNil) Ymk)
def Ymm:Ro->Option Out:=(sSeq (sSet 7 (cC (Yd (lF (b2 (lF (dLst (Yd (b1 (kD (.int 1)) negI) aNil))) (lF (Yc3 (b1 (getV 3) Ys) [none,some 1] (gSet 0) tY (Ygr))) catD)) aNil) Yk9)) Yml)
def Ymn:Ro->Option Out:=(sSeq (sIf (b2 (cC (Yd (kD (.int 0)) (Yd (kD .non) (Yd (getV 4) (Yd (getV 6) aNil)))) y8) (lF (dLst (Yd (kD (.bl true)) (Yd (kD (.bl true)) (Yd (kD (.bl false)) (Yd (kD (.bl false)) (Yd (kD (.bl false)) (Yd (kD (.bl false)) aNil)))))))) (eqM true)) (sRet (kD (.bl false))) sNil) Ymm)
def Yrb:Ro->Option Out:=(sSeq (wF [5] (sSet 6 (cC (Yd (getV 5) (Yd (cC (Yd (getV 0) (Yd (kD (.int 2)) aNil)) Yan) (Yd (cC (Yd (cC (Yd (getV 0) (Yd (kD (.int 3)) aNil)) Yan) (Yd (kD (.int 2049848353892358983)) aNil)) Ybf) aNil))) Ybq))) Ymn)
def Yrc:Ro->Option Out:=(sSeq (sOwn 5 (Yc3 (b1 (cC (Yd (cC (Yd (getV 0) (Yd (kD (.int 1)) aNil)) Yan) (Yd (getV 2) aNil)) Yde) Ys) [none] (gSet 0) tY (Ynp))) Yrb)
def Yrd:Ro->Option Out:=(sSeq (sSet 4 (dTup (Yd (getV 1) (Yd (getV 3) aNil)))) Yrc)
def Yre:Ro->Option Out:=(sSeq (sSet 3 (cC (Yd (lF (Yc3 (b1 (lF (slF (getC 0) (some (kD (.int 5))) (some (kD (.int 63))))) Ys) [none,some 1,some 2] (gSet 0) tY (Yj7))) aNil) tupC)) Yrd)
def Yrf:Ro->Option Out:=(sSeq (sSet 2 (b2 (kD (.int 1)) (b2 (b2 (cC (Yd (getV 0) (Yd (kD (.int 0)) aNil)) Yan) (kD (.int 4)) divI) (kD (.int 20)) modI) addI)) Yre)
def Yy7:Ro->Option Out:=(sSeq (sSet 1 (cC (Yd (cC (Yd (getV 0) (Yd (kD (.int 0)) aNil)) Yan) aNil) Yes)) Yrf)
def Ymo:List D->Option D:=runB 1 12 Yy7
theorem Yy8(bl:Bl K w mg){a:Addr}{fd:FuncData}(F:Fun K "law" "law" (top 41) a fd):FnOk P w K mg base CX0 8 a fd ["script"] (spOf K 1 Ymo):=by
 refine Yf1 (k:=7) F sc_law rfl rfl fun cdv A outer s H E hr=>?_
 exact(Yl (Ya1 1 sc_law.nd (Yn (Ymh bl) hr rfl (Yb (Yn (Ya3 bl) hr rfl (Yb (Yh 0) (Yb Yg Yi)) aL2) Yi) aL1)) (Yl (Ya1 2 sc_law.nd (Yhj (Yc Yg) (Yc (Yak (Yc (Yc4 (Yc (Yn (Ya3 bl) hr rfl (Yb (Yh 0) (Yb Yg Yi)) aL2)) (Yc Yg))) (Yc Yg))))) (Yl (Ya1 3 sc_law.nd (Yar Yao Ydv rfl bl.Tuple boot_tuple (Ym (Yc (Yt (Ybc cs_law_0 rfl (Ybj (Yt (Yd0 (fl:=(some (kD (.int 5)))) (fh:=(some (kD (.int 63)))) (Ye 0) (Yiz (Yc Yg)) (Yiz (Yc Yg))))) (fun _ _ _ _ _=>(Yaj 0 cs_law_0.nd)) (fun _ _ _ _ _=>Ycb) (fun _ _ _ _ _=>(Yn (Ymi bl) hr rfl (Yb (Yh 1) (Yb (Yh 0) (Yb (Yh 2) Yi))) aL3)) (Ybs (i:=0) rfl)))) Yp))) (Yl (Ya1 4 sc_law.nd (Ye7 (Yb (Yh 1) (Yb (Yh 3) Yi)))) (Yl (Ynb 5 sc_law.nd cs_law_1 rfl (Ybj (Yn (Yhz bl) hr rfl (Yb (Yn (Ya3 bl) hr rfl (Yb (Yh 0) (Yb Yg Yi)) aL2) (Yb (Yh 2) Yi)) aL2)) (fun _ _ _ _ _=>(Yaj 0 cs_law_1.nd)) (fun _ _ _ _ _=>Ycb) (fun _ _ _ _ _=>(Yu (Yc (Yt (Yy (Yb Yai (Yb Yai Yi))))) (Yc (Yar Ygv Yl0 rfl bl.Int boot_int (Ym (Ye 0) Yp))))) (Ybs (i:=0) rfl)) (Yl (Yl6 [5] (Ya1 6 sc_law.nd (Yn (Ygh bl) hr rfl (Yb (Yh 5) (Yb (Yn (Ya3 bl) hr rfl (Yb (Yh 0) (Yb Yg Yi)) aL2) (Yb (Yn (Yc2 bl) hr rfl (Yb (Yn (Ya3 bl) hr rfl (Yb (Yh 0) (Yb Yg Yi)) aL2) (Yb Yg Yi)) aL2) Yi))) aL3))) (Yl (Yba (Yiy hr.units (Yc (Yn (Yb8 bl) hr rfl (Yb Yg (Yb Ybe (Yb (Yh 4) (Yb (Yh 6) Yi)))) aL4)) (Yc (Yt (Yy (Yb y0 (Yb y0 (Yb y0 (Yb y0 (Yb y0 (Yb y0 Yi)))))))))) (Yq (Yx y0)) Yaq) (Yl (Ya1 7 sc_law.nd (Yz (Yla rfl) Ynn rfl bl.Max boot_max (Ym (Yc (Yt (Ybk (Yc (Yt (Yy (Yb (Yl7 (Yc Yg)) Yi)))) (Yc (Yt (Ybc cs_law_2 rfl (Ybj (Yh 3)) (fun _ _ _ _ _=>(Yaj 0 cs_law_2.nd)) (fun _ _ _ _ _=>Ycb) (fun _ _ _ _ _=>(Yz (Yla rfl) Ynn rfl bl.Max boot_max (Ym (Yc (Yt (Ybk (Yc (Yt (Yy (Yb (Yl7 (Yc Yg)) Yi)))) (Yc (Yn (Yim bl) hr rfl (Yb (Yh 1) (Yb (Yh 0) Yi)) aL2))))) Yp))) (Ybs (i:=0) rfl))))))) Yp))) (Yl (Yba (Yi0 (Yjq (Yym (Ye 7) (Yc Yg)) (Ygn (Yiy hr.units (Yc (Yn (Yb8 bl) hr rfl (Yb Yg (Yb Ybe (Yb (Yh 4) (Yb (Yt (Yd0 (fl:=none) (fh:=(some (getC 7))) (Ye 5) Yna (Yiz (Ye 7)))) Yi)))) aL4)) (Yc (Yt (Yy (Yb y0 (Yb y0 (Yb y0 (Yb y0 (Yb y0 (Yb y0 Yi))))))))))))) (Yq (Yx y0)) Yaq) (Ysp 8 [5] (Yh2 bl) hr rfl (Yh 4) (Yh 5) sc_law.nd (fun l=>(Yby (Yk4 (Yfo 8 (Yiy hr.units (Yc (Yn (Yb8 bl) hr rfl (Yb Yg (Yb (Yh 8) (Yb (Yh 4) (Yb Ybe Yi)))) aL4)) (Yc (Yt (Yy (Yb y0 (Yb y0 (Yb y0 (Yb y0 (Yb y0 (Yb y0 Yi))))))))))) (Ydl (Ycy (Yx y0))) Yho) (Yby (Ycy (Ya1 9 sc_law.nd (Yn (Yhz bl) hr rfl (Yb (Yn (Ya3 bl) hr rfl (Yb (Yh 0) (Yb Yg Yi)) aL2) (Yb (Yh 2) Yi)) aL2))) (Yby (Yqk PassesOwn.never rfl (Ydb rfl bl.Range (Yb (Yh 2) Yi)) (Yaj 10 sc_law.nd) (Yby (Ycy (Ya1 11 sc_law.nd (Yn (Yec bl) hr rfl (Yb (Yn (Yc2 bl) hr rfl (Yb (Yn (Ya3 bl) hr rfl (Yb (Yh 0) (Yb (Yhj (Yc Yg) (Ye 10)) Yi)) aL2) (Yb Yg Yi)) aL2) Yi) aL1))) (Yby (Yk4 (Yfo 8 (Yiy hr.units (Yc (Yn (Yb8 bl) hr rfl (Yb Yg (Yb (Yh 8) (Yb (Yh 4) (Yb (Yh 11) Yi)))) aL4)) (Yc (Yt (Yy (Yb y0 (Yb y0 (Yb y0 (Yb y0 (Yb y0 (Yb y0 Yi))))))))))) (Ydl (Ycy (Yx y0))) Yho) (Yby (Ymc 8 (Yh5 bl) hr (Yu (Ye 9) (Ye 10))) (Ydl (Yk4 (Yfo 8 (Yiy hr.units (Yc (Yco (Ydt bl) hr (Yh 8))) (Yc (Yar Yao Ydv rfl bl.Tuple boot_tuple (Ym (Yc (Yt (Yd0 (fl:=none) (fh:=(some (b2 (getC 10) (kD (.int 1)) addI))) (Ye 9) Yna (Yiz (Yc (Yhj (Ye 10) (Yc Yg))))))) Yp))))) (Ydl (Ycy (Yx y0))) Yho)))))) (Yby (Yqk PassesOwn.never rfl (Ybj (Yt (Yy (Yb y0 (Yb y0 (Yb (Yn (Yec bl) hr rfl (Yb (Yn (Ya3 bl) hr rfl (Yb (Yh 0) (Yb Yg Yi)) aL2) Yi) aL1) Yi)))))) (Yaj 11 sc_law.nd) (Ydl (Yk4 (Yfo 8 (Yiy hr.units (Yc (Yn (Yb8 bl) hr rfl (Yb Yg (Yb (Yh 8) (Yb (Yh 4) (Yb (Yh 11) Yi)))) aL4)) (Yc (Yt (Yy (Yb y0 (Yb y0 (Yb y0 (Yb y0 (Yb y0 (Yb y0 Yi))))))))))) (Ydl (Ycy (Yx y0))) Yho))) (Ydl (Ynl 8 (Yds hr.units (Yc (Yco (Ydt bl) hr (Yh 8))) (Yc (Yar Yao Ydv rfl bl.Tuple boot_tuple (Ym (Ye 9) Yp)))))))))))))))))))))
end
abbrev Yj8:Nat:=8
theorem all_mk{l:W.OpenLaw}{w:World}{K:W.Frag}{h:Heap}{mg:Str->Option Value}{fa uh:Addr}(X:K.In h)(G:h.Ns mainGlobals mg)(hfa:mg "law"=some (.ref fa))
 {uw uk:Option Addr} {ux:Array (Option Value)} {uy ul um uo ue up:Value}
 (F_either_holds:Fk K "either_holds" 12)
 (F_sum_holds:Fk K "sum_holds" 13)
 (F_if_holds:Fk K "if_holds" 14)
 (F_rule_holds:Fk K "rule_holds" 15)
 (F_broken_rules:Fk K "broken_rules" 16)
 (F_holds:Fk K "holds" 17)
 (F_beacons_in:Fk K "beacons_in" 18)
 (F_beacons_of:Fk K "beacons_of" 19)
 (F_is_hand:Fk K "is_hand" 28)
 (F_check_hands:Fk K "check_hands" 29)
 (F_law_cell:Fk K "_law_cell" 32)
 (F_law_mixed:Fk K "_law_mixed" 33)
 (F_law_kind:Fk K "_law_kind" 34)
 (F_law_rule:Fk K "_law_rule" 35)
 (F_law_bits:Fk K "_law_bits" 36)
 (F_law_beacons:Fk K "_law_beacons" 37)
 (F_Watch___init:Iq K (inClass (top 30) 0))
 (uf:Mq K "Watch" "turn" "Watch.turn" (inClass (top 30) 1))
 (ud:Mq K "Watch" "winner" "Watch.winner" (inClass (top 30) 4))
 (F_Watch_settle:Mq K "Watch" "settle" "Watch.settle" (inClass (top 30) 5))
 (F_Watch_back:Mq K "Watch" "back" "Watch.back" (inClass (top 30) 6))
 (F_law_kinds:Fk K "_law_kinds" 38)
 (F_law_bad_hands:Fk K "_law_bad_hands" 39)
 (F_law_no_light:Fk K "_law_no_light" 40)
 (ua:Mq K "Watch" "evening" "Watch.evening" (inClass (top 30) 2))
 (uz:W.nsIn K mainGlobals "law"=some (some (.ref uh))) (u0:K.lookup uh=some ⟨uy,uw,.func (W.fnOf "law" "law" (defArgs (top 41)) (defBody (top 41)) (defScope (top 41)) .none ul um uo uk ue up),ux⟩) (u3:W.codeIn K ue "law"=true) (u4:W.keepIn K (.ref uh)=true)
 (N_book:Nq K "Watch" "book")
 (N_hands:Nq K "Watch" "hands")
 (N_truths:Nq K "Watch" "truths")
 (X_NoHands_NoHands:Xk K "NoHands" "NoHands" true)
 (X_Over_Over:Xk K "Over" "Over" true)
 (X_NoLight_NoLight:Xk K "NoLight" "NoLight" true)
 (X_NoneSettled_NoneSettled:Xk K "NoneSettled" "NoneSettled" true)
 (X_NoneSettled_DuskError:Xk K "NoneSettled" "DuskError" true)
 (X_NoneSettled_NoLight:Xk K "NoneSettled" "NoLight" false)
 (X_NoneSettled_Over:Xk K "NoneSettled" "Over" false)
 (X_NoneSettled_NoHands:Xk K "NoneSettled" "NoHands" false)
 (X_NoneSettled_NoTable:Xk K "NoneSettled" "NoTable" false)
 (X_NoneSettled_NoPaper:Xk K "NoneSettled" "NoPaper" false)
 (X_NoneSettled_NoPage:Xk K "NoneSettled" "NoPage" false)
 (X_NoneSettled_NoBook:Xk K "NoneSettled" "NoBook" false)
 (X_NoLight_DuskError:Xk K "NoLight" "DuskError" true)
 (X_NoLight_NoneSettled:Xk K "NoLight" "NoneSettled" false)
 (X_NoLight_Over:Xk K "NoLight" "Over" false)
 (X_NoLight_NoHands:Xk K "NoLight" "NoHands" false)
 (X_NoLight_NoTable:Xk K "NoLight" "NoTable" false)
 (X_NoLight_NoPaper:Xk K "NoLight" "NoPaper" false)
 (X_NoLight_NoPage:Xk K "NoLight" "NoPage" false)
 (X_NoLight_NoBook:Xk K "NoLight" "NoBook" false)
 (X_Over_DuskError:Xk K "Over" "DuskError" true)
 (X_Over_NoneSettled:Xk K "Over" "NoneSettled" false)
 (X_Over_NoLight:Xk K "Over" "NoLight" false)
 (X_Over_NoHands:Xk K "Over" "NoHands" false)
 (X_Over_NoTable:Xk K "Over" "NoTable" false)
 (X_Over_NoPaper:Xk K "Over" "NoPaper" false)
 (X_Over_NoPage:Xk K "Over" "NoPage" false)
 (X_Over_NoBook:Xk K "Over" "NoBook" false)
 (X_NoHands_DuskError:Xk K "NoHands" "DuskError" true)
 (X_NoHands_NoneSettled:Xk K "NoHands" "NoneSettled" false)
 (X_NoHands_NoLight:Xk K "NoHands" "NoLight" false)
 (X_NoHands_Over:Xk K "NoHands" "Over" false)
 (X_NoHands_NoTable:Xk K "NoHands" "NoTable" false)
 (X_NoHands_NoPaper:Xk K "NoHands" "NoPaper" false)
 (X_NoHands_NoPage:Xk K "NoHands" "NoPage" false)
 (X_NoHands_NoBook:Xk K "NoHands" "NoBook" false)
 {ub:Tok} (uc:W.nsIn K mainGlobals "BEACON_COUNT"=some (some (.int 60 ub)))
 {ug:Addr} {uq:_} {ur:_} {ut:_} {ui uj:_} (uu:W.nsIn K mainGlobals "HANDS"=some (some (.ref ug))) (uv:K.lookup ug=some ⟨.type "tuple",uq,.seq #[.str "keeper" ui,.str "storm" uj] ur,ut⟩)
 (z_len:W.nsIn K mainGlobals "len"=some none)
 (z_range:W.nsIn K mainGlobals "range"=some none)
 (z_list:W.nsIn K mainGlobals "list"=some none)
 (z_tuple:W.nsIn K mainGlobals "tuple"=some none)
 (z_int:W.nsIn K mainGlobals "int"=some none)
 (z_str:W.nsIn K mainGlobals "str"=some none)
 (z_sorted:W.nsIn K mainGlobals "sorted"=some none)
 (z_any:W.nsIn K mainGlobals "any"=some none)
 (z_all:W.nsIn K mainGlobals "all"=some none)
 (z_isinstance:W.nsIn K mainGlobals "isinstance"=some none)
 (z_enumerate:W.nsIn K mainGlobals "enumerate"=some none)
 (z_set:W.nsIn K mainGlobals "set"=some none)
 (z_max:W.nsIn K mainGlobals "max"=some none)
 (z_ValueError:W.nsIn K mainGlobals "ValueError"=some none)
 : ∃fd:FuncData,(∀(s:Shared) (v:Value),BindsTo s fd ⟨[v],[]⟩ [("script",v)])/\∀base:Heap,K.In base->base.Ns mainGlobals mg->FnOk l.prog w K mg base CX0 Yj8 fa fd ["script"] (spOf K 1 Ymo):=by
 have e:=hfa.symm.trans (W.mg_of X G uz)
 cases e
 have bl:Bl K w mg:=⟨W.mg_none_of X G z_len,W.mg_none_of X G z_range,W.mg_none_of X G z_list,W.mg_none_of X G z_tuple,W.mg_none_of X G z_int,W.mg_none_of X G z_str,W.mg_none_of X G z_sorted,W.mg_none_of X G z_any,W.mg_none_of X G z_all,W.mg_none_of X G z_isinstance,W.mg_none_of X G z_enumerate,W.mg_none_of X G z_set,W.mg_none_of X G z_max,W.mg_none_of X G z_ValueError,⟨_,W.mg_of X G uc⟩,⟨_,_,_,_,W.mg_of X G uu,uv,rfl,rfl,(.cons ⟨⟨_,rfl⟩,by decide +kernel⟩ (.cons ⟨⟨_,rfl⟩,by decide +kernel⟩ .nil))⟩,F_either_holds.on X G,F_sum_holds.on X G,F_if_holds.on X G,F_rule_holds.on X G,F_broken_rules.on X G,F_holds.on X G,F_beacons_in.on X G,F_beacons_of.on X G,F_is_hand.on X G,F_check_hands.on X G,F_law_cell.on X G,F_law_mixed.on X G,F_law_kind.on X G,F_law_rule.on X G,F_law_bits.on X G,F_law_beacons.on X G,F_Watch___init,uf,ud,F_Watch_settle,F_Watch_back,F_law_kinds.on X G,F_law_bad_hands.on X G,F_law_no_light.on X G,ua,fun C h=>W.mg_of X G h,N_book,N_hands,N_truths,X_NoHands_NoHands.on X G,X_Over_Over.on X G,X_NoLight_NoLight.on X G,X_NoneSettled_NoneSettled.on X G,X_NoneSettled_DuskError.on X G,X_NoneSettled_NoLight.on X G,X_NoneSettled_Over.on X G,X_NoneSettled_NoHands.on X G,X_NoneSettled_NoTable.on X G,X_NoneSettled_NoPaper.on X G,X_NoneSettled_NoPage.on X G,X_NoneSettled_NoBook.on X G,X_NoLight_DuskError.on X G,X_NoLight_NoneSettled.on X G,X_NoLight_Over.on X G,X_NoLight_NoHands.on X G,X_NoLight_NoTable.on X G,X_NoLight_NoPaper.on X G,X_NoLight_NoPage.on X G,X_NoLight_NoBook.on X G,X_Over_DuskError.on X G,X_Over_NoneSettled.on X G,X_Over_NoLight.on X G,X_Over_NoHands.on X G,X_Over_NoTable.on X G,X_Over_NoPaper.on X G,X_Over_NoPage.on X G,X_Over_NoBook.on X G,X_NoHands_DuskError.on X G,X_NoHands_NoneSettled.on X G,X_NoHands_NoLight.on X G,X_NoHands_Over.on X G,X_NoHands_NoTable.on X G,X_NoHands_NoPaper.on X G,X_NoHands_NoPage.on X G,X_NoHands_NoBook.on X G⟩
 have u5:=Ymy (st:=(top 41)) u0 u3 u4
 refine⟨W.fnOf "law" "law" (defArgs (top 41)) (defBody (top 41)) (defScope (top 41)) .none ul um uo uk ue up,fun s v=>.of_eq rfl,fun base _ _=>?_⟩
 exact Yy8 bl u5
theorem walk(hlaw:∀ns:List Int,ns.length<=63->Ymo [.scr ns]=some (.bl true)){l:W.OpenLaw}{q:Program}{loose:List Str}{XP:(Str->Option Value)->Heap->Prop}{YP:World->Heap->Prop}{d:DefRec}{K:Params->W.Frag}(hn:l.most=some 63)(hdf:d.params.defaults=[])
 (hY:∀(w:World) (h:Heap),YP w h->(K w.params).In h)
 (F:∀(w:World) (mg:Str->Option Value) (fa:Addr) (h:Heap),(K w.params).In h->h.Ns mainGlobals mg->mg d.name=some (.ref fa)->
  ∃fd:FuncData,(∀(s:Shared) (u:Value),BindsTo s fd ⟨[u],[]⟩ [("script",u)])/\∀base:Heap,(K w.params).In base->base.Ns mainGlobals mg->FnOk l.prog w (K w.params) mg base CX0 Yj8 fa fd ["script"] (spOf (K w.params) 1 Ymo)) :
 W.WalkO q loose XP YP l.row.toRowW d [] (fun f vs=>PySem.call f vs):=
 L2.walk_of (n:=63) (k:=Yj8) (x:="script") (CX:=fun _=>CX0) (sp:=fun w=>spOf (K w.params) 1 Ymo) hn (by decide) hdf ⟨rfl,by decide,by decide⟩ hY F
  (fun w H a ns hl _ hS=>⟨rfl,[.scr ns],.bl true,H,Same.refl H,.one (by rw[Rp];exact⟨a,rfl,hS⟩),hlaw ns hl,fun v H' G' g r=>by rw[Rp]at r;exact r⟩) fun _ _ _ _ _ z=>z
end Lw
namespace Lw
open PySem L2 M Bk
theorem Ynq:∀(l acc:List Int) (x:Int),x∈ddup acc l↔x∈acc\/x∈l
 | [],acc,x=>by simp[ddup]
 | k::l,acc,x=>by
   rw[ddup,Ynq]
   by_cases h:k∈acc
   ·rw[if_pos h]
    simp
    constructor
    ·rintro(h1 | h1)
     ·exact .inl h1
     ·exact .inr (.inr h1)
    ·rintro(h1 | h1 | h1)
     ·exact .inl h1
     ·subst h1;exact .inl h
     ·exact .inr h1
   ·rw[if_neg h]
    simp[or_assoc]
theorem Yi4:∀(l acc:List Int),acc.Nodup->(ddup acc l).Nodup
 | [],_,h=>h
 | k::l,acc,h=>by
   rw[ddup]
   refine Yi4 l _ ?_
   by_cases hk:k∈acc
   ·rw[if_pos hk];exact h
   ·rw[if_neg hk,List.nodup_append]
    refine⟨h,by simp,fun x hx y hy z=>?_⟩
    simp at hy
    subst hy
    exact hk (z ▸ hx)
theorem Ys0{n:Nat}(hn:n < 64)(l:List Nat)(h:∀x∈l,x < n)(hl:l.length < 4000):∃l':List Nat,l'.Pairwise (· < ·)/\(∀x,x∈l'↔x∈l)/\Yp5 (l.map nD)=some (l'.map nD):=by
 have e1:l.map nD=(l.map Int.ofNat).map D.int:=by simp[nD,Function.comp_def]
 generalize hd:ddup [] (l.map Int.ofNat)=d
 have hnd:d.Nodup:=by rw[<-hd];exact Yi4 _ _ .nil
 have hmem:∀x,x∈d↔∃y∈l,(y:Int)=x:=fun x=>by rw[<-hd,Ynq];simp
 have hp:=Ya4 d
 have hs:=Ya0 d
 obtain⟨l',e2⟩:∃l':List Nat,Yda d=l'.map Int.ofNat:=by
  refine⟨(Yda d).map Int.toNat,?_⟩
  rw[List.map_map]
  refine(List.map_id _).symm.trans (List.map_congr_left fun x hx=>?_)
  obtain⟨y,_,rfl⟩:=(hmem x).mp (hp.mem_iff.mp hx)
  simp[Function.comp_def]
 have hm2:∀x,x∈l'↔x∈l:=fun x=>by
  have h1:x∈l'↔(x:Int)∈Yda d:=by
   rw[e2]
   constructor
   ·exact fun h=>List.mem_map_of_mem (f:=Int.ofNat) h
   ·intro h
    obtain⟨y,hy,hyx⟩:=qv h
    have:y=x:=by simpa using hyx
    exact this ▸ hy
  rw[h1,hp.mem_iff,hmem]
  constructor
  ·rintro⟨y,hy,hyx⟩
   have:y=x:=by omega
   exact this ▸ hy
  ·exact fun h=>⟨x,h,rfl⟩
 have hpw:l'.Pairwise (· < ·):=by
  rw[e2]at hp hs
  have hn':l'.Nodup:=by
   have:=hp.nodup_iff.mpr hnd
   rw[List.nodup_iff_pairwise_ne,List.pairwise_map]at this
   exact this.imp fun h z=>h (by rw[z])
  have hs':l'.Pairwise (·<=·):=(List.pairwise_map.mp hs).imp fun h=>by simpa using h
  exact(hs'.and hn').imp fun h=>Nat.lt_of_le_of_ne h.1 h.2
 have hlen:d.length<=n:=by
  rw[<-hp.length_eq,e2,qe]
  exact Yqg hpw fun x hx=>h x ((hm2 x).mp hx)
 refine⟨l',hpw,hm2,?_⟩
 unfold Yp5
 rw[e1,Yk3]
 dsimp only
 rw[if_pos ⟨by rw[qe];exact hl,by rw[hd];omega⟩,hd,e2]
 simp[nD,Function.comp_def]
end Lw
namespace Lw
open PySem L2 M Bk
theorem Yi5(ns:List Int)(k:Nat):Yan [.scr ns,.int k]=some (.int (ns.getD k 0)):=by
 rw[Yan,Yaw (by rfl)]
 by_cases h:k < ns.length
 ·have e:atI (ns.map D.int) (k:Int)=some (.int ns[k]):=by
   rw[Yhn,Ygo h]
   rfl
  simp[Yf3,Yr,h,e]
 ·simp[Yf3,Yr,h]
end Lw
namespace Lw
open PySem L2 M Bk
theorem Yv5(ns:List Int)(a b:Nat):cutD (ns.map D.int) (some (a:Int)) (some (b:Int))=((ns.drop (min a ns.length)).take (min b ns.length - min a ns.length)).map D.int:=by
 unfold cutD
 rw[HT.sIx_nat,HT.sIx_nat]
 simp
theorem drawn{fe:Ro->Option D}{r:Ro}{P:Rl->Prop}(h:∀c:Int,∃x:Rl,P x/\fe (some (.sh (.int c))::r)=some (rlD x)):∀cells:List Int,∃R:List Rl,R.length=cells.length/\(∀x∈R,P x)/\Ye5 (gSet 0) tY fe (none::r) (cells.map D.int)=some (R.map rlD)
 | []=>⟨[],rfl,fun _ h=>(nomatch h),rfl⟩
 | c::cells=>by
   obtain⟨R,h1,h2,h3⟩:=drawn h cells
   obtain⟨x,hx,hr⟩:=h c
   refine⟨x::R,by simp[h1],fun y hy=>?_,?_⟩
   ·rcases qr hy with rfl | hy
    ·exact hx
    ·exact h2 y hy
   ·rw[qz,Ye5,h3]
    simp[hr]
end Lw
namespace Lw
open PySem L2 M Bk
theorem Yj9(c m:Int):∃v:Int,0<=v/\Ybf [.int c,.int m]=some (.int v):=by
 refine⟨c % 2305843009213693951 * m % 2305843009213693951,Int.emod_nonneg _ (by decide),?_⟩
 rw[Ybf,Yaw (by rfl)]
 have h1:0<=c % 2305843009213693951:=Int.emod_nonneg _ (by decide)
 have h2:c % 2305843009213693951 < 2305843009213693951:=Int.emod_lt_of_pos _ (by decide)
 have h3:mulI (.int (c % 2305843009213693951)) (.int m)=some (.int (c % 2305843009213693951 * m)):=Yne ⟨by omega,by omega⟩
 simp[Yhy,Yr,h3]
end Lw
namespace Lw
open PySem L2 M Bk
theorem Yy9(c:Int):∃k:Kd,Yes [.int c]=some (kdD k):=by
 have h0:0<=c % 4:=Int.emod_nonneg _ (by decide)
 have h4:c % 4 < 4:=Int.emod_lt_of_pos _ (by decide)
 rw[Yes,Yaw (by rfl)]
 have e:c % 4=0\/c % 4=1\/c % 4=2\/c % 4=3:=by omega
 rcases e with e | e | e | e
 ·exact⟨.e,by simp[Ydd,Yr,e];rfl⟩
 ·exact⟨.s,by simp[Ydd,Yr,e];rfl⟩
 ·exact⟨.i,by simp[Ydd,Yr,e];rfl⟩
 ·exact⟨.n,by simp[Ydd,Yr,e];rfl⟩
end Lw
namespace Lw
open PySem L2 M Bk
theorem Ytv(c:Int)(n:Nat)(hn:n<=1000):∃ev:List Bool,ev.length=n/\Yde [.int c,.int n]=some (.lst (ev.map D.bl)):=by
 obtain⟨v,_,hv⟩:=Yj9 c 1442695040888963407
 obtain⟨ρ',e1,bs,left,y,hl,rfl⟩:=Yfm (gt:=gSet 4) (fb:=Ydp) (fun i:Nat=>D.int (0+(i:Nat))) (fun pre ρ=>∃(bs:List Bool) (left:Int) (y:Option B),bs.length=pre.length/\
  ρ=[some (.sh (.int c)),some (.sh (.int n)),some (.sh (.int left)),some (.ow (bs.map D.bl)),y]) (List.range n) []
  [some (.sh (.int c)),some (.sh (.int n)),some (.sh (.int v)),some (.ow []),none] ⟨[],v,none,rfl,rfl⟩ (by
   rintro q a r ρ e ⟨bs,left,y,hl,rfl⟩
   have hq:q.length < n:=by have:=congrArg List.length e;simp at this;omega
   have hcap:bs.length < 1000000:=by omega
   refine⟨_,_,rfl,by simp[Ydp,appD,hcap];rfl,bs++[decide (left % 2=1)],left / 2,some (.sh (.int (0+(a:Int)))),by simp[hl],by simp⟩)
 refine⟨bs,by simpa using hl,?_⟩
 rw[Yde,Yaw (by rfl)]
 have hr:=Yhm (n:=(n:Int)) (by omega) (by omega)
 rw[Yhl]at hr
 simp[Yi3,Yr,hv,hr]at e1 ⊢
 rw[e1]
 simp
end Lw
namespace Lw
open PySem L2 M Bk
theorem Ys1(l:List Nat)(hn:l.Nodup)(hl:l.length < 64):∃l':List Nat,l'.Perm l/\l'.Pairwise (· < ·)/\Ykv [.lst (l.map nD)]=some (l'.map nD):=by
 have e1:l.map nD=(l.map Int.ofNat).map D.int:=by simp[nD,Function.comp_def]
 have hp:=Ya4 (l.map Int.ofNat)
 have hs:=Ya0 (l.map Int.ofNat)
 have e2:∃l':List Nat,Yda (l.map Int.ofNat)=l'.map Int.ofNat:=by
  have hm:∀x∈Yda (l.map Int.ofNat),0<=x:=fun x hx=>by
   obtain⟨y,_,rfl⟩:=qv (hp.mem_iff.mp hx)
   exact Int.natCast_nonneg y
  refine⟨(Yda (l.map Int.ofNat)).map Int.toNat,?_⟩
  rw[List.map_map]
  refine(List.map_id _).symm.trans (List.map_congr_left fun x hx=>?_)
  have:=hm x hx
  simp[Function.comp_def]
  omega
 obtain⟨l',e2⟩:=e2
 rw[e2]at hp hs
 have hp':l'.Perm l:=by
  have:=hp.map Int.toNat
  simpa [Function.comp_def]using this
 refine⟨l',hp',?_,?_⟩
 ·have hn':l'.Nodup:=hp'.nodup_iff.mpr hn
  have hs':l'.Pairwise (·<=·):=by
   have:=List.pairwise_map.mp hs
   exact this.imp fun h=>by simpa using h
  exact(hs'.and hn').imp fun h=>Nat.lt_of_le_of_ne h.1 h.2
 ·show Yse (l.map nD)=_
  rw[e1]
  unfold Yse
  rw[Yk3]
  simp[hl,e2,nD,Function.comp_def]
theorem Ys2(l:List Say)(h:l.length<=2)(hn:l.Nodup):∃l':List Say,l'.Perm l/\l'.Pairwise slt/\Ykv [.lst (l.map sayD)]=some (l'.map sayD):=by
 match l,h,hn with
 | [],_,_=>exact⟨[],.refl _,.nil,rfl⟩
 | [a],_,_=>exact⟨[a],.refl _,by simp,rfl⟩
 | [a,b],_,hn=>
   have hab:a≠b:=by simpa using hn
   have e:Ykv [.lst ([a,b].map sayD)]=some (if plt b.1 b.2 a.1 a.2=true then [sayD b,sayD a]else [sayD a,sayD b]):=rfl
   obtain⟨x,p⟩:=a
   obtain⟨y,q⟩:=b
   cases hp:plt (y:Int) q (x:Int) p with
   | true=>
     refine⟨[(y,q),(x,p)],.swap _ _ [],?_,by rw[e];simp[hp]⟩
     unfold plt at hp
     have:slt (y,q) (x,p):=by
      unfold slt
      split at hp
      ·rename_i hxy
       simp at hp
       exact .inr ⟨by omega,hp.1,hp.2⟩
      ·simp at hp
       exact .inl hp
     simpa using this
   | false=>
     refine⟨[(x,p),(y,q)],.refl _,?_,by rw[e];simp[hp]⟩
     unfold plt at hp
     have:slt (x,p) (y,q):=by
      unfold slt
      split at hp
      ·rename_i hxy
       have hxy':y=x:=by omega
       subst hxy'
       have hpq:p≠q:=fun z=>hab (by rw[z])
       refine .inr ⟨rfl,?_⟩
       cases p<;>cases q<;>simp at hp hpq ⊢
      ·rename_i hxy
       simp at hp
       left
       show x < y
       omega
     simpa using this
theorem Yza(k:Kd)(c:Int)(n:Nat)(h0:0 < n)(hn:n<=1000):∃r:Rl,In k n r/\Srt r/\Yeu [kdD k,.int c,.int n]=some (rlD r):=by
 obtain⟨v,hv0,hv⟩:=Yj9 c 1181783497276652981
 have hn0:(0:Int) < n:=by omega
 have hn1:(n:Int) < 1073741824:=by omega
 have hn2:2 * (n:Int) < 1073741824:=by omega
 have hn3:(0:Int) < 2 * n:=by omega
 have hmod:∀x:Int,modI (.int x) (.int (n:Int))=some (.int (x % n)):=fun x=>Yhk hn0
 have hdiv:∀x:Int,divI (.int x) (.int (n:Int))=some (.int (x / n)):=fun x=>Ynf hn0 hn1
 have hdiv2:∀x:Int,divI (.int x) (.int (2 * (n:Int)))=some (.int (x / (2 * n))):=fun x=>Ynf hn3 hn2
 have hmul:mulI (.int 2) (.int (n:Int))=some (.int (2 * n)):=Yne ⟨by decide,by decide⟩
 have hst:Yr 8 [kdD k,.int c,.int n]=[some (.sh (kdD k)),some (.sh (.int c)),some (.sh (.int n)),none,none,none,none,none]:=rfl
 rw[Yeu,Yaw (by rfl),hst]
 by_cases hk:k=.e
 ·subst hk
  generalize hsz:v % 3=size
  have hs0:0<=size:=by omega
  have hs3:size < 3:=by omega
  obtain⟨ρ',e1,l,left,y,hl,hnd,hlt,hlf,rfl⟩:=Yfm (gt:=gSet 6) (fb:=Yci) (fun i:Nat=>D.int (0+(i:Nat))) (fun pre ρ=>∃(l:List Say) (left:Int) (y:Option B),l.length<=pre.length/\l.Nodup/\(∀s∈l,s.1 < n)/\0<=left/\
   ρ=[some (.sh (kdD .e)),some (.sh (.int c)),some (.sh (.int n)),some (.sh (.int left)),some (.sh (.int size)),some (.ow (l.map sayD)),y,none]) (List.range (size - 0).toNat) []
   [some (.sh (kdD .e)),some (.sh (.int c)),some (.sh (.int n)),some (.sh (.int (v / 7))),some (.sh (.int size)),some (.ow []),none,none] ⟨[],v / 7,none,qs _,.nil,by simp,by omega,rfl⟩ (by
    rintro q a r ρ e ⟨l,left,y,hl,hnd,hlt,hlf,rfl⟩
    have hq:q.length < 1000:=by have:=congrArg List.length e;simp at this;omega
    have hcap:l.length < 1000000:=by omega
    obtain⟨b,hb⟩:∃b:Nat,left / 2 % (n:Int)=(b:Int):=⟨(left / 2 % n).toNat,by have:=Int.emod_nonneg (left / 2) (show(n:Int)≠0 by omega);omega⟩
    have hbn:b < n:=by have:=Int.emod_lt_of_pos (left / 2) hn0;omega
    have hsd:D.tup [.int (b:Int),.bl (decide (left % 2=1))]=sayD (b,decide (left % 2=1)):=rfl
    have hin:=Yyw (c:=.lst (l.map sayD)) (b,decide (left % 2=1)) l true rfl
    have hd:0<=left / (2 * (n:Int)):=Int.ediv_nonneg hlf (by omega)
    by_cases hm:(b,decide (left % 2=1))∈l
    ·refine⟨_,_,rfl,?_,l,left / (2 * n),some (.sh (.int (0+(a:Int)))),by simp;omega,hnd,hlt,hd,rfl⟩
     simp[Yci,hmod,hdiv2,hb,hsd,hin,hm,hmul,hn2,hn3]
    ·refine⟨_,_,rfl,?_,l++[(b,decide (left % 2=1))],left / (2 * n),some (.sh (.int (0+(a:Int)))),by simp;omega,?_,?_,hd,rfl⟩
     ·simp[Yci,hmod,hdiv2,hb,hsd,hin,hm,hmul,hn2,hn3,appD,hcap]
     ·rw[List.nodup_append]
      refine⟨hnd,by simp,?_⟩
      intro x hx y hy z
      simp at hy
      subst hy
      exact hm (z ▸ hx)
     ·intro s hs
      rcases qt hs with hs | hs
      ·exact hlt s hs
      ·simp at hs
       subst hs
       exact hbn)
  have hl2:l.length<=2:=by simp at hl;omega
  obtain⟨l',hp,hpw,hs⟩:=Ys2 l hl2 hnd
  refine⟨.ei l',⟨rfl,fun s hs=>hlt s (hp.mem_iff.mp hs)⟩,⟨by rw[hp.length_eq];exact hl2,hpw⟩,?_⟩
  have hr:=Yhm (n:=size) (by omega) (by omega)
  rw[Yhl]at hr
  simp[Yet,hv,hsz,hr]at e1 ⊢
  rw[e1]
  simp[hs,rlD]
 ·generalize hsz:v % 7=size
  have hs0:0<=size:=by omega
  have hs3:size < 7:=by omega
  obtain⟨ρ',e1,l,left,y,hl,hnd,hlt,hlf,rfl⟩:=Yfm (gt:=gSet 6) (fb:=Ycj) (fun i:Nat=>D.int (0+(i:Nat))) (fun pre ρ=>∃(l:List Nat) (left:Int) (y:Option B),l.length<=pre.length/\l.Nodup/\(∀s∈l,s < n)/\0<=left/\
   ρ=[some (.sh (kdD k)),some (.sh (.int c)),some (.sh (.int n)),some (.sh (.int left)),some (.sh (.int size)),none,y,some (.ow (l.map nD))]) (List.range (size - 0).toNat) []
   [some (.sh (kdD k)),some (.sh (.int c)),some (.sh (.int n)),some (.sh (.int (v / 7))),some (.sh (.int size)),none,none,some (.ow [])] ⟨[],v / 7,none,qs _,.nil,by simp,by omega,rfl⟩ (by
    rintro q a r ρ e ⟨l,left,y,hl,hnd,hlt,hlf,rfl⟩
    have hq:q.length < 1000:=by have:=congrArg List.length e;simp at this;omega
    have hcap:l.length < 1000000:=by omega
    obtain⟨b,hb⟩:∃b:Nat,left % (n:Int)=(b:Int):=⟨(left % n).toNat,by have:=Int.emod_nonneg left (show(n:Int)≠0 by omega);omega⟩
    have hbn:b < n:=by have:=Int.emod_lt_of_pos left hn0;omega
    have hin:=in_n (c:=.lst (l.map nD)) b l true rfl
    simp only[nD]at hin
    have hd:0<=left / (n:Int):=Int.ediv_nonneg hlf (by omega)
    by_cases hm:b∈l
    ·refine⟨_,_,rfl,?_,l,left / n,some (.sh (.int (0+(a:Int)))),by simp;omega,hnd,hlt,hd,rfl⟩
     simp[Ycj,hmod,hdiv,hb,hin,hm,nD]
    ·refine⟨_,_,rfl,?_,l++[b],left / n,some (.sh (.int (0+(a:Int)))),by simp;omega,?_,?_,hd,rfl⟩
     ·simp[Ycj,hmod,hdiv,hb,hin,hm,appD,hcap,nD]
     ·rw[List.nodup_append]
      refine⟨hnd,by simp,?_⟩
      intro x hx y hy z
      simp at hy
      subst hy
      exact hm (z ▸ hx)
     ·intro s hs
      rcases qt hs with hs | hs
      ·exact hlt s hs
      ·simp at hs
       subst hs
       exact hbn)
  have hl6:l.length < 64:=by simp at hl;omega
  obtain⟨l',hp,hpw,hs⟩:=Ys1 l hnd hl6
  have hr:=Yhm (n:=size) (by omega) (by omega)
  rw[Yhl]at hr
  have pre:Yet [some (.sh (kdD k)),some (.sh (.int c)),some (.sh (.int n)),none,none,none,none,none]=Yd3 [some (.sh (kdD k)),some (.sh (.int c)),some (.sh (.int n)),some (.sh (.int left)),some (.sh (.int size)),none,y,some (.ow (l.map nD))]:=by
   simp[Yet,hv,hsz,hr,hk,-Yd3]at e1 ⊢
   rw[e1]
   rfl
  clear e1 hr hv
  rw[pre]
  by_cases hks:k=.s
  ·subst hks
   refine⟨.su l' (decide (left % 2=1)),⟨rfl,fun s hs=>hlt s (hp.mem_iff.mp hs)⟩,hpw,?_⟩
   simp[hs,rlD]
  ·have hki:k=.i\/k=.n:=by cases k<;>simp at hk hks ⊢
   obtain⟨b,hb⟩:∃b:Nat,left / 3 % (n:Int)=(b:Int):=⟨(left / 3 % n).toNat,by have:=Int.emod_nonneg (left / 3) (show(n:Int)≠0 by omega);omega⟩
   have hbn:b < n:=by have:=Int.emod_lt_of_pos (left / 3) hn0;omega
   by_cases h3:0 < left % 3
   ·refine⟨.im l' (some b),⟨hki,fun s hs=>hlt s (hp.mem_iff.mp hs),fun x hx=>by cases hx;exact hbn⟩,hpw,?_⟩
    simp[hs,rlD,hks,h3,hb,hmod,optD]
   ·refine⟨.im l' none,⟨hki,fun s hs=>hlt s (hp.mem_iff.mp hs),fun x hx=>by cases hx⟩,hpw,?_⟩
    simp[hs,rlD,hks,h3,hb,hmod,optD]
end Lw
namespace Lw
open PySem L2 M Bk
section
variable {c:D} {ev:List Bool} (hc:Ys c=some (ev.map D.bl))
include hc
theorem Yio{l:List Say}(hl:∀s∈l,s.1 < ev.length):Ybz [rlD (.ei l),c]=some (.bl (l.any fun s=>at' ev s.1==s.2)):=by
 have h:=Yge (fe:=Ybt) (r:=[some (.sh c)]) (enc:=sayD) (fun s=>.bl (at' ev s.1==s.2)) (l:=l) (fun s hs=>by
  simp[Ybt,hc,Ysm (hl s hs)])
 rw[Ybz,Yaw (by rfl)]
 simp[Yey,Yr,capR,h,Function.comp_def]
theorem Ymp{b:List Nat}{o:Bool}(hl:∀x∈b,x < ev.length):Ydm [rlD (.su b o),c]=some (.bl (decide ((b.filter (at' ev)).length % 2=1)==o)):=by
 have h:=Yyr (fc:=Yc5) (fe:=Yc6) (r:=[some (.sh c)]) (enc:=nD) (at' ev) nD (l:=b) (fun s hs=>by
  simp[Yc5,hc,nD,Ysm (hl s hs)]) (fun s _ _=>by simp[Yc6])
 have e:∀n:Nat,decide (((n:Nat):Int) % 2=1)=decide (n % 2=1):=fun n=>by
  by_cases z:n % 2=1
  ·have:((n:Nat):Int) % 2=1:=by omega
   simp[z,this]
  ·have:¬((n:Nat):Int) % 2=1:=by omega
   simp[z,this]
 rw[Ydm,Yaw (by rfl)]
 simp[Yhs,Yr,capR,h,e]
theorem Yi6{b:List Nat}{h:Option Nat}{w:Bool}(hl:∀x∈b,x < ev.length)(hh:∀x,h=some x->x < ev.length):Yer [rlD (.im b h),c,.bl w]=some (.bl ((b.any fun x=>at' ev x != w)||hd ev w h)):=by
 have h1:=Yge (fe:=Ydn) (r:=[some (.sh c),some (.sh (.bl w))]) (enc:=nD) (fun x=>.bl (at' ev x != w)) (l:=b) (fun s hs=>by
  simp[Ydn,hc,nD,Ysm (hl s hs),bne])
 rw[Yer,Yaw (by rfl)]
 cases hb:(b.any fun x=>at' ev x != w)with
 | true=>simp[Yeq,Yr,capR,h1,Function.comp_def,hb]
 | false=>
   cases h with
   | none=>simp[Yeq,Yr,capR,h1,Function.comp_def,hb,optD,hd]
   | some x=>simp[Yeq,Yr,capR,h1,Function.comp_def,hb,optD,hd,hc,Ysm (hh x rfl)]
theorem Yln{k:Kd}{r:Rl}(hr:In k ev.length r):Yc0 [kdD k,rlD r,c]=some (.bl (so k ev r)):=by
 rw[Yc0,Yaw (by rfl)]
 cases r with
 | ei l=>
   obtain⟨rfl,hl⟩:=hr
   simp[Yb4,Yr,Yio hc hl,so]
 | su b o=>
   obtain⟨rfl,hl⟩:=hr
   simp[Yb4,Yr,Ymp hc hl,so]
 | im b h=>
   obtain⟨hk,hl,hh⟩:=hr
   rcases hk with rfl | rfl
   ·simp[Yb4,Yr,Yi6 hc hl hh,so]
   ·simp[Yb4,Yr,Yi6 hc hl hh,so]
end
end Lw
namespace Lw
open PySem L2 M Bk
section
variable {c:D} {ev:List Bool} (hc:Ys c=some (ev.map D.bl))
include hc
theorem Yip{k:Kd}{R:List Rl}(hR:∀r∈R,In k ev.length r):Yb0 [Yac k R,c]=some (.lst ((brk k ev R).map nD)):=by
 have h:=Yys (fc:=Ybu) (fe:=Ybv) (r:=[some (.sh (Yac k R)),some (.sh c)]) (e1:=fun i:Nat=>.int i) (e2:=fun i=>rlD (nth R i)) (fun i=>!so k ev (nth R i)) nD (l:=List.range R.length) (fun i hi=>by
  have hi':=List.mem_range.mp hi
  have hr:=Yln hc (hR (nth R i) (Yvo hi'))
  simp[Ybu,hr]) (fun i _ _=>by simp[Ybv,nD])
 rw[Yb0,Yaw (by rfl)]
 simp[Yez,Yr,capR,Yvp,h,brk]
end
end Lw
namespace Lw
open PySem L2 M Bk
section
variable {c:D} {ev:List Bool} (hc:Ys c=some (ev.map D.bl))
include hc
theorem Yv6{k:Kd}{R:List Rl}(hR:∀r∈R,In k ev.length r):Yj1 [Yac k R,c]=some (.bl (decide (brk k ev R=[]))):=by
 rw[Yj1,Yaw (by rfl)]
 have e:decide (((brk k ev R).length:Int)=0)=decide (brk k ev R=[]):=by
  cases brk k ev R with
  | nil=>rfl
  | cons a l=>simp;omega
 simp[Yq5,Yr,Yip hc hR,e]
end
end Lw
namespace Lw
open PySem L2 M Bk
theorem Ylo{k:Kd}{n:Nat}{r:Rl}(hr:In k n r)(hs:sz r<=999999):Yc1 [kdD k,rlD r]=some (.lst ((bcs r).map nD)):=by
 rw[Yc1,Yaw (by rfl)]
 cases r with
 | ei l=>
   obtain⟨rfl,_⟩:=hr
   have h:=Yge (fe:=Ycp) (r:=[]) (enc:=sayD) (fun s=>nD s.1) (l:=l) (fun s _=>by simp[Ycp])
   simp[Yb5,Yr,capR,h,bcs,Function.comp_def]
 | su b o=>
   obtain⟨rfl,_⟩:=hr
   simp[Yb5,Yr,bcs]
 | im b h=>
   obtain⟨hk,_⟩:=hr
   have hke:¬k=.e:=by rcases hk with rfl | rfl<;>decide
   have hks:¬k=.s:=by rcases hk with rfl | rfl<;>decide
   have hs':b.length+1<=1000000:=by simp[sz]at hs;omega
   cases h with
   | none=>simp[Yb5,Yr,bcs,hke,hks,optD]
   | some x=>simp[Yb5,Yr,bcs,hke,hks,optD,catD,hs']
end Lw
namespace Lw
open PySem L2 M Bk
theorem Yrg(r:Rl):(bcs r).length<=sz r+1:=by
 cases r with
 | ei l=>simp[bcs,sz]
 | su l o=>simp[bcs,sz]
 | im l h=>cases h<;>simp[bcs,sz]
theorem Ygb{k:Kd}{n m:Nat}(hn:n < 64){R:List Rl}(hR:∀r∈R,In k n r/\sz r+1<=m)(hm:R.length * m < 4000):∃l:List Nat,l.Pairwise (· < ·)/\(∀x,x∈l↔∃r∈R,x∈bcs r)/\Yb6 [Yac k R]=some (.lst (l.map nD)):=by
 obtain⟨ρ',e1,f,y,hf,hfl,rfl⟩:=Yfm (gt:=gSet 2) (fb:=Ycq) rlD (fun pre ρ=>∃(f:List Nat) (y:Option B),f=pre.flatMap bcs/\f.length<=pre.length * m/\
  ρ=[some (.sh (Yac k R)),some (.ow (f.map nD)),y]) R [] [some (.sh (Yac k R)),some (.ow []),none] ⟨[],none,rfl,by simp,rfl⟩ (by
  rintro q a r ρ e ⟨f,y,hf,hfl,rfl⟩
  have ha:a∈R:=by rw[List.nil_append]at e;rw[e];simp
  obtain⟨h1,h2⟩:=hR a ha
  have hq:q.length < R.length:=by rw[List.nil_append]at e;rw[e];simp
  have hpos:q.length * m+m<=R.length * m:=by
   have:=Nat.mul_le_mul_right m (show q.length+1<=R.length from hq)
   rw[Nat.add_mul,Nat.one_mul]at this
   exact this
  have hb:=Ylo h1 (by omega)
  have hbl:=Yrg a
  have hcap:f.length+(bcs a).length<=1000000:=by omega
  refine⟨_,_,rfl,?_,f++bcs a,some (.sh (rlD a)),by rw[hf];simp,?_,rfl⟩
  ·simp[Ycq,hb,extD,hcap]
  ·rw[qw,qw,Nat.add_mul]
   simp
   omega)
 rw[List.nil_append]at hf hfl
 obtain⟨l,h1,h2,h3⟩:=Ys0 hn f (fun x hx=>by
  rw[hf]at hx
  obtain⟨r,hr,hx⟩:=List.mem_flatMap.mp hx
  exact Yni (hR r hr).1 x hx) (by omega)
 refine⟨l,h1,fun x=>?_,?_⟩
 ·rw[h2,hf,List.mem_flatMap]
 ·rw[Yb6,Yaw (by rfl)]
  simp[Yga,Yr,e1,h3]
end Lw
namespace Lw
open PySem L2 M Bk
def hnD(b:Bool):D:=.str (Str.ofString (if b then "keeper" else "storm"))
abbrev wtD(k:Kd)(R:List Rl)(H ev:List Bool):D:=watD (Yac k R) (.tup (H.map hnD)) (.lst (ev.map D.bl))
@[simp] theorem fld_b(b h x:D):fldD "Watch" "book" (watD b h x)=some b:=nr rfl
@[simp] theorem fld_h(b h x:D):fldD "Watch" "hands" (watD b h x)=some h:=nr rfl
@[simp] theorem fld_t(b h x:D):fldD "Watch" "truths" (watD b h x)=some x:=nr rfl
theorem Ymq(m:Str)(hm:m∉wks)(fn:List D->Option D)(b h x:D):mthD "Watch" m fn (watD b h x)=fn [watD b h x]:=if_pos ⟨rfl,hm⟩
def Yrh(H ev:List Bool):D:=match H[ev.length]? with
 | some b=>hnD b
 | none=>.non
theorem Yka{H ev:List Bool}(h:ev.length < H.length):Yrh H ev=hnD (H[ev.length]):=by
 unfold Yrh
 rw[qp h]
theorem Ymr{H ev:List Bool}(h:¬ev.length < H.length):Yrh H ev=.non:=by
 unfold Yrh
 rw[List.getElem?_eq_none (by omega)]
theorem Ynr{k:Kd}{R:List Rl}{H ev:List Bool}(h:ev.length<=H.length):Yaa [wtD k R H ev]=some (Yrh H ev):=by
 rw[Yaa,Yaw (by rfl)]
 have hst:Yr 1 [wtD k R H ev]=[some (.sh (wtD k R H ev))]:=rfl
 rw[hst]
 by_cases hl:ev.length=H.length
 ·rw[Ymr (by omega)]
  simp[Yd8,hl]
 ·have hlt:ev.length < H.length:=by omega
  rw[Yka hlt]
  have hi:¬((ev.length:Int)=(H.length:Int)):=by omega
  have hat:atI (H.map hnD) (ev.length:Int)=some (hnD (H[ev.length])):=by
   rw[Yhn,Ygo hlt]
   rfl
  simp[Yd8,hi,hl,hat]
theorem Ylp(k:Kd)(R:List Rl)(H ev:List Bool):Yae [wtD k R H ev]=some (.tup (ev.map D.bl)):=by
 rw[Yae,Yaw (by rfl)]
 have hst:Yr 1 [wtD k R H ev]=[some (.sh (wtD k R H ev))]:=rfl
 rw[hst]
 simp[Yed]
def OkR(k:Kd)(n:Nat)(r:Rl):Prop:=In k n r/\Srt r
def wonO(k:Kd)(R:List Rl)(H ev:List Bool):D:=if ev.length < H.length then .non else .str (Str.ofString (if brk k ev R=[]then "keeper" else "storm"))
theorem Yzb(k:Kd)(R:List Rl)(H ev:List Bool):Ysh (wonO k R H ev)=true:=by
 unfold wonO
 split<;>rfl
theorem Ys3{k:Kd}{R:List Rl}{H ev:List Bool}(h:ev.length<=H.length)(hR:∀r∈R,OkR k H.length r/\sz r<=9999):Yax [wtD k R H ev]=some (wonO k R H ev):=by
 rw[Yax,Yaw (by rfl)]
 have hst:Yr 1 [wtD k R H ev]=[some (.sh (wtD k R H ev))]:=rfl
 rw[hst]
 have ht:=Ynr (k:=k) (R:=R) h
 have hm:=Ymq "turn" (by decide) Yaa (Yac k R) (.tup (H.map hnD)) (.lst (ev.map D.bl))
 rw[ht]at hm
 by_cases hl:ev.length < H.length
 ·rw[Yka hl]at hm
  have hn:isN true (hnD H[ev.length]) .non=some true:=rfl
  simp[Yb2,hm,hn,wonO,hl]
 ·rw[Ymr hl]at hm
  have he:=Yv6 (c:=.lst (ev.map D.bl)) (ev:=ev) rfl (k:=k) (R:=R) (fun r hr=>by rw[show ev.length=H.length by omega];exact(hR r hr).1.1)
  by_cases hb:brk k ev R=[]
  ·simp[Yb2,hm,he,wonO,hl,hb]
  ·simp[Yb2,hm,he,wonO,hl,hb]
end Lw
namespace Lw
open PySem L2 M Bk
section
variable {τ:Type} {f g:Ro->τ->Option (OutW τ)} {ρ ρ':Ro} {t t':τ}
theorem Yc8(h:f ρ t=some (.nx ρ' t')):seqW f g ρ t=g ρ' t':=by
 unfold seqW
 rw[h]
 rfl
theorem Ykb{f:Ro->Option Out}(h:f ρ=some (.nx ρ')):Ygf f ρ t=some (.nx ρ' t):=by
 unfold Ygf
 rw[h]
 rfl
theorem Yri{c:Ro->τ->Option Bool}(h:c ρ t=some false):ifW c f g ρ t=g ρ t:=by
 unfold ifW
 rw[h]
 rfl
theorem Ykc{gt:D->Ro->Option Ro}{fb:Ro->τ->Option (OutW τ)}{α:Type}(enc:α->D)(I:List α->Ro->τ->Prop):∀(l pre:List α) (ρ:Ro) (t:τ),I pre ρ t->
 (∀q a r ρ t,pre++l=q++a::r->I q ρ t->∃ρ1 ρ2 t2,gt (enc a) ρ=some ρ1/\fb ρ1 t=some (.nx ρ2 t2)/\I (q++[a]) ρ2 t2)->∃ρ' t',forW gt fb (l.map enc) ρ t=some (.nx ρ' t')/\I (pre++l) ρ' t'
 | [],pre,ρ,t,h0,_=>⟨ρ,t,rfl,by rw[List.append_nil];exact h0⟩
 | a::l,pre,ρ,t,h0,hs=>by
   obtain⟨ρ1,ρ2,t2,e1,e2,h2⟩:=hs pre a l ρ t rfl h0
   obtain⟨ρ',t',e3,h3⟩:=Ykc enc I l (pre++[a]) ρ2 t2 h2 fun q b r ρ t e hI=>hs q b r ρ t (by rw[<-e,List.append_assoc];rfl) hI
   refine⟨ρ',t',?_,by rw[List.append_assoc]at h3;exact h3⟩
   rw[qz,forW,e1,qc,e2,qc]
   exact e3
end
theorem Yns{l i:Nat}{ρ:Ro}{t:List Bool}{b h:D}(hi:ρ[i]?=some (some (.sh (watD b h (.adr l))))):thw l i ρ t=some (ρ.set i (some (.sh (watD b h (.lst (t.map D.bl)))))):=by
 unfold thw
 rw[hi]
 show(if l=l then some _ else none)=_
 rw[if_pos rfl]
theorem Ys4{k:Kd}{R:List Rl}{H ev:List Bool}(hlt:ev.length < H.length)(hH:H.length<=60)(hR:∀r∈R,OkR k H.length r/\sz r<=9999)(l:Addr)(c:Bool) :
 Yb3 l [some (.sh (watD (Yac k R) (.tup (H.map hnD)) (.adr l))),some (.sh (.bl c))] ev=some (.rt (wonO k R H (ev++[c])) (ev++[c])):=by
 have m1:=Ymq "turn" (by decide) Yaa (Yac k R) (.tup (H.map hnD)) (.lst (ev.map D.bl))
 rw[Ynr (Nat.le_of_lt hlt),Yka hlt]at m1
 have m4:=Ymq "winner" (by decide) Yax (Yac k R) (.tup (H.map hnD)) (.lst ((ev++[c]).map D.bl))
 rw[Ys3 (by rw[qw];exact hlt) hR]at m4
 have sc:=Yzb k R H (ev++[c])
 have hn:isN false (hnD H[ev.length]) .non=some false:=rfl
 have th:∀t:List Bool,thw l 0 [some (.sh (watD (Yac k R) (.tup (H.map hnD)) (.adr l))),some (.sh (.bl c))] t=some [some (.sh (watD (Yac k R) (.tup (H.map hnD)) (.lst (t.map D.bl)))),some (.sh (.bl c))]:=fun t=>Yns rfl
 generalize wonO k R H (ev++[c])=wq at *
 generalize hnD H[ev.length]=tq at *
 unfold Yb3
 rw[Yc8 (ρ':=[some (.sh (watD (Yac k R) (.tup (H.map hnD)) (.adr l))),some (.sh (.bl c))]) (t':=ev),Yc8 (ρ':=[some (.sh (watD (Yac k R) (.tup (H.map hnD)) (.adr l))),some (.sh (.bl c))]) (t':=ev),Yc8 (ρ':=[some (.sh (watD (Yac k R) (.tup (H.map hnD)) (.adr l))),some (.sh (.bl c))]) (t':=ev++[c])]
 ·unfold retL
  rw[th,qc]
  have:b1 (getV 0) (mthD "Watch" "winner" Yax) [some (.sh (watD (Yac k R) (.tup (H.map hnD)) (.lst ((ev++[c]).map D.bl)))),some (.sh (.bl c))]=some wq:=by
   simp only[Yyp,gV0,qc]
   exact m4
  rw[this,qc,if_pos sc]
 ·unfold appW
  have hw:ev.length < 1000000:=by omega
  show(if l=l/\("Watch":Str)="Watch"/\wks=wks/\ev.length < 1000000 then _ else none)=_
  rw[if_pos ⟨rfl,rfl,rfl,hw⟩]
  rfl
 ·refine Ykb ?_
  cases c<;>rfl
 ·rw[Yri]
  ·rfl
  ·unfold Yid
   rw[th,qc]
   have:b1 (getV 0) (mthD "Watch" "turn" Yaa) [some (.sh (watD (Yac k R) (.tup (H.map hnD)) (.lst (ev.map D.bl)))),some (.sh (.bl c))]=some tq:=by
    simp only[Yyp,gV0,qc]
    exact m1
   show(b1 (getV 0) (mthD "Watch" "turn" Yaa) _).bind _=_
   rw[this,qc]
   exact hn
theorem Yh7(b:Bool):Ydc [hnD b]=some (.bl true):=by
 cases b<;>rfl
theorem Ys5{k:Kd}{m:Nat}{R:List Rl}{H:List Bool}(hH:H.length<=60)(hl:R.length * m < 4000)(hR:∀r∈R,OkR k H.length r/\sz r+1<=m){h:D}(hh:h=.lst (H.map hnD)\/h=.tup (H.map hnD)):Ybl [Yac k R,h]=some .non:=by
 rw[Ybl,Yaw (by rfl)]
 have hst:Yr 2 [Yac k R,h]=[some (.sh (Yac k R)),some (.sh h)]:=rfl
 rw[hst]
 obtain⟨l,_,hm,hb⟩:=Ygb (k:=k) (n:=H.length) (m:=m) (R:=R) (by omega) (fun r hr=>⟨(hR r hr).1.1,(hR r hr).2⟩) hl
 have c0:=Yge (fe:=Ycc) (r:=[]) (enc:=hnD) (fun _=>D.bl true) (l:=H) (fun b _=>by
  have:=Yh7 b
  simp[Ycc,this])
 have hi:Ys h=some (H.map hnD):=by rcases hh with rfl | rfl<;>rfl
 have hlen:lenC [h]=some (.int (H.length:Int)):=by rcases hh with rfl | rfl<;>simp
 have c1:=Yge (fe:=Ycd) (r:=[some (.sh h)]) (enc:=nD) (fun _=>D.bl false) (l:=l) (fun b hb=>by
  have:b < H.length:=by
   obtain⟨r,hr,hx⟩:=(hm b).mp hb
   exact Yni (hR r hr).1.1 b hx
  simp[Ycd,hlen,nD]
  omega)
 have g1:¬((60:Int) < (H.length:Int)):=by omega
 have b0:=Yen (fun _:Bool=>true) H
 have b1:=Yen (fun _:Nat=>false) l
 rcases hh with rfl | rfl
 ·simp[Ydo,hlen,g1,capR,c0,c1,hb,hi,b0,b1]
 ·simp[Ydo,hlen,g1,capR,c0,c1,hb,hi,b0,b1]
end Lw
namespace Lw
open PySem L2 M Bk
theorem y0k(r:Rl):plB (rlD r)=true:=by
 have hs:∀l:List Say,plBL (l.map sayD)=true:=fun l=>by
  induction l with
  | nil=>rfl
  | cons a l ih=>rw[qz,plBL,ih];rfl
 have hn:∀l:List Nat,plBL (l.map nD)=true:=fun l=>by
  induction l with
  | nil=>rfl
  | cons a l ih=>rw[qz,plBL,ih];rfl
 cases r with
 | ei l=>exact hs l
 | su l o=>show(plBL (l.map nD)&&(plB (.bl o)&&plBL []))=true;rw[hn];rfl
 | im l h=>show(plBL (l.map nD)&&(plB (optD h)&&plBL []))=true;rw[hn];cases h<;>rfl
theorem Yzc(R:List Rl):plBL (R.map rlD)=true:=by
 induction R with
 | nil=>rfl
 | cons a l ih=>rw[qz,plBL,ih,y0k];rfl
theorem Ys6(k:Kd)(R:List Rl):plB (Yac k R)=true:=by
 show(plB (kdD k)&&(plBL (R.map rlD)&&plBL []))=true
 rw[Yzc]
 rfl
theorem Yzd(H:List Bool):plBL (H.map hnD)=true:=by
 induction H with
 | nil=>rfl
 | cons a l ih=>rw[qz,plBL,ih];rfl
theorem Yze(H:List Bool):plB (.tup (H.map hnD))=true:=Yzd H
theorem Ykd{k:Kd}{n:Nat}{r:Rl}(hr:In k n r)(hs:sz r<=999999):Yck [kdD k,rlD r]=some (.lst ((bcs r).map nD)):=by
 rw[Yck,Yaw (by rfl)]
 cases r with
 | ei l=>
   obtain⟨rfl,_⟩:=hr
   have h:=Yge (fe:=Ycf) (r:=[]) (enc:=sayD) (fun s=>nD s.1) (l:=l) (fun s _=>by simp[Ycf])
   simp[Ybm,Yr,capR,h,bcs,Function.comp_def]
 | su b o=>
   obtain⟨rfl,_⟩:=hr
   simp[Ybm,Yr,bcs]
 | im b h=>
   obtain⟨hk,_⟩:=hr
   have hke:¬k=.e:=by rcases hk with rfl | rfl<;>decide
   have hks:¬k=.s:=by rcases hk with rfl | rfl<;>decide
   have hs':b.length+1<=1000000:=by simp[sz]at hs;omega
   cases h with
   | none=>simp[Ybm,Yr,bcs,hke,hks,optD]
   | some x=>simp[Ybm,Yr,bcs,hke,hks,optD,catD,hs']
theorem Yoo{i:Nat}{is:List Nat}{f1:Ro->Option Out}{f2 f3 a1 a2:Ro->Option D}{g:Addr->Ro->List Bool->Option (OutW (List Bool))}{ρ:Ro}{b h d2 d3:D}(h1:a1 (frz is ρ)=some b)(h2:a2 (frz is ρ)=some h)
 (c1:∀x:Addr,f1 [some (.sh (.adr x)),some (.sh b),some (.sh h)]=some (.nx [some (.sh (.adr x)),some (.sh b),some (.sh h)])) (c2:∀x:Addr,f2 [some (.sh (.adr x)),some (.sh b),some (.sh h)]=some d2/\f3 [some (.sh (.adr x)),some (.sh b),some (.sh h)]=some d3) (p2:plB d2=true) (p3:plB d3=true)
 (c3:∀l,∃t,g l (ρ.set i (some (.sh (watD d2 d3 (.adr l))))) []=some (.rt (.bl true) t)):Yoi i is f1 f2 f3 a1 a2 g ρ=some (.rt (.bl true)):=by
 unfold Yoi
 rw[h1,qc,h2,qc]
 exact Yqj ⟨c1,d2,d3,c2,p2,p3,c3⟩
theorem Ynt{m:Str}(hm:m∉wks){fo:Ro->Option D}{ga:Ro->Option (List D)}{fr:List D->Option Bool}{ρ:Ro}{b h x:D}{l:List D}(h1:fo ρ=some (watD b h x))(h2:ga ρ=some l):xMth "Watch" m fo ga fr ρ=fr (watD b h x::l):=by
 unfold xMth
 rw[h1,qc]
 show(if ("Watch":Str)="Watch"/\m∉wks then (ga ρ).bind fun l=>fr (watD b h x::l)else none)=_
 rw[if_pos ⟨rfl,hm⟩,h2,qc]
theorem y0l{b t:D}(h:Yad [b,t]=some true)(x:Addr):Yb1 [.adr x,b,t]=some true:=by
 unfold Yb1 runX
 simp[Yd7,Ysw,Yr,h]
theorem Ynu{r:Ro->Option Bool}{g:Ro->Option Out}{ρ:Ro}(h:r ρ=some true):tryR r g ρ=g ρ:=by
 unfold tryR
 rw[h,qc,if_pos rfl]
theorem Yi7{r:Ro->Option Bool}{g:Ro->Option Out}{ρ:Ro}(h:r ρ=some false):tryR r g ρ=none:=by
 unfold tryR
 rw[h,qc,if_neg qh]
theorem Yv7{f g:Ro->Option Out}{ρ:Ro}{o:Out}(h:f ρ=some o):orS f g ρ=some o:=by
 unfold orS
 rw[h]
theorem Yop{f g:Ro->Option Out}{ρ:Ro}(h:f ρ=none):orS f g ρ=g ρ:=by
 unfold orS
 rw[h]
theorem Yiq{c a b:Ro->Option Bool}{ρ:Ro}(h:c ρ=some true):xIf c a b ρ=a ρ:=by
 unfold xIf
 rw[h,qc,if_pos rfl]
theorem Yee{c a b:Ro->Option Bool}{ρ:Ro}(h:c ρ=some false):xIf c a b ρ=b ρ:=by
 unfold xIf
 rw[h,qc,if_neg qh]
abbrev knd(a b c d:Bool):D:=.lst [.bl true,.bl a,.bl b,.bl c,.bl d,.bl false]
theorem Yv8{ga:Ro->Option (List D)}{fr:List D->Option Bool}{ρ:Ro}{l:List D}(h1:ga ρ=some l)(h2:∀x:Addr,fr (.adr x::l)=some true):Yq1 ga fr ρ=some true:=by
 unfold Yq1
 rw[h1,qc]
 exact @if_pos _ (Classical.propDecidable _) h2 _ _ _
theorem Yh8{b t w:D}(h:Yad [b,t]=some true):y8 [.int 0,w,b,t]=some (knd true false false false):=by
 rw[y8,Yaw (by rfl)]
 have hst:Yr 8 [.int 0,w,b,t]=[some (.sh (.int 0)),some (.sh w),some (.sh b),some (.sh t),none,none,none,none]:=rfl
 rw[hst,Yct,Ye8]
 simp only[Ybo]
 simp
 rw[Yv7 (o:=.nx [some (.sh (.int 0)),some (.sh w),some (.sh b),some (.sh t),some (.ow [.bl true,.bl true,.bl false,.bl false,.bl false,.bl false]),none,some (.ow [.bl true,.bl false,.bl false,.bl false]),some (.ow [.bl false,.bl false,.bl false,.bl false])])]
 ·simp
 ·rw[Ynu]
  ·rfl
  ·rw[Yiq (by simp)]
   exact Yv8 (l:=[b,t]) (by simp) (y0l h)
theorem Yoq{b h x b' t:D}(hx:y4 [watD b h x,t]=some true):y8 [.int 1,watD b h x,b',t]=some (knd false true false false):=by
 rw[y8,Yaw (by rfl)]
 have hst:Yr 8 [.int 1,watD b h x,b',t]=[some (.sh (.int 1)),some (.sh (watD b h x)),some (.sh b'),some (.sh t),none,none,none,none]:=rfl
 rw[hst,Yct,Ye8]
 simp only[Ybo]
 simp
 rw[Yop (Yi7 (by rw[Yee (by simp),Yiq (by simp)];rfl))]
 rw[Yv7 (o:=.nx [some (.sh (.int 1)),some (.sh (watD b h x)),some (.sh b'),some (.sh t),some (.ow [.bl true,.bl false,.bl true,.bl false,.bl false,.bl false]),none,some (.ow [.bl false,.bl true,.bl false,.bl false]),some (.ow [.bl false,.bl false,.bl false,.bl false])])]
 ·simp
 ·rw[Ynu]
  ·rfl
  ·rw[Yee (by simp),Yiq (by simp),Ynt (b:=b) (h:=h) (x:=x) (l:=[t]) (by decide) (by simp) (by simp)]
   exact hx
theorem Yms{b h x b' t:D}(hy:y4 [watD b h x,t]=some false)(hx:Yaf [watD b h x,t]=some true):y8 [.int 1,watD b h x,b',t]=some (knd false false true false):=by
 rw[y8,Yaw (by rfl)]
 have hst:Yr 8 [.int 1,watD b h x,b',t]=[some (.sh (.int 1)),some (.sh (watD b h x)),some (.sh b'),some (.sh t),none,none,none,none]:=rfl
 rw[hst,Yct,Ye8]
 simp only[Ybo]
 simp
 rw[Yop (Yi7 (by rw[Yee (by simp),Yiq (by simp)];rfl)),Yop (Yi7 (by rw[Yee (by simp),Yiq (by simp),Ynt (b:=b) (h:=h) (x:=x) (l:=[t]) (by decide) (by simp) (by simp)];exact hy))]
 rw[Yv7 (o:=.nx [some (.sh (.int 1)),some (.sh (watD b h x)),some (.sh b'),some (.sh t),some (.ow [.bl true,.bl false,.bl false,.bl true,.bl false,.bl false]),none,some (.ow [.bl false,.bl false,.bl true,.bl false]),some (.ow [.bl false,.bl false,.bl false,.bl false])])]
 ·simp
 ·rw[Ynu]
  ·rfl
  ·rw[Yee (by simp),Yiq (by simp),Ynt (b:=b) (h:=h) (x:=x) (l:=[t]) (by decide) (by simp) (by simp)]
   exact hx
theorem Yor{b h x b' t:D}(hx:Yb7 [watD b h x]=some true):y8 [.int 2,watD b h x,b',t]=some (knd false false false true):=by
 rw[y8,Yaw (by rfl)]
 have hst:Yr 8 [.int 2,watD b h x,b',t]=[some (.sh (.int 2)),some (.sh (watD b h x)),some (.sh b'),some (.sh t),none,none,none,none]:=rfl
 rw[hst,Yct,Ye8]
 simp only[Ybo]
 simp
 rw[Yop (Yi7 (by rw[Yee (by simp),Yee (by simp)];rfl)),Yop (Yi7 (by rw[Yee (by simp),Yee (by simp)];rfl)),Yop (Yi7 (by rw[Yee (by simp),Yee (by simp)];rfl)),Ynu]
 ·simp[Yah]
 ·rw[Yee (by simp),Yee (by simp),Ynt (b:=b) (h:=h) (x:=x) (l:=[]) (by decide) (by simp) rfl]
  exact hx
section
variable {k:Kd} {R:List Rl} {H ev:List Bool} {t:D}
theorem Yv9(h:ev.length=H.length):y4 [wtD k R H ev,t]=some true:=by
 have m1:=Ymq "turn" (by decide) Yaa (Yac k R) (.tup (H.map hnD)) (.lst (ev.map D.bl))
 rw[Ynr (by omega),Ymr (by omega)]at m1
 unfold y4 runX
 have hst:Yr 2 [wtD k R H ev,t]=[some (.sh (wtD k R H ev)),some (.sh t)]:=rfl
 rw[if_pos (by rfl),hst,Ya5,Yiq]
 ·rfl
 ·simp[m1]
theorem Yrj(h:ev.length < H.length):mthD "Watch" "turn" Yaa (wtD k R H ev)=some (hnD (H[ev.length])):=by
 have m1:=Ymq "turn" (by decide) Yaa (Yac k R) (.tup (H.map hnD)) (.lst (ev.map D.bl))
 rw[Ynr (by omega),Yka h]at m1
 exact m1
theorem Yos(h:ev.length < H.length):y4 [wtD k R H ev,t]=some false:=by
 have m1:=Yrj (k:=k) (R:=R) h
 unfold y4 runX
 have hst:Yr 2 [wtD k R H ev,t]=[some (.sh (wtD k R H ev)),some (.sh t)]:=rfl
 have hn:isN false (hnD H[ev.length]) .non=some false:=rfl
 rw[if_pos (by rfl),hst,Ya5,Yee]
 ·by_cases h1:isBl true t=true
  ·rw[Yee (by simp[h1])];rfl
  ·by_cases h2:isBl false t=true
   ·rw[Yee (by simp[h1,h2])];rfl
   ·rw[Yiq (by simp[h1,h2])];rfl
 ·simp[m1,hn]
theorem Ys7(h:ev.length < H.length)(h1:isBl true t=false)(h2:isBl false t=false):Yaf [wtD k R H ev,t]=some true:=by
 have m1:=Yrj (k:=k) (R:=R) h
 unfold Yaf runX
 have hst:Yr 2 [wtD k R H ev,t]=[some (.sh (wtD k R H ev)),some (.sh t)]:=rfl
 have hn:isN false (hnD H[ev.length]) .non=some false:=rfl
 rw[if_pos (by rfl),hst,Ybn,Yee,Yiq]
 ·rfl
 ·simp[h1,h2]
 ·simp[m1,hn]
theorem Ywa:Yb7 [wtD k R H []]=some true:=by
 unfold Yb7 runX
 have hst:Yr 1 [wtD k R H []]=[some (.sh (wtD k R H []))]:=rfl
 rw[if_pos (by rfl),hst,Yfq,Yiq]
 ·rfl
 ·simp
end
theorem Yi8(c:Int):∃d,Yay [.int c]=some d/\isBl true d=false/\isBl false d=false:=by
 have hp:powI (.int 10) (.int 60)=some (.int (10 ^ 60)):=rfl
 have hm:modI (.int (c / 8)) (.int (10 ^ 60))=some (.int (c / 8 % 10 ^ 60)):=by
  have:((10:Int) ^ 60)≠0:=by decide
  simp[modI,i2,this]
 generalize c / 8 % 10 ^ 60=f at *
 generalize (10:Int) ^ 60=T at *
 have e:c % 8=0\/c % 8=1\/c % 8=2\/c % 8=3\/c % 8=4\/c % 8=5\/c % 8=6\/c % 8=7:=by omega
 rw[Yay,Yaw (by rfl)]
 rcases e with e | e | e | e | e | e | e | e
 ·exact⟨.int 0,by simp[Yag,Yr,hp,hm,e]<;>rfl,rfl,rfl⟩
 ·exact⟨.int 1,by simp[Yag,Yr,hp,hm,e]<;>rfl,rfl,rfl⟩
 ·exact⟨.non,by simp[Yag,Yr,hp,hm,e]<;>rfl,rfl,rfl⟩
 ·exact⟨.str "lit",by simp[Yag,Yr,hp,hm,e]<;>rfl,rfl,rfl⟩
 ·exact⟨.str "True",by simp[Yag,Yr,hp,hm,e]<;>rfl,rfl,rfl⟩
 ·exact⟨.int 2,by simp[Yag,Yr,hp,hm,e]<;>rfl,rfl,rfl⟩
 ·exact⟨.int (-1 - f),by simp[Yag,Yr,hp,hm,e]<;>rfl,rfl,rfl⟩
 ·exact⟨.tup [.bl true],by simp[Yag,Yr,hp,hm,e]<;>rfl,rfl,rfl⟩
theorem Yrk{b:D}{L:List D}(h:60 < L.length):Yad [b,.lst L]=some true:=by
 have h':(60:Int) < (L.length:Int):=by omega
 unfold Yad runX
 simp[Ybb,xIf,Yr,h',xYes]
def opH(d:D):Option Bool->D
 | some b=>hnD b
 | none=>d
theorem Ys8{b d:D}{L:List (Option Bool)}(hd:Ydc [d]=some (.bl false))(hL:none∈L):Yad [b,.lst (L.map (opH d))]=some true:=by
 by_cases hl:60 < L.length
 ·exact Yrk (by rw[qe];exact hl)
 have c0:=Yge (fe:=Yam) (r:=[]) (enc:=opH d) (fun a=>D.bl a.isSome) (l:=L) (fun a _=>by
  cases a with
  | none=>simp[Yam,opH,hd]
  | some b=>
    have:=Yh7 b
    simp[Yam,opH,this])
 have b0:=Yen (fun a:Option Bool=>a.isSome) L
 have ha:(L.map fun a:Option Bool=>a.isSome).all id=false:=by
  rw[List.all_eq_false]
  exact⟨false,List.mem_map.mpr ⟨none,hL,rfl⟩,by simp⟩
 have hlen:(L.map (opH d)).length=L.length:=qe _
 have h':¬(60:Int) < (L.length:Int):=by omega
 unfold Yad runX
 generalize L.map (opH d)=LL at *
 generalize hB:(L.map fun a:Option Bool=>D.bl a.isSome)=BB at *
 generalize (L.map fun a:Option Bool=>a.isSome)=CC at *
 simp[Ybb,xIf,Yr,hlen,h',capR,c0,b0,ha,xYes]
theorem Yrl{k:Kd}{n m:Nat}{R:List Rl}{H:List Bool}(hn:n < 64)(hl:R.length * m < 4000)(hR:∀r∈R,In k n r/\sz r+1<=m){r:Rl}(hr:r∈R){x:Nat}(hx:x∈bcs r)(hH:H.length<=x):Yad [Yac k R,.lst (H.map hnD)]=some true:=by
 obtain⟨l,_,hm,hb⟩:=Ygb (k:=k) (n:=n) (m:=m) (R:=R) hn hR hl
 have c0:=Yge (fe:=Yam) (r:=[]) (enc:=hnD) (fun _=>D.bl true) (l:=H) (fun b _=>by
  have:=Yh7 b
  simp[Yam,this])
 have c1:=Yge (fe:=Yce) (r:=[some (.sh (.lst (H.map hnD)))]) (enc:=nD) (fun b=>D.bl (decide (H.length<=b))) (l:=l) (fun b hb=>by
  simp[Yce,nD])
 have b0:=Yen (fun _:Bool=>true) H
 have b1:=Yen (fun b:Nat=>decide (H.length<=b)) l
 have ha:(l.map fun b:Nat=>decide (H.length<=b)).any id=true:=by
  rw[List.any_eq_true]
  exact⟨true,List.mem_map.mpr ⟨x,(hm x).mpr ⟨r,hr,hx⟩,by simp[hH]⟩,rfl⟩
 have hat:(H.map fun _:Bool=>true).all id=true:=by simp
 have hx64:x < 64:=Nat.lt_trans (Yni (hR r hr).1 x hx) hn
 have hlen:(H.map hnD).length=H.length:=qe _
 unfold Yad runX
 by_cases h60:(60:Int) < (H.length:Int)
 ·generalize H.map hnD=HH at *
  simp[Ybb,xIf,Yr,hlen,h60,xYes]
 ·generalize H.map hnD=HH at *
  generalize (H.map fun _:Bool=>D.bl true)=BB at *
  generalize (H.map fun _:Bool=>true)=CC at *
  generalize (l.map fun b:Nat=>D.bl (decide (H.length<=b)))=DD at *
  generalize (l.map fun b:Nat=>decide (H.length<=b))=EE at *
  simp[Ybb,xIf,Yr,hlen,h60,capR,c0,b0,hat,hb,c1,b1,ha,xYes]
theorem Ymt(l:List D)(i:Nat)(h:i<=l.length):cutD l none (some (i:Int))=l.take i:=by
 unfold cutD
 rw[HT.sIx_nat,HT.sIx_none,Nat.min_eq_left h]
 simp
theorem Yrm(l:List D)(i:Nat)(h:i<=l.length):cutD l (some (i:Int)) none=l.drop i:=by
 unfold cutD
 rw[HT.sIx_nat,HT.sIx_none,Nat.min_eq_left h]
 exact List.take_of_length_le (by simp)
theorem Yrn(l:List D)(z:D)(i:Nat)(hl:l.length<=1000):catD (.lst (l.take i)) (.lst [z])=some (l.take i++[z])/\catD (.lst (l.take i++[z])) (.lst (l.drop i))=some (l.take i++z::l.drop i):=by
 have h6:cap6=1000000:=rfl
 refine⟨if_pos ?_,?_⟩
 ·rw[h6];simp;omega
 ·refine(if_pos ?_).trans ?_
  ·rw[h6];simp;omega
  ·simp
theorem y0m(ev:List Bool)(h:ev.length<=1000):Pl (.tup (ev.map D.bl)):=by
 rw[Pl]
 refine⟨by simp;omega,?_⟩
 induction ev with
 | nil=>rw[List.map_nil,PlL];trivial
 | cons b ev ih=>rw[qz,PlL];exact⟨by simp[Pl],ih (by simp at h;omega)⟩
theorem Yzf(ev:List Bool):dep (.tup (ev.map D.bl))<=1:=by
 rw[Yvm]
 have:depL (ev.map D.bl)<=0:=Yjt fun d hd=>by
  obtain⟨x,_,rfl⟩:=qv hd
  exact qs _
 omega
theorem Ywb(x:Int):∃d,atI [D.str "Keeper",D.str "storm ",D.str "",D.non,D.int 0,D.bl true,D.str "k",D.tup [D.str "storm"]] (x % 8)=some d/\Ydc [d]=some (.bl false):=by
 have e:x % 8=0\/x % 8=1\/x % 8=2\/x % 8=3\/x % 8=4\/x % 8=5\/x % 8=6\/x % 8=7:=by omega
 rcases e with e | e | e | e | e | e | e | e<;>rw[e]<;>exact⟨_,rfl,rfl⟩
theorem Ymu{H:List Bool}(h0:0 < H.length)(hH:H.length<=60)(w c:Int)(b:D):∃L:List D,Ybq [.lst (H.map hnD),.int w,.int c]=some (.lst L)/\Yad [b,.lst L]=some true:=by
 rw[Ybq,Yaw (by rfl)]
 have hst:Yr 5 [.lst (H.map hnD),.int w,.int c]=[some (.sh (.lst (H.map hnD))),some (.sh (.int w)),some (.sh (.int c)),none,none]:=rfl
 rw[hst]
 have hlen:(H.map hnD).length=H.length:=qe _
 by_cases hw:w % 2=0
 ·have hcm:=Yge (fe:=Ybp) (r:=[some (.sh (.lst (H.map hnD)))]) (enc:=fun i:Nat=>D.int (0+(i:Int))) (fun i=>hnD (H.getD (i % H.length) false)) (l:=List.range (61+(c % 40).toNat)) (fun i _=>by
   have hi:i % H.length < H.length:=Nat.mod_lt _ h0
   have hat:atI (H.map hnD) ((i:Int) % (H.length:Int))=some (hnD (H.getD (i % H.length) false)):=by
    rw[Yhn,Yyq (j:=i % H.length) (v:=H.getD (i % H.length) false) (by simp[Int.natCast_emod]) (by rw[List.getD_eq_getElem?_getD,qp hi];simp)]
    rfl
   have hmod:modI (.int (i:Int)) (.int (H.length:Int))=some (.int ((i:Int) % (H.length:Int))):=Yhk (by omega)
   generalize hnD (H.getD (i % H.length) false)=v at *
   generalize H.map hnD=HH at *
   simp[Ybp,hlen,hmod,hat])
  have hr:rng1 [.int (61+c % 40)]=some ((List.range (61+(c % 40).toNat)).map fun i:Nat=>D.int (0+(i:Int))):=by
   rw[Yhm (by omega) (by omega),Yhl]
   have:(61+c % 40 - 0).toNat=61+(c % 40).toNat:=by omega
   rw[this]
  refine⟨_,?_,Yrk (L:=(List.range (61+(c % 40).toNat)).map fun i=>hnD (H.getD (i % H.length) false)) (by simp;omega)⟩
  generalize ((List.range (61+(c % 40).toNat)).map fun i=>hnD (H.getD (i % H.length) false))=LL at *
  generalize ((List.range (61+(c % 40).toNat)).map fun i:Nat=>D.int (0+(i:Int)))=RG at *
  generalize H.map hnD=HH at *
  simp[Ycu,hw,hr,capR,hcm]
 ·obtain⟨j,hj⟩:∃j:Nat,c % ((H.length:Int)+1)=(j:Int):=⟨(c % ((H.length:Int)+1)).toNat,by
   have:=Int.emod_nonneg c (show(H.length:Int)+1≠0 by omega)
   omega⟩
  have hjl:j<=H.length:=by
   have:=Int.emod_lt_of_pos c (show(0:Int) < (H.length:Int)+1 by omega)
   omega
  have hmod:modI (.int c) (.int ((H.length:Int)+1))=some (.int (j:Int)):=by rw[Yhk (by omega),hj]
  obtain⟨d,hd,hh⟩:=Ywb (c / 64)
  have x1:=Ymt (H.map hnD) j (by omega)
  have x2:=Yrm (H.map hnD) j (by omega)
  obtain⟨x3,x4⟩:=Yrn (H.map hnD) d j (by omega)
  have x5:(H.map hnD).take j++d::(H.map hnD).drop j=((H.take j).map some++none::(H.drop j).map some).map (opH d):=by
   rw[List.map_append,qz,List.map_map,List.map_map,<-List.map_take,<-List.map_drop]
   rfl
  refine⟨(H.map hnD).take j++d::(H.map hnD).drop j,?_,?_⟩
  ·clear x5
   generalize (H.map hnD).take j=L1 at *
   generalize (H.map hnD).drop j=L2 at *
   generalize H.map hnD=HH at *
   simp[Ycu,hw,hlen,hmod,hd,optI,x1,x2,x3,x4]
  ·rw[x5]
   exact Ys8 hh (List.mem_append.mpr (.inr (.head _)))
def mrI(r:Rl):Int:=((bcs r).map fun x:Nat=>(x:Int)).foldl max (-1)
theorem Ywc(r:Rl):mrI r=-1\/∃x∈bcs r,mrI r=(x:Int):=by
 obtain⟨h1,_⟩:=Yjy (ns:=-1::(bcs r).map fun x:Nat=>(x:Int)) (m:=mrI r) rfl
 rcases qr h1 with h1 | h1
 ·exact .inl h1
 ·obtain⟨x,hx,e⟩:=qv h1
  exact .inr ⟨x,hx,e.symm⟩
theorem y0n{k:Kd}{n:Nat}{R:List Rl}(hl:R.length<=60)(hR:∀r∈R,In k n r/\sz r<=9999):∃(M:Int) (LL:List D),Ye5 (gSet 0) tY Ygr [none,some (.sh (kdD k))] (R.map rlD)=some LL/\catD (.lst [.int (-1)]) (.lst LL)=some (.int (-1)::LL)/\Yk9 [.lst (.int (-1)::LL)]=some (.int M)/\(M=-1\/∃r∈R,∃x∈bcs r,M=(x:Int)):=by
 have h6:cap6=1000000:=rfl
 have hcm:=Yge (fe:=Ygr) (r:=[some (.sh (kdD k))]) (enc:=rlD) (fun r=>D.int (mrI r)) (l:=R) (fun r hr=>by
  have hb:=Ykd (hR r hr).1 (Qb (hR r hr).2 (by omega))
  have hbl:=Yrg r
  have hs:=(hR r hr).2
  have hcat:catD (.lst [.int (-1)]) (.lst ((bcs r).map nD))=some (.int (-1)::(bcs r).map nD):=by
   refine(if_pos ?_).trans rfl
   rw[h6,qe];simp;omega
  have hmx:Yk9 [.lst (.int (-1)::(bcs r).map nD)]=some (.int (mrI r)):=by
   have e:D.int (-1)::(bcs r).map nD=((-1:Int)::(bcs r).map fun x:Nat=>(x:Int)).map fun i:Int=>D.int i:=by
    rw[qz,List.map_map];rfl
   rw[e,Ylb,Yfn (fun i:Int=>i),List.map_id',qc]
   rfl
  generalize (bcs r).map nD=LB at *
  generalize rlD r=RR at *
  generalize kdD k=KK at *
  simp at hmx
  simp[Ygr,hb,hcat,hmx])
 have hmx:Yk9 [.lst (.int (-1)::R.map fun r=>D.int (mrI r))]=some (.int ((R.map mrI).foldl max (-1))):=by
  have e:D.int (-1)::(R.map fun r=>D.int (mrI r))=((-1:Int)::R.map mrI).map fun i:Int=>D.int i:=by
   rw[qz,List.map_map];rfl
  rw[e,Ylb,Yfn (fun i:Int=>i),List.map_id',qc]
  rfl
 refine⟨_,_,hcm,?_,hmx,?_⟩
 ·refine(if_pos ?_).trans rfl
  rw[h6,qe];simp;omega
 ·obtain⟨h1,_⟩:=Yjy (ns:=-1::R.map mrI) (m:=(R.map mrI).foldl max (-1)) rfl
  rcases qr h1 with h1 | h1
  ·exact .inl h1
  ·obtain⟨r,hr,e⟩:=qv h1
   rcases Ywc r with z | ⟨x,hx,z⟩
   ·exact .inl (e.symm.trans z)
   ·exact .inr ⟨r,hr,x,hx,e.symm.trans z⟩
theorem Yro{l:Addr}{ρ:Ro}{t:List Bool}{b h KK:D}{w:Int}{f g:Ro->Option D}{d v:D}(h8:ρ[8]?=some (some (.sh (watD b h (.adr l)))))(h8':getV 8 (ρ.set 8 (some (.sh (watD b h (.lst (t.map D.bl))))))=some (watD b h (.lst (t.map D.bl))))(h4:getV 4 (ρ.set 8 (some (.sh (watD b h (.lst (t.map D.bl))))))=some v)
 (hf:f (ρ.set 8 (some (.sh (watD b h (.lst (t.map D.bl))))))=some d) (hg:g (ρ.set 8 (some (.sh (watD b h (.lst (t.map D.bl))))))=some KK) (hk:y8 [.int w,watD b h (.lst (t.map D.bl)),v,d]=some KK) (he:eqM true KK KK=some false) :
 Yid l 8 (b2 (cC (Yd (kD (.int w)) (Yd (getV 8) (Yd (getV 4) (Yd f aNil)))) y8) g (eqM true)) ρ t=some false:=by
 unfold Yid
 rw[Yns h8,qc]
 generalize ρ.set 8 (some (.sh (watD b h (.lst (t.map D.bl)))))=ρ' at *
 generalize watD b h (.lst (t.map D.bl))=W at *
 simp[h8',h4,hf,hg,hk,he]
theorem Ys9{l:Addr}{ρ:Ro}{t:List Bool}{b h d:D}{c:Bool}{f:Ro->Option D}{g:Addr->Wm}(h8:ρ[8]?=some (some (.sh (watD b h (.adr l)))))(hf:f ρ=some (.bl c))(hg:g l [some (.sh (watD b h (.adr l))),some (.sh (.bl c))] t=some (.rt d (t++[c]))):Yol l 8 f g ρ t=some (.nx ρ (t++[c])):=by
 unfold Yol
 rw[h8]
 show(if l=l/\("Watch":Str)="Watch"/\wks=wks then _ else none)=_
 rw[if_pos ⟨rfl,rfl,rfl⟩,hf]
 show(g l [some (.sh (watD b h (.adr l))),some (.sh (.bl c))] t).bind _=_
 rw[hg]
 show(if t++[c]=t++[c]then _ else none)=_
 rw[if_pos rfl]
theorem Yzg(ev:List Bool)(h:ev.length<=1000)(neg:Bool):eqM neg (.tup (ev.map D.bl)) (.tup (ev.map D.bl))=some (!neg):=by
 have hd:=Yzf ev
 rw[Ynh (by omega) (by omega),Ynj _ (y0m ev h)]
 cases neg<;>rfl
theorem Ynv(a b c d:Bool):eqM true (knd a b c d) (knd a b c d)=some false:=by
 cases a<;>cases b<;>cases c<;>cases d<;>rfl
section
variable (ns:List Int) (k:Kd) (n:Nat) (R:List Rl) (H EV:List Bool) (l:Addr) (y6 y7:Option B)
abbrev roZ(y9 y10 y11:Option B):Ro:=[some (.sh (.scr ns)),some (.sh (kdD k)),some (.sh (.int (n:Int))),some (.sh (.tup (R.map rlD))),some (.sh (Yac k R)),some (.sh (.lst (H.map hnD))),y6,y7,some (.sh (watD (Yac k R) (.tup (H.map hnD)) (.adr l))),y9,y10,y11]
theorem Yzh(hH:H.length<=60)(hE:EV.length=H.length)(hR:∀r∈R,OkR k H.length r/\sz r<=9999)(i:Nat)(hi:i < H.length)(y11:Option B) :
 ∃y11',Ygs l (roZ ns k n R H l y6 y7 (some (.sh (.lst (EV.map D.bl)))) (some (.sh (.int (i:Int)))) y11) (EV.take i)=some (.nx (roZ ns k n R H l y6 y7 (some (.sh (.lst (EV.map D.bl)))) (some (.sh (.int (i:Int)))) y11') (EV.take (i+1))):=by
 have hc:=Yi5 ns (3+i)
 push_cast at hc
 generalize ns.getD (3+i) 0=x at hc
 obtain⟨v,_,hv⟩:=Yj9 x 1865811235122147685
 obtain⟨d,hd,d1,d2⟩:=Yi8 v
 have hiE:i < EV.length:=by omega
 have htl:(EV.take i).length=i:=by rw[List.length_take];omega
 refine⟨some (.sh d),?_⟩
 unfold Ygs
 rw[Yc8 (ρ':=roZ ns k n R H l y6 y7 (some (.sh (.lst (EV.map D.bl)))) (some (.sh (.int (i:Int)))) (some (.sh d))) (t':=EV.take i) (Ykb (by simp[hc,hv,hd]))]
 rw[Yc8 (ρ':=roZ ns k n R H l y6 y7 (some (.sh (.lst (EV.map D.bl)))) (some (.sh (.int (i:Int)))) (some (.sh d))) (t':=EV.take i)]
 ·have hat:atI (EV.map D.bl) (i:Int)=some (.bl EV[i]):=by rw[Yhn,Ygo hiE];rfl
  have htk:EV.take i++[EV[i]]=EV.take (i+1):=by rw[List.take_succ_eq_append_getElem hiE]
  have hset:=Ys4 (k:=k) (R:=R) (H:=H) (ev:=EV.take i) (by omega) hH hR l EV[i]
  rw[Yc8 (Ys9 (c:=EV[i]) rfl (by
   generalize EV.map D.bl=LE at *
   simp[hat]) hset),htk,Yri]
  ·rfl
  ·unfold Yid
   rw[Yns (b:=Yac k R) (h:=.tup (H.map hnD)) rfl,qc]
   have m2:=Ymq "evening" (by decide) Yae (Yac k R) (.tup (H.map hnD)) (.lst ((EV.take (i+1)).map D.bl))
   rw[Ylp]at m2
   have hcut:=Ymt (EV.map D.bl) (i+1) (by rw[qe];omega)
   rw[<-List.map_take]at hcut
   push_cast at hcut
   have heq:=Yzg (EV.take (i+1)) (by rw[List.length_take];omega) true
   generalize (EV.take (i+1)).map D.bl=LT at *
   generalize EV.map D.bl=LE at *
   show b2 _ _ _ [some (.sh (.scr ns)),some (.sh (kdD k)),some (.sh (.int (n:Int))),some (.sh (.tup (R.map rlD))),some (.sh (Yac k R)),some (.sh (.lst (H.map hnD))),y6,y7,some (.sh (watD (Yac k R) (.tup (H.map hnD)) (.lst LT))),some (.sh (.lst LE)),some (.sh (.int (i:Int))),some (.sh d)]=_
   generalize watD (Yac k R) (.tup (H.map hnD)) (.lst LT)=W at *
   simp[m2,optI,hcut,heq]
 ·rw[Yri]
  ·rfl
  ·refine Yro (b:=Yac k R) (h:=.tup (H.map hnD)) (v:=Yac k R) (d:=d) (KK:=knd false false true false) rfl rfl rfl rfl rfl ?_ (Ynv _ _ _ _)
   exact Yms (Yos (by omega)) (Ys7 (by omega) d1 d2)
theorem Yzi(hE:EV.length=H.length)(d:D):Ygt l (roZ ns k n R H l y6 y7 (some (.sh (.lst (EV.map D.bl)))) y10 (some (.sh d))) EV=some (.nx (roZ ns k n R H l y6 y7 (some (.sh (.lst (EV.map D.bl)))) y10 (some (.sh d))) EV):=by
 unfold Ygt
 rw[Yri]
 ·rfl
 ·refine Yro (b:=Yac k R) (h:=.tup (H.map hnD)) (v:=Yac k R) (d:=d) (KK:=knd false true false false) rfl rfl rfl rfl rfl ?_ (Ynv _ _ _ _)
  exact Yoq (Yv9 hE)
theorem Ywd(hn:n=H.length)(hH:H.length<=60)(hR:∀r∈R,OkR k H.length r/\sz r<=9999):∃t,Ymj l (roZ ns k n R H l y6 y7 none none none) []=some (.rt (.bl true) t):=by
 have c4:=Yi5 ns 4
 generalize ns.getD 4 0=x4 at c4
 obtain⟨EV,hEl,hbits⟩:=Ytv x4 n (by omega)
 have hE:EV.length=H.length:=by omega
 obtain⟨d,hd,_,_⟩:=Yi8 x4
 have r1:=Yhm (n:=(n:Int)) (by omega) (by omega)
 rw[Yhl]at r1
 have hn':((n:Int) - 0).toNat=n:=by omega
 rw[hn']at r1
 refine⟨EV,?_⟩
 unfold Ymj
 rw[Yc8 (ρ':=roZ ns k n R H l y6 y7 none none none) (t':=[])]
 ·unfold Yra
  rw[Yc8 (ρ':=roZ ns k n R H l y6 y7 (some (.sh (.lst (EV.map D.bl)))) none none) (t':=[]) (Ykb (by
   simp at c4
   simp[c4,hbits]))]
  unfold Yq9
  obtain⟨ρ',t',e1,y10,y11,rfl,rfl⟩:=Ykc (gt:=gSet 10) (fb:=Ygs l) (fun i:Nat=>D.int (0+(i:Nat))) (fun pre ρ t=>∃y10 y11,t=EV.take pre.length/\ρ=roZ ns k n R H l y6 y7 (some (.sh (.lst (EV.map D.bl)))) y10 y11) (List.range n) [] (roZ ns k n R H l y6 y7 (some (.sh (.lst (EV.map D.bl)))) none none) [] ⟨none,none,rfl,rfl⟩ (by
   rintro q a r ρ t e ⟨y10,y11,rfl,rfl⟩
   rw[List.nil_append]at e
   have hq:q.length=a/\a < n:=by
    have hlt:q.length < n:=by have:=congrArg List.length e;simp at this;omega
    have h1:(List.range n)[q.length]?=some a:=by rw[e];simp
    rw[List.getElem?_range hlt]at h1
    exact⟨Option.some.inj h1,by rw[<-Option.some.inj h1];exact hlt⟩
   obtain⟨rfl,hlt⟩:=hq
   obtain⟨y11',e2⟩:=Yzh ns k n R H EV l y6 y7 hH hE hR q.length (by omega) y11
   refine⟨_,_,_,?_,e2,some (.sh (.int (q.length:Int))),y11',?_,rfl⟩
   ·show some _=some _
    rw[Int.zero_add]
    rfl
   ·rw[qw];rfl)
  rw[Yc8 (f:=Yjv _ _ _) (ρ':=roZ ns k n R H l y6 y7 (some (.sh (.lst (EV.map D.bl)))) y10 y11) (t':=EV.take ([]++List.range n).length)]
  ·have ht:EV.take ([]++List.range n).length=EV:=by
    rw[List.nil_append,List.length_range,<-hEl,List.take_length]
   rw[ht]
   unfold Yq8
   obtain⟨ρ2,t2,e2,y11',rfl,rfl⟩:=Ykc (gt:=gSet 11) (fb:=Ygt l) (fun z:D=>z) (fun _ ρ t=>∃y11',t=EV/\ρ=roZ ns k n R H l y6 y7 (some (.sh (.lst (EV.map D.bl)))) y10 y11') [.bl true,.bl false,d] [] (roZ ns k n R H l y6 y7 (some (.sh (.lst (EV.map D.bl)))) y10 y11) EV ⟨y11,rfl,rfl⟩ (by
    rintro q a r ρ t e ⟨y11',rfl,rfl⟩
    exact⟨_,_,_,rfl,Yzi ns k n R H t l y6 y7 hE a,some (.sh a),rfl,rfl⟩)
   rw[Yc8 (f:=Yjv _ _ _) (ρ':=roZ ns k n R H l y6 y7 (some (.sh (.lst (t2.map D.bl)))) y10 y11') (t':=t2)]
   ·unfold Yq7 retL
    rw[Yns (b:=Yac k R) (h:=.tup (H.map hnD)) rfl,qc]
    have m2:=Ymq "evening" (by decide) Yae (Yac k R) (.tup (H.map hnD)) (.lst (t2.map D.bl))
    rw[Ylp]at m2
    have heq:=Yzg t2 (by omega) false
    have hv:mB (b2 (b1 (getV 8) (mthD "Watch" "evening" Yae)) (cC (Yd (getC 9) aNil) tupC) (eqM false)) [some (.sh (.scr ns)),some (.sh (kdD k)),some (.sh (.int (n:Int))),some (.sh (.tup (R.map rlD))),some (.sh (Yac k R)),some (.sh (.lst (H.map hnD))),y6,y7,some (.sh (watD (Yac k R) (.tup (H.map hnD)) (.lst (t2.map D.bl)))),some (.sh (.lst (t2.map D.bl))),y10,y11']=some (.bl true):=by
     generalize t2.map D.bl=LE at *
     generalize watD (Yac k R) (.tup (H.map hnD)) (.lst LE)=W at *
     simp[m2,heq]
    show(mB (b2 (b1 (getV 8) (mthD "Watch" "evening" Yae)) (cC (Yd (getC 9) aNil) tupC) (eqM false)) [some (.sh (.scr ns)),some (.sh (kdD k)),some (.sh (.int (n:Int))),some (.sh (.tup (R.map rlD))),some (.sh (Yac k R)),some (.sh (.lst (H.map hnD))),y6,y7,some (.sh (watD (Yac k R) (.tup (H.map hnD)) (.lst (t2.map D.bl)))),some (.sh (.lst (t2.map D.bl))),y10,y11']).bind _=_
    rw[hv,qc]
    rfl
   ·unfold Yjv
    have hl3:b1 (lF (dLst (Yd (kD (.bl true)) (Yd (kD (.bl false)) (Yd (cC (Yd (cC (Yd (getV 0) (Yd (kD (.int 4)) aNil)) Yan) aNil) Yay) aNil))))) Ys (roZ ns k n R H l y6 y7 (some (.sh (.lst (t2.map D.bl)))) y10 y11)=some [.bl true,.bl false,d]:=by
     simp at c4
     simp[c4,hd]
    rw[hl3,qc]
    exact e2
  ·unfold Yjv
   have hr:cF (Yd (getV 2) aNil) rng1 (roZ ns k n R H l y6 y7 (some (.sh (.lst (EV.map D.bl)))) none none)=rng1 [.int (n:Int)]:=by simp
   rw[hr,r1,qc]
   exact e1
 ·rw[Yri]
  ·rfl
  ·refine Yro (b:=Yac k R) (h:=.tup (H.map hnD)) (v:=Yac k R) (d:=.non) (KK:=knd false false false true) rfl rfl rfl rfl rfl ?_ (Ynv _ _ _ _)
   exact Yor Ywa
end
theorem law_true(ns:List Int)(hns:ns.length<=63):Ymo [.scr ns]=some (.bl true):=by
 rw[Ymo,Yaw (by rfl)]
 have c0:=Yi5 ns 0
 have c1:=Yi5 ns 1
 have c2:=Yi5 ns 2
 have c3:=Yi5 ns 3
 generalize ns.getD 0 0=x0 at c0
 generalize ns.getD 1 0=x1 at c1
 generalize ns.getD 2 0=x2 at c2
 generalize ns.getD 3 0=x3 at c3
 obtain⟨n,hn⟩:∃n:Nat,1+x0 / 4 % 20=(n:Int):=⟨(1+x0 / 4 % 20).toNat,by omega⟩
 have hn1:1<=n:=by omega
 have hn20:n<=20:=by omega
 obtain⟨k,hk⟩:=Yy9 x0
 obtain⟨v3,_,hv3⟩:=Yj9 x3 2049848353892358983
 have k1:=Yv5 ns 5 63
 generalize hcl:(ns.drop (min 5 ns.length)).take (min 63 ns.length - min 5 ns.length)=cells at k1
 have hcl':cells.length<=58:=by
  rw[<-hcl,List.length_take,List.length_drop]
  omega
 obtain⟨R,hRl,hR,hRc⟩:=drawn (fe:=Yj7) (r:=[some (.sh (kdD k)),some (.sh (.int (n:Int)))]) (P:=fun r=>In k n r/\Srt r) (fun c=>by
  obtain⟨r,hin,hs,hr⟩:=Yza k c n (by omega) (by omega)
  exact⟨r,⟨hin,hs⟩,by simp[Yj7,hr]⟩) cells
 have hz:∀r∈R,sz r<=22:=fun r hr=>by
  have:=y0h (hR r hr).1 (hR r hr).2
  omega
 obtain⟨H,hHl,hbits⟩:=Ytv x1 n (by omega)
 have hh:=Yge (fe:=Ynp) (r:=[]) (enc:=D.bl) hnD (l:=H) (fun b _=>by cases b<;>rfl)
 obtain⟨L,hL,hLx⟩:=Ymu (H:=H) (by omega) (by omega) x2 v3 (Yac k R)
 have hk1:=Yh8 (w:=.non) hLx
 obtain⟨M,LL,t1,t2,t3,hM⟩:=y0n (k:=k) (n:=n) (R:=R) (by omega) (fun r hr=>⟨(hR r hr).1,Qb (hz r hr) (by omega)⟩)
 have hOk:∀r∈R,OkR k H.length r/\sz r<=9999:=fun r hr=>⟨⟨by rw[hHl];exact(hR r hr).1,(hR r hr).2⟩,Qb (hz r hr) (by omega)⟩
 have hck:=Ys5 (k:=k) (m:=23) (R:=R) (H:=H) (by omega) (by omega) (fun r hr=>⟨(hOk r hr).1,by have:=hz r hr;omega⟩) (h:=.lst (H.map hnD)) (.inl rfl)
 have hkn:=Ynv true false false false
 have q9:∀y6 y7,Ymk [some (.sh (.scr ns)),some (.sh (kdD k)),some (.sh (.int (n:Int))),some (.sh (.tup (R.map rlD))),some (.sh (Yac k R)),some (.sh (.lst (H.map hnD))),y6,y7,none,none,none,none]=some (.rt (.bl true)):=fun y6 y7=>by
  unfold Ymk
  refine Yoo (b:=Yac k R) (h:=.lst (H.map hnD)) (d2:=Yac k R) (d3:=.tup (H.map hnD)) rfl rfl (fun x=>?_) (fun x=>⟨rfl,?_⟩) (Ys6 k R) (Yze H) fun l=>?_
  ·unfold Ycr sExp
   show(Ybl [Yac k R,.lst (H.map hnD)]).map _=_
   rw[hck]
   rfl
  ·rfl
  ·exact Ywd ns k n R H l y6 y7 hHl.symm (by omega) hOk
 have q8:∀y6,Yml [some (.sh (.scr ns)),some (.sh (kdD k)),some (.sh (.int (n:Int))),some (.sh (.tup (R.map rlD))),some (.sh (Yac k R)),some (.sh (.lst (H.map hnD))),y6,some (.sh (.int M)),none,none,none,none]=some (.rt (.bl true)):=fun y6=>by
  have h9:=q9 y6 (some (.sh (.int M)))
  rw[Yml,Ye8]
  rcases hM with rfl | ⟨r,hr,x,hx,rfl⟩
  ·generalize R.map rlD=RR at *
   generalize Yac k R=BB at *
   generalize H.map hnD=HH at *
   simp
   exact h9
  ·have hxn:=Yni (hR r hr).1 x hx
   have hcut:=Ymt (H.map hnD) x (by rw[qe];omega)
   rw[<-List.map_take]at hcut
   have hk2:=Yh8 (w:=.non) (Yrl (k:=k) (n:=n) (m:=23) (R:=R) (H:=H.take x) (by omega) (by omega) (fun r hr=>⟨(hR r hr).1,by have:=hz r hr;omega⟩) hr hx (by rw[List.length_take];omega))
   generalize (H.take x).map hnD=HT at *
   generalize R.map rlD=RR at *
   generalize Yac k R=BB at *
   generalize H.map hnD=HH at *
   simp[optI,hcut,hk2,hkn]
   exact h9
 have q7:∀y6,Ymm [some (.sh (.scr ns)),some (.sh (kdD k)),some (.sh (.int (n:Int))),some (.sh (.tup (R.map rlD))),some (.sh (Yac k R)),some (.sh (.lst (H.map hnD))),y6,none,none,none,none,none]=some (.rt (.bl true)):=fun y6=>by
  have h8:=q8 y6
  rw[Ymm,Ye8]
  generalize R.map rlD=RR at *
  generalize Yac k R=BB at *
  generalize H.map hnD=HH at *
  simp at t3
  simp[capR,t1,t2,t3]
  exact h8
 have q6:Ymn [some (.sh (.scr ns)),some (.sh (kdD k)),some (.sh (.int (n:Int))),some (.sh (.tup (R.map rlD))),some (.sh (Yac k R)),some (.sh (.lst (H.map hnD))),some (.sh (.lst L)),none,none,none,none,none]=some (.rt (.bl true)):=by
  have h7:=q7 (some (.sh (.lst L)))
  rw[Ymn,Ye8]
  generalize R.map rlD=RR at *
  generalize Yac k R=BB at *
  generalize H.map hnD=HH at *
  simp[hk1,hkn]
  exact h7
 clear q7 q8 q9 hk1
 have hst:Yr 12 [D.scr ns]=[some (.sh (.scr ns)),none,none,none,none,none,none,none,none,none,none,none]:=rfl
 rw[hst]
 have hbk:D.tup [kdD k,.tup (R.map rlD)]=Yac k R:=rfl
 simp at c0 c1 c2 c3 k1
 generalize Yac k R=BB at *
 generalize H.map hnD=HH at *
 generalize R.map rlD=RR at *
 simp[Yy7,Yrf,Yre,Yrd,Yrc,Yrb,c0,c1,c2,c3,hk,hn,k1,capR,hRc,hbits,hh,hbk,frz,frz1,hv3,hL,q6]
end Lw
end
namespace Op
open PySem PySem.W PyProof.Rows PySem.Calls
set_option maxRecDepth 100000
noncomputable abbrev pg:Program:=PySem.Challenge.pw_duskbook_k39_watches_refused
noncomputable def topm(i j:Nat):Stmt:=L2.inClass (Lw.top i) j
noncomputable abbrev en(P:Params)(x:Str)(t:Nat)(v:Value):DictEntry:=⟨PyData.keyHash P x,.str x t,v⟩
noncomputable abbrev fn(name qual:Str)(s:Stmt)(dV kV doc pm:Value)(an:Option Addr)(cdv ct:Value)(g b:Nat):Data:=.func ⟨name,qual,L2.defArgs s,.stmts (L2.defBody s),L2.defScope s,g,[],dV,kV,doc,pm,an,cdv,ct,b⟩
noncomputable abbrev tu(l:List Value):Obj:=⟨.type "tuple",none,.seq ⟨l⟩ 0,#[]⟩
noncomputable abbrev fl:Obj:=⟨.none,none,.fields #[],#[]⟩
noncomputable abbrev oZ(x:Str)(i:Nat):Obj:=⟨.none,none,fn x x (Lw.top i) .none .none .none .none none .none .none 0 0,#[]⟩
noncomputable abbrev oF(x:Str)(i:Nat)(pm:Value)(c:Nat):Obj:=⟨.type "function",none,.func (fnOf x x (L2.defArgs (Lw.top i)) (L2.defBody (Lw.top i)) (L2.defScope (Lw.top i)) .none .none .none pm none (.ref c) .none),#[]⟩
noncomputable abbrev oM(x q:Str)(i j:Nat)(pm:Value)(c:Nat):Obj:=⟨.type "function",none,.func (fnOf x q (L2.defArgs (L2.inClass (Lw.top i) j)) (L2.defBody (L2.inClass (Lw.top i) j)) (L2.defScope (L2.inClass (Lw.top i) j)) .none .none .none pm none (.ref c) .none),#[]⟩
noncomputable abbrev oC(x:Str)(t l n b:Nat)(u v:Value)(c k e:Nat):Obj:=⟨.type "code",none,.fields #[.str x t,.str x (t+1),.str "/claim/cut.py" (t+2),.int (.ofNat l) 0,.int (.ofNat n) 0,.int 0 0,.int 0 0,.int 3 0,.ref b,.bool true,.int (.ofNat k) 0,.ref (b+1),.none,u,v,.ref c,.int (.ofNat e) 0,.int (.ofNat l) 0,.str "/claim/cut.py" (e+1)],#[]⟩
noncomputable abbrev p0:Value:=(.str "duskbook.books" 335)
noncomputable abbrev p1:Value:=(.str "duskbook.watches" 447)
noncomputable abbrev p2:Value:=(.str "law_duskbook_k39_watches_refused" 540)
noncomputable def et0(P:Params):List DictEntry:=[en P "__doc__" 166 .none,en P "__package__" 167 .none,en P "__loader__" 168 (.builtin "__main__.__loader__#opaque"),en P "__spec__" 169 .none,en P "__annotations__" 170 (.ref 6),en P "__builtins__" 171 (.ref 4),en P "__file__" 173 (.str "/claim/cut.py" 172),en P "__cached__" 174 .none,en P "DuskError" 206 (.ref 24),en P "NoBook" 222 (.ref 37),en P "NoHands" 238 (.ref 49),en P "Over" 254 (.ref 61),en P "NoLight" 270 (.ref 73),en P "NoneSettled" 286 (.ref 85),en P "NoTable" 302 (.ref 97),en P "NoPage" 318 (.ref 109),en P "NoPaper" 334 (.ref 121),en P "BEACON_COUNT" 338 (.int (60) 337),en P "either_holds" 344 (.ref 128),en P "sum_holds" 350 (.ref 133),en P "if_holds" 356 (.ref 138),en P "rule_holds" 365 (.ref 145),en P "broken_rules" 371 (.ref 150),en P "holds" 379 (.ref 157),en P "beacons_in" 385 (.ref 162),en P "beacons_of" 394 (.ref 169),en P "without" 400 (.ref 174),en P "either_left" 406 (.ref 179),en P "sum_left" 417 (.ref 186),en P "if_left" 427 (.ref 193),en P "rule_left" 437 (.ref 200),en P "left_behind" 443 (.ref 205),en P "HANDS" 446 (.ref 206),en P "is_hand" 455 (.ref 213),en P "check_hands" 461 (.ref 218),en P "Watch" 539 (.ref 277),en P "_law_cell" 549 (.ref 288),en P "_law_mixed" 557 (.ref 295),en P "_law_kind" 564 (.ref 302),en P "_law_rule" 578 (.ref 309)]
noncomputable def et1(P:Params):List DictEntry:=[en P "_law_bits" 589 (.ref 316),en P "_law_beacons" 595 (.ref 321),en P "_law_kinds" 609 (.ref 328),en P "_law_bad_hands" 615 (.ref 333),en P "_law_no_light" 622 (.ref 340),en P "law" 628 (.ref 345)]
noncomputable def et(P:Params):List DictEntry:=et0 P++et1 P
noncomputable abbrev ns(P:Params)(x:DictEntry)(n k:Nat):Obj:=⟨.type "dict",none,.dict ⟨x::(et P).take n⟩ k,#[]⟩
noncomputable def ff0:List Value:=[(.int (2) 0),(.int (0) 0),(.ref 20),(.int (4) 0),(.int (0) 0),(.ref 33),(.int (6) 0),(.int (0) 0),(.ref 45),(.int (8) 0),(.int (0) 0),(.ref 57),(.int (10) 0),(.int (0) 0),(.ref 69),(.int (12) 0),(.int (0) 0),(.ref 81),(.int (14) 0),(.int (0) 0),(.ref 93),(.int (16) 0),(.int (0) 0),(.ref 105),(.int (18) 0),(.int (0) 0),(.ref 117),(.int (22) 0),(.int (0) 0),(.ref 127),(.int (24) 0),(.int (0) 0),(.ref 132),(.int (27) 0),(.int (0) 0),(.ref 137),(.int (31) 0),(.int (0) 0),(.ref 144),(.int (37) 0)]
noncomputable def ff1:List Value:=[(.int (0) 0),(.ref 149),(.int (39) 0),(.int (0) 0),(.ref 156),(.int (41) 0),(.int (0) 0),(.ref 161),(.int (47) 0),(.int (0) 0),(.ref 168),(.int (52) 0),(.int (0) 0),(.ref 173),(.int (54) 0),(.int (0) 0),(.ref 178),(.int (58) 0),(.int (0) 0),(.ref 185),(.int (64) 0),(.int (0) 0),(.ref 192),(.int (71) 0),(.int (0) 0),(.ref 199),(.int (79) 0),(.int (0) 0),(.ref 204),(.int (84) 0),(.int (0) 0),(.ref 212),(.int (86) 0),(.int (0) 0),(.ref 217),(.int (93) 0),(.int (0) 0),(.ref 224),(.int (133) 0),(.int (0) 0)]
noncomputable def ff2:List Value:=[(.ref 287),(.int (137) 0),(.int (0) 0),(.ref 294),(.int (139) 0),(.int (0) 0),(.ref 301),(.int (141) 0),(.int (0) 0),(.ref 308),(.int (160) 0),(.int (0) 0),(.ref 315),(.int (167) 0),(.int (0) 0),(.ref 320),(.int (173) 0),(.int (0) 0),(.ref 327),(.int (187) 0),(.int (0) 0),(.ref 332),(.int (193) 0),(.int (0) 0),(.ref 339),(.int (195) 0),(.int (0) 0),(.ref 344)]
noncomputable def ff:List Value:=ff0++ff1++ff2
noncomputable abbrev ft(n:Nat):Obj:=⟨.none,none,.fields ⟨ff.take n⟩,#[]⟩
noncomputable abbrev dF(x:Str)(i l n t b:Nat)(pm:Value)(k:Nat):List Obj:=[tu [],fl,oZ x i,oC x t l n b .none .none (b+2) k (t+3),oF x i pm (b+3)]
noncomputable abbrev dG(x:Str)(i l n t b:Nat)(pm:Value)(k:Nat)(u:List Value):List Obj:=[tu [],fl,tu u,tu [],oZ x i,oC x t l n b (.ref (b+2)) (.ref (b+3)) (b+4) k (t+3+u.length),oF x i pm (b+5)]
noncomputable def al0(P:Params):List Obj:=[boot_o_0 P,boot_o_1 P,boot_o_2 P,ns P (en P "__name__" 165 (.str "law_duskbook_k39_watches_refused" 540)) 46 47,boot_o_4 P,boot_o_5 P,boot_o_6 P,boot_o_7 P,boot_o_8 P,boot_o_9 P,boot_o_10 P,tu [],ft 108,⟨(.type "code"),none,(.fields #[(.str "<module>" 182),(.str "<module>" 183),(.str "/claim/cut.py" 184),(.int (1) 0),(.int (0) 0),(.int (0) 0),(.int (0) 0),(.int (0) 0),(.ref 11),(.bool false),(.int (181) 0),(.ref 12),.none,.none,.none,.none,(.int (185) 0),(.int (1) 0),(.str "/claim/cut.py" 186)]),#[]⟩,⟨(.type "frame"),none,.plain,#[(some (.ref 13)),(some (.ref 3)),(some (.ref 3)),none,(some (.str "__main__" 164)),none,(some (.ref 0))]⟩,tu [(.type "ValueError")],⟨(.type "builtin_function_or_method"),none,(.fields #[(.builtin "type.__prepare__"),(.type "type")]),#[]⟩,⟨(.type "dict"),none,(.dict #[en P "__module__" 196 (.str "duskbook.errors" 187),en P "__qualname__" 198 (.str "DuskError" 197),en P "__firstlineno__" 200 (.int (2) 199),en P "__static_attributes__" 201 (.ref 22)] 4),#[]⟩,tu [],fl,⟨(.type "code"),none,(.fields #[(.str "DuskError" 191),(.str "DuskError" 192),(.str "/claim/cut.py" 193),(.int (2) 0),(.int (0) 0),(.int (0) 0),(.int (0) 0),(.int (0) 0),(.ref 18),(.bool false),(.int (181) 0),(.ref 19),.none,.none,.none,.none,(.int (194) 0),(.int (2) 0),(.str "/claim/cut.py" 195)]),#[]⟩,⟨(.type "frame"),none,.plain,#[(some (.ref 20)),(some (.ref 3)),(some (.ref 17)),none,(some (.str "duskbook.errors" 187)),none,(some (.ref 0))]⟩,tu [],⟨(.type "dict"),none,(.dict #[en P "__module__" 196 (.str "duskbook.errors" 187),en P "__firstlineno__" 200 (.int (2) 199),en P "__static_attributes__" 201 (.ref 22),en P "__weakref__" 203 (.ref 25),en P "__doc__" 204 .none] 3),#[]⟩,⟨(.type "type"),none,(.cls ⟨"DuskError",[(.type "ValueError")],[(.ref 24),(.type "ValueError"),(.type "Exception"),(.type "BaseException"),(.type "object")],23,"DuskError",true,[],[(.ref 37),(.ref 49),(.ref 61),(.ref 73),(.ref 85),(.ref 97),(.ref 109),(.ref 121)],false,none,false⟩),#[(some (.ref 15)),none,(some (.str "DuskError" 189)),(some (.str "DuskError" 197)),(some (.builtin "ValueError.__new__")),(some (.bool true))]⟩,⟨(.type "getset_descriptor"),none,(.fields #[(.str "__weakref__" 202),(.ref 24),(.builtin "ExceptionGroup.__weakref__"),.none]),#[]⟩,⟨(.type "super"),none,(.fields #[(.ref 24),(.ref 24),(.ref 24)]),#[]⟩,⟨(.type "builtin_function_or_method"),none,(.fields #[(.builtin "object.__init_subclass__"),(.ref 24)]),#[]⟩,tu [(.ref 24)],⟨(.type "builtin_function_or_method"),none,(.fields #[(.builtin "type.__prepare__"),(.type "type")]),#[]⟩,⟨(.type "dict"),none,(.dict #[en P "__module__" 214 (.str "duskbook.errors" 187),en P "__qualname__" 216 (.str "NoBook" 215),en P "__firstlineno__" 218 (.int (4) 217),en P "__static_attributes__" 219 (.ref 35)] 4),#[]⟩,tu [],fl,⟨(.type "code"),none,(.fields #[(.str "NoBook" 209),(.str "NoBook" 210),(.str "/claim/cut.py" 211),(.int (4) 0),(.int (0) 0),(.int (0) 0),(.int (0) 0),(.int (0) 0),(.ref 31),(.bool false),(.int (181) 0),(.ref 32),.none,.none,.none,.none,(.int (212) 0),(.int (4) 0),(.str "/claim/cut.py" 213)]),#[]⟩,⟨(.type "frame"),none,.plain,#[(some (.ref 33)),(some (.ref 3)),(some (.ref 30)),none,(some (.str "duskbook.errors" 187)),none,(some (.ref 0))]⟩,tu [],⟨(.type "dict"),none,(.dict #[en P "__module__" 214 (.str "duskbook.errors" 187),en P "__firstlineno__" 218 (.int (4) 217),en P "__static_attributes__" 219 (.ref 35),en P "__doc__" 220 .none] 2),#[]⟩,⟨(.type "type"),none,(.cls ⟨"NoBook",[(.ref 24)],[(.ref 37),(.ref 24),(.type "ValueError"),(.type "Exception"),(.type "BaseException"),(.type "object")],36,"NoBook",true,[],[],false,none,false⟩),#[(some (.ref 28)),none,(some (.str "NoBook" 207)),(some (.str "NoBook" 215)),(some (.builtin "ValueError.__new__")),(some (.bool true))]⟩,⟨(.type "super"),none,(.fields #[(.ref 37),(.ref 37),(.ref 37)]),#[]⟩,⟨(.type "builtin_function_or_method"),none,(.fields #[(.builtin "object.__init_subclass__"),(.ref 37)]),#[]⟩]++([tu [(.ref 24)],⟨(.type "builtin_function_or_method"),none,(.fields #[(.builtin "type.__prepare__"),(.type "type")]),#[]⟩,⟨(.type "dict"),none,(.dict #[en P "__module__" 230 (.str "duskbook.errors" 187),en P "__qualname__" 232 (.str "NoHands" 231),en P "__firstlineno__" 234 (.int (6) 233),en P "__static_attributes__" 235 (.ref 47)] 4),#[]⟩,tu [],fl,⟨(.type "code"),none,(.fields #[(.str "NoHands" 225),(.str "NoHands" 226),(.str "/claim/cut.py" 227),(.int (6) 0),(.int (0) 0),(.int (0) 0),(.int (0) 0),(.int (0) 0),(.ref 43),(.bool false),(.int (181) 0),(.ref 44),.none,.none,.none,.none,(.int (228) 0),(.int (6) 0),(.str "/claim/cut.py" 229)]),#[]⟩,⟨(.type "frame"),none,.plain,#[(some (.ref 45)),(some (.ref 3)),(some (.ref 42)),none,(some (.str "duskbook.errors" 187)),none,(some (.ref 0))]⟩,tu [],⟨(.type "dict"),none,(.dict #[en P "__module__" 230 (.str "duskbook.errors" 187),en P "__firstlineno__" 234 (.int (6) 233),en P "__static_attributes__" 235 (.ref 47),en P "__doc__" 236 .none] 2),#[]⟩,⟨(.type "type"),none,(.cls ⟨"NoHands",[(.ref 24)],[(.ref 49),(.ref 24),(.type "ValueError"),(.type "Exception"),(.type "BaseException"),(.type "object")],48,"NoHands",true,[],[],false,none,false⟩),#[(some (.ref 40)),none,(some (.str "NoHands" 223)),(some (.str "NoHands" 231)),(some (.builtin "ValueError.__new__")),(some (.bool true))]⟩,⟨(.type "super"),none,(.fields #[(.ref 49),(.ref 49),(.ref 49)]),#[]⟩,⟨(.type "builtin_function_or_method"),none,(.fields #[(.builtin "object.__init_subclass__"),(.ref 49)]),#[]⟩,tu [(.ref 24)],⟨(.type "builtin_function_or_method"),none,(.fields #[(.builtin "type.__prepare__"),(.type "type")]),#[]⟩,⟨(.type "dict"),none,(.dict #[en P "__module__" 246 (.str "duskbook.errors" 187),en P "__qualname__" 248 (.str "Over" 247),en P "__firstlineno__" 250 (.int (8) 249),en P "__static_attributes__" 251 (.ref 59)] 4),#[]⟩,tu [],fl,⟨(.type "code"),none,(.fields #[(.str "Over" 241),(.str "Over" 242),(.str "/claim/cut.py" 243),(.int (8) 0),(.int (0) 0),(.int (0) 0),(.int (0) 0),(.int (0) 0),(.ref 55),(.bool false),(.int (181) 0),(.ref 56),.none,.none,.none,.none,(.int (244) 0),(.int (8) 0),(.str "/claim/cut.py" 245)]),#[]⟩,⟨(.type "frame"),none,.plain,#[(some (.ref 57)),(some (.ref 3)),(some (.ref 54)),none,(some (.str "duskbook.errors" 187)),none,(some (.ref 0))]⟩,tu [],⟨(.type "dict"),none,(.dict #[en P "__module__" 246 (.str "duskbook.errors" 187),en P "__firstlineno__" 250 (.int (8) 249),en P "__static_attributes__" 251 (.ref 59),en P "__doc__" 252 .none] 2),#[]⟩,⟨(.type "type"),none,(.cls ⟨"Over",[(.ref 24)],[(.ref 61),(.ref 24),(.type "ValueError"),(.type "Exception"),(.type "BaseException"),(.type "object")],60,"Over",true,[],[],false,none,false⟩),#[(some (.ref 52)),none,(some (.str "Over" 239)),(some (.str "Over" 247)),(some (.builtin "ValueError.__new__")),(some (.bool true))]⟩,⟨(.type "super"),none,(.fields #[(.ref 61),(.ref 61),(.ref 61)]),#[]⟩,⟨(.type "builtin_function_or_method"),none,(.fields #[(.builtin "object.__init_subclass__"),(.ref 61)]),#[]⟩,tu [(.ref 24)],⟨(.type "builtin_function_or_method"),none,(.fields #[(.builtin "type.__prepare__"),(.type "type")]),#[]⟩,⟨(.type "dict"),none,(.dict #[en P "__module__" 262 (.str "duskbook.errors" 187),en P "__qualname__" 264 (.str "NoLight" 263),en P "__firstlineno__" 266 (.int (10) 265),en P "__static_attributes__" 267 (.ref 71)] 4),#[]⟩,tu [],fl,⟨(.type "code"),none,(.fields #[(.str "NoLight" 257),(.str "NoLight" 258),(.str "/claim/cut.py" 259),(.int (10) 0),(.int (0) 0),(.int (0) 0),(.int (0) 0),(.int (0) 0),(.ref 67),(.bool false),(.int (181) 0),(.ref 68),.none,.none,.none,.none,(.int (260) 0),(.int (10) 0),(.str "/claim/cut.py" 261)]),#[]⟩,⟨(.type "frame"),none,.plain,#[(some (.ref 69)),(some (.ref 3)),(some (.ref 66)),none,(some (.str "duskbook.errors" 187)),none,(some (.ref 0))]⟩,tu [],⟨(.type "dict"),none,(.dict #[en P "__module__" 262 (.str "duskbook.errors" 187),en P "__firstlineno__" 266 (.int (10) 265),en P "__static_attributes__" 267 (.ref 71),en P "__doc__" 268 .none] 2),#[]⟩,⟨(.type "type"),none,(.cls ⟨"NoLight",[(.ref 24)],[(.ref 73),(.ref 24),(.type "ValueError"),(.type "Exception"),(.type "BaseException"),(.type "object")],72,"NoLight",true,[],[],false,none,false⟩),#[(some (.ref 64)),none,(some (.str "NoLight" 255)),(some (.str "NoLight" 263)),(some (.builtin "ValueError.__new__")),(some (.bool true))]⟩,⟨(.type "super"),none,(.fields #[(.ref 73),(.ref 73),(.ref 73)]),#[]⟩,⟨(.type "builtin_function_or_method"),none,(.fields #[(.builtin "object.__init_subclass__"),(.ref 73)]),#[]⟩,tu [(.ref 24)],⟨(.type "builtin_function_or_method"),none,(.fields #[(.builtin "type.__prepare__"),(.type "type")]),#[]⟩,⟨(.type "dict"),none,(.dict #[en P "__module__" 278 (.str "duskbook.errors" 187),en P "__qualname__" 280 (.str "NoneSettled" 279),en P "__firstlineno__" 282 (.int (12) 281),en P "__static_attributes__" 283 (.ref 83)] 4),#[]⟩,tu []]++([fl,⟨(.type "code"),none,(.fields #[(.str "NoneSettled" 273),(.str "NoneSettled" 274),(.str "/claim/cut.py" 275),(.int (12) 0),(.int (0) 0),(.int (0) 0),(.int (0) 0),(.int (0) 0),(.ref 79),(.bool false),(.int (181) 0),(.ref 80),.none,.none,.none,.none,(.int (276) 0),(.int (12) 0),(.str "/claim/cut.py" 277)]),#[]⟩,⟨(.type "frame"),none,.plain,#[(some (.ref 81)),(some (.ref 3)),(some (.ref 78)),none,(some (.str "duskbook.errors" 187)),none,(some (.ref 0))]⟩,tu [],⟨(.type "dict"),none,(.dict #[en P "__module__" 278 (.str "duskbook.errors" 187),en P "__firstlineno__" 282 (.int (12) 281),en P "__static_attributes__" 283 (.ref 83),en P "__doc__" 284 .none] 2),#[]⟩,⟨(.type "type"),none,(.cls ⟨"NoneSettled",[(.ref 24)],[(.ref 85),(.ref 24),(.type "ValueError"),(.type "Exception"),(.type "BaseException"),(.type "object")],84,"NoneSettled",true,[],[],false,none,false⟩),#[(some (.ref 76)),none,(some (.str "NoneSettled" 271)),(some (.str "NoneSettled" 279)),(some (.builtin "ValueError.__new__")),(some (.bool true))]⟩,⟨(.type "super"),none,(.fields #[(.ref 85),(.ref 85),(.ref 85)]),#[]⟩,⟨(.type "builtin_function_or_method"),none,(.fields #[(.builtin "object.__init_subclass__"),(.ref 85)]),#[]⟩,tu [(.ref 24)],⟨(.type "builtin_function_or_method"),none,(.fields #[(.builtin "type.__prepare__"),(.type "type")]),#[]⟩,⟨(.type "dict"),none,(.dict #[en P "__module__" 294 (.str "duskbook.errors" 187),en P "__qualname__" 296 (.str "NoTable" 295),en P "__firstlineno__" 298 (.int (14) 297),en P "__static_attributes__" 299 (.ref 95)] 4),#[]⟩,tu [],fl,⟨(.type "code"),none,(.fields #[(.str "NoTable" 289),(.str "NoTable" 290),(.str "/claim/cut.py" 291),(.int (14) 0),(.int (0) 0),(.int (0) 0),(.int (0) 0),(.int (0) 0),(.ref 91),(.bool false),(.int (181) 0),(.ref 92),.none,.none,.none,.none,(.int (292) 0),(.int (14) 0),(.str "/claim/cut.py" 293)]),#[]⟩,⟨(.type "frame"),none,.plain,#[(some (.ref 93)),(some (.ref 3)),(some (.ref 90)),none,(some (.str "duskbook.errors" 187)),none,(some (.ref 0))]⟩,tu [],⟨(.type "dict"),none,(.dict #[en P "__module__" 294 (.str "duskbook.errors" 187),en P "__firstlineno__" 298 (.int (14) 297),en P "__static_attributes__" 299 (.ref 95),en P "__doc__" 300 .none] 2),#[]⟩,⟨(.type "type"),none,(.cls ⟨"NoTable",[(.ref 24)],[(.ref 97),(.ref 24),(.type "ValueError"),(.type "Exception"),(.type "BaseException"),(.type "object")],96,"NoTable",true,[],[],false,none,false⟩),#[(some (.ref 88)),none,(some (.str "NoTable" 287)),(some (.str "NoTable" 295)),(some (.builtin "ValueError.__new__")),(some (.bool true))]⟩,⟨(.type "super"),none,(.fields #[(.ref 97),(.ref 97),(.ref 97)]),#[]⟩,⟨(.type "builtin_function_or_method"),none,(.fields #[(.builtin "object.__init_subclass__"),(.ref 97)]),#[]⟩,tu [(.ref 24)],⟨(.type "builtin_function_or_method"),none,(.fields #[(.builtin "type.__prepare__"),(.type "type")]),#[]⟩,⟨(.type "dict"),none,(.dict #[en P "__module__" 310 (.str "duskbook.errors" 187),en P "__qualname__" 312 (.str "NoPage" 311),en P "__firstlineno__" 314 (.int (16) 313),en P "__static_attributes__" 315 (.ref 107)] 4),#[]⟩,tu [],fl,⟨(.type "code"),none,(.fields #[(.str "NoPage" 305),(.str "NoPage" 306),(.str "/claim/cut.py" 307),(.int (16) 0),(.int (0) 0),(.int (0) 0),(.int (0) 0),(.int (0) 0),(.ref 103),(.bool false),(.int (181) 0),(.ref 104),.none,.none,.none,.none,(.int (308) 0),(.int (16) 0),(.str "/claim/cut.py" 309)]),#[]⟩,⟨(.type "frame"),none,.plain,#[(some (.ref 105)),(some (.ref 3)),(some (.ref 102)),none,(some (.str "duskbook.errors" 187)),none,(some (.ref 0))]⟩,tu [],⟨(.type "dict"),none,(.dict #[en P "__module__" 310 (.str "duskbook.errors" 187),en P "__firstlineno__" 314 (.int (16) 313),en P "__static_attributes__" 315 (.ref 107),en P "__doc__" 316 .none] 2),#[]⟩,⟨(.type "type"),none,(.cls ⟨"NoPage",[(.ref 24)],[(.ref 109),(.ref 24),(.type "ValueError"),(.type "Exception"),(.type "BaseException"),(.type "object")],108,"NoPage",true,[],[],false,none,false⟩),#[(some (.ref 100)),none,(some (.str "NoPage" 303)),(some (.str "NoPage" 311)),(some (.builtin "ValueError.__new__")),(some (.bool true))]⟩,⟨(.type "super"),none,(.fields #[(.ref 109),(.ref 109),(.ref 109)]),#[]⟩,⟨(.type "builtin_function_or_method"),none,(.fields #[(.builtin "object.__init_subclass__"),(.ref 109)]),#[]⟩,tu [(.ref 24)],⟨(.type "builtin_function_or_method"),none,(.fields #[(.builtin "type.__prepare__"),(.type "type")]),#[]⟩,⟨(.type "dict"),none,(.dict #[en P "__module__" 326 (.str "duskbook.errors" 187),en P "__qualname__" 328 (.str "NoPaper" 327),en P "__firstlineno__" 330 (.int (18) 329),en P "__static_attributes__" 331 (.ref 119)] 4),#[]⟩,tu [],fl,⟨(.type "code"),none,(.fields #[(.str "NoPaper" 321),(.str "NoPaper" 322),(.str "/claim/cut.py" 323),(.int (18) 0),(.int (0) 0),(.int (0) 0),(.int (0) 0),(.int (0) 0),(.ref 115),(.bool false),(.int (181) 0),(.ref 116),.none,.none,.none,.none,(.int (324) 0),(.int (18) 0),(.str "/claim/cut.py" 325)]),#[]⟩,⟨(.type "frame"),none,.plain,#[(some (.ref 117)),(some (.ref 3)),(some (.ref 114)),none,(some (.str "duskbook.errors" 187)),none,(some (.ref 0))]⟩,tu []]++([⟨(.type "dict"),none,(.dict #[en P "__module__" 326 (.str "duskbook.errors" 187),en P "__firstlineno__" 330 (.int (18) 329),en P "__static_attributes__" 331 (.ref 119),en P "__doc__" 332 .none] 2),#[]⟩,⟨(.type "type"),none,(.cls ⟨"NoPaper",[(.ref 24)],[(.ref 121),(.ref 24),(.type "ValueError"),(.type "Exception"),(.type "BaseException"),(.type "object")],120,"NoPaper",true,[],[],false,none,false⟩),#[(some (.ref 112)),none,(some (.str "NoPaper" 319)),(some (.str "NoPaper" 327)),(some (.builtin "ValueError.__new__")),(some (.bool true))]⟩,⟨(.type "super"),none,(.fields #[(.ref 121),(.ref 121),(.ref 121)]),#[]⟩,⟨(.type "builtin_function_or_method"),none,(.fields #[(.builtin "object.__init_subclass__"),(.ref 121)]),#[]⟩]++(dF "either_holds" 12 22 2 339 124 p0 181++(dF "sum_holds" 13 24 2 345 129 p0 181++(dF "if_holds" 14 27 3 351 134 p0 181++(dG "rule_holds" 15 31 3 357 139 p0 181 [(.str "kind" 360),(.str "rule" 361),(.str "evening" 362)]++(dF "broken_rules" 16 37 2 366 146 p0 181++(dG "holds" 17 39 2 372 151 p0 181 [(.str "book" 375),(.str "evening" 376)]++(dF "beacons_in" 18 41 2 380 158 p0 181++(dG "beacons_of" 19 47 1 386 163 p0 181 [(.str "book" 389),(.str "found" 390),(.str "rule" 391)]++(dF "without" 20 52 2 395 170 p0 181++(dF "either_left" 21 54 3 401 175 p0 181++(dG "sum_left" 22 58 3 407 180 p0 181 [(.str "rule" 410),(.str "beacon" 411),(.str "lit" 412),(.str "beacons" 413),(.str "odd" 414)]++(dG "if_left" 23 64 3 418 187 p0 181 [(.str "rule" 421),(.str "beacon" 422),(.str "so" 423),(.str "head" 424)]++(dG "rule_left" 24 71 4 428 194 p0 181 [(.str "kind" 431),(.str "rule" 432),(.str "beacon" 433),(.str "lit" 434)]++(dF "left_behind" 25 79 3 438 201 p0 181++([tu [(.str "keeper" 444),(.str "storm" 445)]]++(dG "is_hand" 28 84 1 449 207 p1 181 [(.str "thing" 452)]++(dF "check_hands" 29 86 2 456 214 p1 181++([tu [],⟨(.type "builtin_function_or_method"),none,(.fields #[(.builtin "type.__prepare__"),(.type "type")]),#[]⟩,⟨(.type "dict"),none,(.dict #[en P "__module__" 469 (.str "duskbook.watches" 447),en P "__qualname__" 471 (.str "Watch" 470),en P "__firstlineno__" 473 (.int (93) 472),en P "__init__" 482 (.ref 232),en P "turn" 489 (.ref 239),en P "evening" 496 (.ref 246),en P "left" 506 (.ref 253),en P "winner" 513 (.ref 260),en P "settle" 521 (.ref 267),en P "back" 528 (.ref 274),en P "__static_attributes__" 532 (.ref 275)] 11),#[]⟩,tu [],⟨.none,none,(.fields #[(.int (95) 0),(.int (4) 0),(.ref 231),(.int (101) 0),(.int (4) 0),(.ref 238),(.int (106) 0),(.int (4) 0),(.ref 245),(.int (109) 0),(.int (4) 0),(.ref 252),(.int (115) 0),(.int (4) 0),(.ref 259),(.int (120) 0),(.int (4) 0),(.ref 266),(.int (128) 0),(.int (4) 0),(.ref 273)]),#[]⟩,⟨(.type "code"),none,(.fields #[(.str "Watch" 464),(.str "Watch" 465),(.str "/claim/cut.py" 466),(.int (93) 0),(.int (0) 0),(.int (0) 0),(.int (0) 0),(.int (0) 0),(.ref 222),(.bool false),(.int (181) 0),(.ref 223),.none,.none,.none,.none,(.int (467) 0),(.int (93) 0),(.str "/claim/cut.py" 468)]),#[]⟩,⟨(.type "frame"),none,.plain,#[(some (.ref 224)),(some (.ref 3)),(some (.ref 221)),none,(some (.str "duskbook.watches" 447)),none,(some (.ref 0))]⟩,tu [],fl,tu [(.str "self" 477),(.str "book" 478),(.str "hands" 479)],tu [],⟨.none,none,(fn "__init__" "Watch.__init__" (topm 30 0) .none .none .none .none none .none .none 0 0),#[]⟩,⟨(.type "code"),none,(.fields #[(.str "__init__" 474),(.str "Watch.__init__" 475),(.str "/claim/cut.py" 476),(.int (95) 0),(.int (3) 0),(.int (0) 0),(.int (0) 0),(.int (3) 0),(.ref 226),(.bool true),(.int (181) 0),(.ref 227),.none,(.ref 228),(.ref 229),(.ref 230),(.int (480) 0),(.int (95) 0),(.str "/claim/cut.py" 481)]),#[]⟩,oM "__init__" "Watch.__init__" 30 0 p1 231,tu [],fl,tu [(.str "self" 486)],tu [],⟨.none,none,(fn "turn" "Watch.turn" (topm 30 1) .none .none .none .none none .none .none 0 0),#[]⟩,⟨(.type "code"),none,(.fields #[(.str "turn" 483),(.str "Watch.turn" 484),(.str "/claim/cut.py" 485),(.int (101) 0),(.int (1) 0),(.int (0) 0),(.int (0) 0),(.int (3) 0),(.ref 233),(.bool true),(.int (181) 0),(.ref 234),.none,(.ref 235),(.ref 236),(.ref 237),(.int (487) 0),(.int (101) 0),(.str "/claim/cut.py" 488)]),#[]⟩,oM "turn" "Watch.turn" 30 1 p1 238,tu [],fl,tu [(.str "self" 493)],tu [],⟨.none,none,(fn "evening" "Watch.evening" (topm 30 2) .none .none .none .none none .none .none 0 0),#[]⟩,⟨(.type "code"),none,(.fields #[(.str "evening" 490),(.str "Watch.evening" 491),(.str "/claim/cut.py" 492),(.int (106) 0),(.int (1) 0),(.int (0) 0),(.int (0) 0),(.int (3) 0),(.ref 240),(.bool true),(.int (181) 0),(.ref 241),.none,(.ref 242),(.ref 243),(.ref 244),(.int (494) 0),(.int (106) 0),(.str "/claim/cut.py" 495)]),#[]⟩,oM "evening" "Watch.evening" 30 2 p1 245,tu [],fl,tu [(.str "self" 500),(.str "book" 501),(.str "beacon" 502),(.str "lit" 503)],tu [],⟨.none,none,(fn "left" "Watch.left" (topm 30 3) .none .none .none .none none .none .none 0 0),#[]⟩,⟨(.type "code"),none,(.fields #[(.str "left" 497),(.str "Watch.left" 498),(.str "/claim/cut.py" 499),(.int (109) 0),(.int (1) 0),(.int (0) 0),(.int (0) 0),(.int (3) 0),(.ref 247),(.bool true),(.int (181) 0),(.ref 248),.none,(.ref 249),(.ref 250),(.ref 251),(.int (504) 0),(.int (109) 0),(.str "/claim/cut.py" 505)]),#[]⟩,oM "left" "Watch.left" 30 3 p1 252,tu [],fl,tu [(.str "self" 510)],tu [],⟨.none,none,(fn "winner" "Watch.winner" (topm 30 4) .none .none .none .none none .none .none 0 0),#[]⟩]++([⟨(.type "code"),none,(.fields #[(.str "winner" 507),(.str "Watch.winner" 508),(.str "/claim/cut.py" 509),(.int (115) 0),(.int (1) 0),(.int (0) 0),(.int (0) 0),(.int (3) 0),(.ref 254),(.bool true),(.int (181) 0),(.ref 255),.none,(.ref 256),(.ref 257),(.ref 258),(.int (511) 0),(.int (115) 0),(.str "/claim/cut.py" 512)]),#[]⟩,oM "winner" "Watch.winner" 30 4 p1 259,tu [],fl,tu [(.str "self" 517),(.str "lit" 518)],tu [],⟨.none,none,(fn "settle" "Watch.settle" (topm 30 5) .none .none .none .none none .none .none 0 0),#[]⟩,⟨(.type "code"),none,(.fields #[(.str "settle" 514),(.str "Watch.settle" 515),(.str "/claim/cut.py" 516),(.int (120) 0),(.int (2) 0),(.int (0) 0),(.int (0) 0),(.int (3) 0),(.ref 261),(.bool true),(.int (181) 0),(.ref 262),.none,(.ref 263),(.ref 264),(.ref 265),(.int (519) 0),(.int (120) 0),(.str "/claim/cut.py" 520)]),#[]⟩,oM "settle" "Watch.settle" 30 5 p1 266,tu [],fl,tu [(.str "self" 525)],tu [],⟨.none,none,(fn "back" "Watch.back" (topm 30 6) .none .none .none .none none .none .none 0 0),#[]⟩,⟨(.type "code"),none,(.fields #[(.str "back" 522),(.str "Watch.back" 523),(.str "/claim/cut.py" 524),(.int (128) 0),(.int (1) 0),(.int (0) 0),(.int (0) 0),(.int (3) 0),(.ref 268),(.bool true),(.int (181) 0),(.ref 269),.none,(.ref 270),(.ref 271),(.ref 272),(.int (526) 0),(.int (128) 0),(.str "/claim/cut.py" 527)]),#[]⟩,oM "back" "Watch.back" 30 6 p1 273,tu [(.str "book" 529),(.str "hands" 530),(.str "truths" 531)],⟨(.type "dict"),none,(.dict #[en P "__module__" 469 (.str "duskbook.watches" 447),en P "__firstlineno__" 473 (.int (93) 472),en P "__init__" 482 (.ref 232),en P "turn" 489 (.ref 239),en P "evening" 496 (.ref 246),en P "left" 506 (.ref 253),en P "winner" 513 (.ref 260),en P "settle" 521 (.ref 267),en P "back" 528 (.ref 274),en P "__static_attributes__" 532 (.ref 275),en P "__dict__" 534 (.ref 278),en P "__weakref__" 536 (.ref 279),en P "__doc__" 537 .none] 4),#[]⟩,⟨(.type "type"),none,(.cls ⟨"Watch",[(.type "object")],[(.ref 277),(.type "object")],276,"Watch",true,[],[],false,none,false⟩),#[none,none,(some (.str "Watch" 462)),(some (.str "Watch" 470)),(some (.builtin "object.__new__")),(some (.bool true))]⟩,⟨(.type "getset_descriptor"),none,(.fields #[(.str "__dict__" 533),(.ref 277),(.builtin "function.__dict__"),(.builtin "function.__dict__#set")]),#[]⟩,⟨(.type "getset_descriptor"),none,(.fields #[(.str "__weakref__" 535),(.ref 277),(.builtin "ExceptionGroup.__weakref__"),.none]),#[]⟩,⟨(.type "super"),none,(.fields #[(.ref 277),(.ref 277),(.ref 277)]),#[]⟩,⟨(.type "builtin_function_or_method"),none,(.fields #[(.builtin "object.__init_subclass__"),(.ref 277)]),#[]⟩]++(dG "_law_cell" 32 133 2 542 282 p2 181 [(.str "script" 545),(.str "k" 546)]++(dG "_law_mixed" 33 137 2 550 289 p2 181 [(.str "cell" 553),(.str "by" 554)]))))))))))))))))))))))))
noncomputable def al1(P:Params):List Obj:=dG "_law_kind" 34 139 1 558 296 p2 181 [(.str "cell" 561)]++(dG "_law_rule" 35 141 3 565 303 p2 181 [(.str "kind" 568),(.str "cell" 569),(.str "many" 570),(.str "left" 571),(.str "size" 572),(.str "sayings" 573),(.str "k" 574),(.str "body" 575)]++(dG "_law_bits" 36 160 2 579 310 p2 181 [(.str "cell" 582),(.str "many" 583),(.str "left" 584),(.str "bits" 585),(.str "k" 586)]++(dF "_law_beacons" 37 167 2 590 317 p2 181++(dG "_law_kinds" 38 173 4 596 322 p2 181 [(.str "way" 599),(.str "watch" 600),(.str "book" 601),(.str "thing" 602),(.str "kinds" 603),(.str "e" 604),(.str "some" 605),(.str "more" 606)]++(dF "_law_bad_hands" 39 187 3 610 329 p2 181++(dG "_law_no_light" 40 193 1 616 334 p2 181 [(.str "cell" 619)]++(dF "law" 41 195 1 623 341 p2 181)))))))
noncomputable def al(P:Params):List Obj:=al0 P++al1 P
noncomputable def upd(l:List (Nat × Obj))(xs:List Obj):List Obj:=l.foldl (fun xs p=>xs.set p.1 p.2) xs
noncomputable def ev:List Obj->List Obj
 | []=>[]
 | [x]=>[x]
 | x::_::r=>x::ev r
noncomputable def bt:Nat->List Obj->BT
 | 0,_=>.nil
 | _+1,[]=>.nil
 | n+1,x::xs=>.node x (bt n (ev xs)) (bt n (ev xs.tail))
noncomputable abbrev bd:List Stmt:=behindTheImports pg
noncomputable abbrev sl(i n:Nat):List Stmt:=(bd.drop i).take n
noncomputable abbrev env:Env:={ scope:=pg.main.scope,locals:=mainNs,globals:=mainNs,cells:=[],code:=(.ref 13),frame:=some 14 }
noncomputable abbrev cE:Code:=.body bd env
noncomputable abbrev B:List Frame:=[topFrame ⟨0,0,0,0⟩]
noncomputable abbrev ss(n:Nat)(l:Params->List (Nat × Obj))(t:Nat)(w:World)(os:OsState):SharedT:=⟨bt 12 (upd (l w.params) ((al w.params).take n)),n,{},.mk [],boot_drawn,t,os⟩
noncomputable def h0(P:Params):Heap:=⟨⟨upd [(3,boot_o_3 P),(12,fl)] ((al P).take 15)⟩,{}⟩
noncomputable abbrev s0(w:World)(os:OsState):Shared:=⟨h0 w.params,.mk [],boot_drawn,187,os⟩
noncomputable abbrev s1:World->OsState->SharedT:=ss 15 (fun P=>[(3,boot_o_3 P),(12,fl)]) 187
noncomputable abbrev s2:World->OsState->SharedT:=ss 28 (fun P=>[(3,ns P (en P "__name__" 165 (.str "duskbook.errors" 187)) 9 10),(12,ft 3),(24,⟨(.type "type"),none,(.cls ⟨"DuskError",[(.type "ValueError")],[(.ref 24),(.type "ValueError"),(.type "Exception"),(.type "BaseException"),(.type "object")],23,"DuskError",true,[],[],false,none,false⟩),#[(some (.ref 15)),none,(some (.str "DuskError" 189)),(some (.str "DuskError" 197)),(some (.builtin "ValueError.__new__")),(some (.bool true))]⟩)]) 207
noncomputable abbrev s3:World->OsState->SharedT:=ss 40 (fun P=>[(3,ns P (en P "__name__" 165 (.str "duskbook.errors" 187)) 10 11),(12,ft 6),(24,⟨(.type "type"),none,(.cls ⟨"DuskError",[(.type "ValueError")],[(.ref 24),(.type "ValueError"),(.type "Exception"),(.type "BaseException"),(.type "object")],23,"DuskError",true,[],[(.ref 37)],false,none,false⟩),#[(some (.ref 15)),none,(some (.str "DuskError" 189)),(some (.str "DuskError" 197)),(some (.builtin "ValueError.__new__")),(some (.bool true))]⟩)]) 223
noncomputable abbrev s4:World->OsState->SharedT:=ss 52 (fun P=>[(3,ns P (en P "__name__" 165 (.str "duskbook.errors" 187)) 11 12),(12,ft 9),(24,⟨(.type "type"),none,(.cls ⟨"DuskError",[(.type "ValueError")],[(.ref 24),(.type "ValueError"),(.type "Exception"),(.type "BaseException"),(.type "object")],23,"DuskError",true,[],[(.ref 37),(.ref 49)],false,none,false⟩),#[(some (.ref 15)),none,(some (.str "DuskError" 189)),(some (.str "DuskError" 197)),(some (.builtin "ValueError.__new__")),(some (.bool true))]⟩)]) 239
noncomputable abbrev s5:World->OsState->SharedT:=ss 64 (fun P=>[(3,ns P (en P "__name__" 165 (.str "duskbook.errors" 187)) 12 13),(12,ft 12),(24,⟨(.type "type"),none,(.cls ⟨"DuskError",[(.type "ValueError")],[(.ref 24),(.type "ValueError"),(.type "Exception"),(.type "BaseException"),(.type "object")],23,"DuskError",true,[],[(.ref 37),(.ref 49),(.ref 61)],false,none,false⟩),#[(some (.ref 15)),none,(some (.str "DuskError" 189)),(some (.str "DuskError" 197)),(some (.builtin "ValueError.__new__")),(some (.bool true))]⟩)]) 255
noncomputable abbrev s6:World->OsState->SharedT:=ss 76 (fun P=>[(3,ns P (en P "__name__" 165 (.str "duskbook.errors" 187)) 13 14),(12,ft 15),(24,⟨(.type "type"),none,(.cls ⟨"DuskError",[(.type "ValueError")],[(.ref 24),(.type "ValueError"),(.type "Exception"),(.type "BaseException"),(.type "object")],23,"DuskError",true,[],[(.ref 37),(.ref 49),(.ref 61),(.ref 73)],false,none,false⟩),#[(some (.ref 15)),none,(some (.str "DuskError" 189)),(some (.str "DuskError" 197)),(some (.builtin "ValueError.__new__")),(some (.bool true))]⟩)]) 271
noncomputable abbrev s7:World->OsState->SharedT:=ss 88 (fun P=>[(3,ns P (en P "__name__" 165 (.str "duskbook.errors" 187)) 14 15),(12,ft 18),(24,⟨(.type "type"),none,(.cls ⟨"DuskError",[(.type "ValueError")],[(.ref 24),(.type "ValueError"),(.type "Exception"),(.type "BaseException"),(.type "object")],23,"DuskError",true,[],[(.ref 37),(.ref 49),(.ref 61),(.ref 73),(.ref 85)],false,none,false⟩),#[(some (.ref 15)),none,(some (.str "DuskError" 189)),(some (.str "DuskError" 197)),(some (.builtin "ValueError.__new__")),(some (.bool true))]⟩)]) 287
noncomputable abbrev s8:World->OsState->SharedT:=ss 100 (fun P=>[(3,ns P (en P "__name__" 165 (.str "duskbook.errors" 187)) 15 16),(12,ft 21),(24,⟨(.type "type"),none,(.cls ⟨"DuskError",[(.type "ValueError")],[(.ref 24),(.type "ValueError"),(.type "Exception"),(.type "BaseException"),(.type "object")],23,"DuskError",true,[],[(.ref 37),(.ref 49),(.ref 61),(.ref 73),(.ref 85),(.ref 97)],false,none,false⟩),#[(some (.ref 15)),none,(some (.str "DuskError" 189)),(some (.str "DuskError" 197)),(some (.builtin "ValueError.__new__")),(some (.bool true))]⟩)]) 303
noncomputable abbrev s9:World->OsState->SharedT:=ss 112 (fun P=>[(3,ns P (en P "__name__" 165 (.str "duskbook.errors" 187)) 16 17),(12,ft 24),(24,⟨(.type "type"),none,(.cls ⟨"DuskError",[(.type "ValueError")],[(.ref 24),(.type "ValueError"),(.type "Exception"),(.type "BaseException"),(.type "object")],23,"DuskError",true,[],[(.ref 37),(.ref 49),(.ref 61),(.ref 73),(.ref 85),(.ref 97),(.ref 109)],false,none,false⟩),#[(some (.ref 15)),none,(some (.str "DuskError" 189)),(some (.str "DuskError" 197)),(some (.builtin "ValueError.__new__")),(some (.bool true))]⟩)]) 319
noncomputable abbrev s10:World->OsState->SharedT:=ss 158 (fun P=>[(3,ns P (en P "__name__" 165 (.str "duskbook.books" 335)) 24 25),(12,ft 45)]) 380
noncomputable abbrev s11:World->OsState->SharedT:=ss 219 (fun P=>[(3,ns P (en P "__name__" 165 (.str "duskbook.watches" 447)) 35 36),(12,ft 75)]) 462
noncomputable abbrev s12:World->OsState->SharedT:=ss 282 (fun P=>[(3,ns P (en P "__name__" 165 (.str "duskbook.watches" 447)) 36 37),(12,ft 78)]) 540
noncomputable abbrev s13:World->OsState->SharedT:=ss 346 (fun P=>[]) 629
noncomputable def h14(P:Params):Heap:=⟨⟨upd [] ((al P).take 346)⟩,{}⟩
noncomputable abbrev s14(w:World)(os:OsState):Shared:=⟨h14 w.params,.mk [],boot_drawn,629,os⟩
noncomputable abbrev sz(w:World)(os:OsState):Shared:=⟨boot_heap w.params,.mk [],boot_drawn,boot_toks,os⟩
theorem e0:∀w:World,(fun os=>topGo treeTable pg w 11 (some (.ref 6)) 12 (sz w os) (topStub pg))=fun os=>some (s0 w os,⟨denote treeTable cE,cE,⟨0,0,0,0⟩,B⟩):=by
 rw[W.Fast.te15667345088766844465,W.Fast.te14364793385576792824,W.Fast.te11892475500146522536];intro w;kernel_rfl
theorem e1:∀w:World,(fun os=>segRun treeTable pg w 11 (some (.ref 6)) 1 1 (s0 w os) (blockOf bd env cE ⟨0,0,0,0⟩ B))=fun os=>some (.next,(s1 w os).abs,cE,⟨0,0,0,0⟩):=by
 rw[W.Fast.te14374325043358763698,W.Fast.te14364793385576792824];intro w;kernel_rfl
theorem e2:∀w:World,(fun os=>segRunT treeTable pg w 11 (some (.ref 6)) 1 196 (s1 w os) (piecesOf (sl 0 2) env cE ⟨0,0,0,0⟩ B))=fun os=>some (.next,s2 w os,cE,⟨2,0,3,8⟩):=by
 rw[W.Fast.te10110043849684766642,W.Fast.te14364793385576792824];intro w;kernel_rfl
theorem e3:∀w:World,(fun os=>segRunT treeTable pg w 11 (some (.ref 6)) 1 214 (s2 w os) (piecesOf (sl 2 1) env cE ⟨2,0,3,8⟩ B))=fun os=>some (.next,s3 w os,cE,⟨4,0,5,8⟩):=by
 rw[W.Fast.te10110043849684766642,W.Fast.te14364793385576792824];intro w;kernel_rfl
theorem e4:∀w:World,(fun os=>segRunT treeTable pg w 11 (some (.ref 6)) 1 214 (s3 w os) (piecesOf (sl 3 1) env cE ⟨4,0,5,8⟩ B))=fun os=>some (.next,s4 w os,cE,⟨6,0,7,8⟩):=by
 rw[W.Fast.te10110043849684766642,W.Fast.te14364793385576792824];intro w;kernel_rfl
theorem e5:∀w:World,(fun os=>segRunT treeTable pg w 11 (some (.ref 6)) 1 214 (s4 w os) (piecesOf (sl 4 1) env cE ⟨6,0,7,8⟩ B))=fun os=>some (.next,s5 w os,cE,⟨8,0,9,8⟩):=by
 rw[W.Fast.te10110043849684766642,W.Fast.te14364793385576792824];intro w;kernel_rfl
theorem e6:∀w:World,(fun os=>segRunT treeTable pg w 11 (some (.ref 6)) 1 214 (s5 w os) (piecesOf (sl 5 1) env cE ⟨8,0,9,8⟩ B))=fun os=>some (.next,s6 w os,cE,⟨10,0,11,8⟩):=by
 rw[W.Fast.te10110043849684766642,W.Fast.te14364793385576792824];intro w;kernel_rfl
theorem e7:∀w:World,(fun os=>segRunT treeTable pg w 11 (some (.ref 6)) 1 214 (s6 w os) (piecesOf (sl 6 1) env cE ⟨10,0,11,8⟩ B))=fun os=>some (.next,s7 w os,cE,⟨12,0,13,8⟩):=by
 rw[W.Fast.te10110043849684766642,W.Fast.te14364793385576792824];intro w;kernel_rfl
theorem e8:∀w:World,(fun os=>segRunT treeTable pg w 11 (some (.ref 6)) 1 214 (s7 w os) (piecesOf (sl 7 1) env cE ⟨12,0,13,8⟩ B))=fun os=>some (.next,s8 w os,cE,⟨14,0,15,8⟩):=by
 rw[W.Fast.te10110043849684766642,W.Fast.te14364793385576792824];intro w;kernel_rfl
theorem e9:∀w:World,(fun os=>segRunT treeTable pg w 11 (some (.ref 6)) 1 214 (s8 w os) (piecesOf (sl 8 1) env cE ⟨14,0,15,8⟩ B))=fun os=>some (.next,s9 w os,cE,⟨16,0,17,8⟩):=by
 rw[W.Fast.te10110043849684766642,W.Fast.te14364793385576792824];intro w;kernel_rfl
theorem e10:∀w:World,(fun os=>segRunT treeTable pg w 11 (some (.ref 6)) 1 397 (s9 w os) (piecesOf (sl 9 9) env cE ⟨16,0,17,8⟩ B))=fun os=>some (.next,s10 w os,cE,⟨39,0,40,48⟩):=by
 rw[W.Fast.te10110043849684766642,W.Fast.te14364793385576792824];intro w;kernel_rfl
theorem e11:∀w:World,(fun os=>segRunT treeTable pg w 11 (some (.ref 6)) 1 309 (s10 w os) (piecesOf (sl 18 12) env cE ⟨39,0,40,48⟩ B))=fun os=>some (.next,s11 w os,cE,⟨86,0,92,69⟩):=by
 rw[W.Fast.te10110043849684766642,W.Fast.te14364793385576792824];intro w;kernel_rfl
theorem e12:∀w:World,(fun os=>segRunT treeTable pg w 11 (some (.ref 6)) 1 416 (s11 w os) (piecesOf (sl 30 1) env cE ⟨86,0,92,69⟩ B))=fun os=>some (.next,s12 w os,cE,⟨93,0,131,32⟩):=by
 rw[W.Fast.te10110043849684766642,W.Fast.te14364793385576792824];intro w;kernel_rfl
theorem e13:∀w:World,(fun os=>segRunT treeTable pg w 11 (some (.ref 6)) 1 311 (s12 w os) (piecesOf (sl 31 11) env cE ⟨93,0,131,32⟩ B))=fun os=>some (.next,s13 w os,cE,⟨195,0,221,44⟩):=by
 rw[W.Fast.te10110043849684766642,W.Fast.te14364793385576792824];intro w;kernel_rfl
theorem e14:∀w:World,(fun os=>topRun treeTable pg w 11 (some (.ref 6)) 2 (s13 w os).abs ⟨doneF .next,cE,⟨195,0,221,44⟩,B⟩)=fun os=>some (s14 w os):=by
 rw[W.Fast.te14082659384304107361,W.Fast.te14364793385576792824];intro w;kernel_rfl
noncomputable abbrev m14:Nat:=2
noncomputable abbrev t14:List Stmt:=[]
noncomputable abbrev R(w:World)(os:OsState)(m:Nat)(s:Shared)(t:List Stmt)(p:Pos):Prop:=topRun treeTable pg w 11 (some (.ref 6)) m s (restOf t env cE p B)=some (s14 w os)
theorem r14(w:World)(os:OsState):R w os m14 (s13 w os).abs t14 ⟨195,0,221,44⟩:=congrFun (e14 w) os
noncomputable abbrev m13:Nat:=311+m14
noncomputable abbrev t13:List Stmt:=sl 31 11++t14
theorem r13(w:World)(os:OsState):R w os m13 (s12 w os).abs t13 ⟨93,0,131,32⟩:=piece_app (segRun_of (congrFun (e13 w) os)) (r14 w os)
noncomputable abbrev m12:Nat:=416+m13
noncomputable abbrev t12:List Stmt:=sl 30 1++t13
theorem r12(w:World)(os:OsState):R w os m12 (s11 w os).abs t12 ⟨86,0,92,69⟩:=piece_app (segRun_of (congrFun (e12 w) os)) (r13 w os)
noncomputable abbrev m11:Nat:=309+m12
noncomputable abbrev t11:List Stmt:=sl 18 12++t12
theorem r11(w:World)(os:OsState):R w os m11 (s10 w os).abs t11 ⟨39,0,40,48⟩:=piece_app (segRun_of (congrFun (e11 w) os)) (r12 w os)
noncomputable abbrev m10:Nat:=397+m11
noncomputable abbrev t10:List Stmt:=sl 9 9++t11
theorem r10(w:World)(os:OsState):R w os m10 (s9 w os).abs t10 ⟨16,0,17,8⟩:=piece_app (segRun_of (congrFun (e10 w) os)) (r11 w os)
noncomputable abbrev m9:Nat:=214+m10
noncomputable abbrev t9:List Stmt:=sl 8 1++t10
theorem r9(w:World)(os:OsState):R w os m9 (s8 w os).abs t9 ⟨14,0,15,8⟩:=piece_app (segRun_of (congrFun (e9 w) os)) (r10 w os)
noncomputable abbrev m8:Nat:=214+m9
noncomputable abbrev t8:List Stmt:=sl 7 1++t9
theorem r8(w:World)(os:OsState):R w os m8 (s7 w os).abs t8 ⟨12,0,13,8⟩:=piece_app (segRun_of (congrFun (e8 w) os)) (r9 w os)
noncomputable abbrev m7:Nat:=214+m8
noncomputable abbrev t7:List Stmt:=sl 6 1++t8
theorem r7(w:World)(os:OsState):R w os m7 (s6 w os).abs t7 ⟨10,0,11,8⟩:=piece_app (segRun_of (congrFun (e7 w) os)) (r8 w os)
noncomputable abbrev m6:Nat:=214+m7
noncomputable abbrev t6:List Stmt:=sl 5 1++t7
theorem r6(w:World)(os:OsState):R w os m6 (s5 w os).abs t6 ⟨8,0,9,8⟩:=piece_app (segRun_of (congrFun (e6 w) os)) (r7 w os)
noncomputable abbrev m5:Nat:=214+m6
noncomputable abbrev t5:List Stmt:=sl 4 1++t6
theorem r5(w:World)(os:OsState):R w os m5 (s4 w os).abs t5 ⟨6,0,7,8⟩:=piece_app (segRun_of (congrFun (e5 w) os)) (r6 w os)
noncomputable abbrev m4:Nat:=214+m5
noncomputable abbrev t4:List Stmt:=sl 3 1++t5
theorem r4(w:World)(os:OsState):R w os m4 (s3 w os).abs t4 ⟨4,0,5,8⟩:=piece_app (segRun_of (congrFun (e4 w) os)) (r5 w os)
noncomputable abbrev m3:Nat:=214+m4
noncomputable abbrev t3:List Stmt:=sl 2 1++t4
theorem r3(w:World)(os:OsState):R w os m3 (s2 w os).abs t3 ⟨2,0,3,8⟩:=piece_app (segRun_of (congrFun (e3 w) os)) (r4 w os)
noncomputable abbrev m2:Nat:=196+m3
noncomputable abbrev t2:List Stmt:=sl 0 2++t3
theorem r2(w:World)(os:OsState):R w os m2 (s1 w os).abs t2 ⟨0,0,0,0⟩:=piece_app (segRun_of (congrFun (e2 w) os)) (r3 w os)
theorem tb:bd=t2:=by kernel_rfl
theorem run(w:World)(os:OsState):topRun treeTable pg w 11 (some (.ref 6)) (12+(1+m2)) (sz w os) (topStub pg)=some (s14 w os):=by
 have r:=r2 w os
 unfold R at r
 rw[<-congrArg (fun x=>restOf x env cE ⟨0,0,0,0⟩ B) tb]at r
 exact go_top (congrFun (e0 w) os) (piece_block (congrFun (e1 w) os) r)
theorem op:∀w:World,(fencedOpening treeTable pg w 6356).map (fun s=>(s.heap,s.gens,s.drawn,s.toks))=some (boot_heap w.params,Array.mk [],boot_drawn,boot_toks):=
 boot_open (by kernel_rfl) (by decide) (fun s=>by kernel_rfl)
theorem size:∀w:World,((boot_heap w.params).isNs mainGlobals&&(Array.mk []:Array GenState).size==0,(boot_heap w.params).objs.size,(boot_heap w.params).nsMap mainGlobals "__annotations__")=(true,11,(some (.ref 6))):=by
 rw[W.Fast.te8920871248978507458];intro w;kernel_rfl
noncomputable def K(P:Params):Frag:=(nat_lit 3,ns P (en P "__name__" 165 (.str "law_duskbook_k39_watches_refused" 540)) 46 47)::(nat_lit 23,⟨(.type "dict"),none,(.dict #[en P "__module__" 196 (.str "duskbook.errors" 187),en P "__firstlineno__" 200 (.int (2) 199),en P "__static_attributes__" 201 (.ref 22),en P "__weakref__" 203 (.ref 25),en P "__doc__" 204 .none] 3),#[]⟩)::(nat_lit 24,⟨(.type "type"),none,(.cls ⟨"DuskError",[(.type "ValueError")],[(.ref 24),(.type "ValueError"),(.type "Exception"),(.type "BaseException"),(.type "object")],23,"DuskError",true,[],[(.ref 37),(.ref 49),(.ref 61),(.ref 73),(.ref 85),(.ref 97),(.ref 109),(.ref 121)],false,none,false⟩),#[(some (.ref 15)),none,(some (.str "DuskError" 189)),(some (.str "DuskError" 197)),(some (.builtin "ValueError.__new__")),(some (.bool true))]⟩)::(nat_lit 36,⟨(.type "dict"),none,(.dict #[en P "__module__" 214 (.str "duskbook.errors" 187),en P "__firstlineno__" 218 (.int (4) 217),en P "__static_attributes__" 219 (.ref 35),en P "__doc__" 220 .none] 2),#[]⟩)::(nat_lit 37,⟨(.type "type"),none,(.cls ⟨"NoBook",[(.ref 24)],[(.ref 37),(.ref 24),(.type "ValueError"),(.type "Exception"),(.type "BaseException"),(.type "object")],36,"NoBook",true,[],[],false,none,false⟩),#[(some (.ref 28)),none,(some (.str "NoBook" 207)),(some (.str "NoBook" 215)),(some (.builtin "ValueError.__new__")),(some (.bool true))]⟩)::(nat_lit 48,⟨(.type "dict"),none,(.dict #[en P "__module__" 230 (.str "duskbook.errors" 187),en P "__firstlineno__" 234 (.int (6) 233),en P "__static_attributes__" 235 (.ref 47),en P "__doc__" 236 .none] 2),#[]⟩)::(nat_lit 49,⟨(.type "type"),none,(.cls ⟨"NoHands",[(.ref 24)],[(.ref 49),(.ref 24),(.type "ValueError"),(.type "Exception"),(.type "BaseException"),(.type "object")],48,"NoHands",true,[],[],false,none,false⟩),#[(some (.ref 40)),none,(some (.str "NoHands" 223)),(some (.str "NoHands" 231)),(some (.builtin "ValueError.__new__")),(some (.bool true))]⟩)::(nat_lit 60,⟨(.type "dict"),none,(.dict #[en P "__module__" 246 (.str "duskbook.errors" 187),en P "__firstlineno__" 250 (.int (8) 249),en P "__static_attributes__" 251 (.ref 59),en P "__doc__" 252 .none] 2),#[]⟩)::(nat_lit 61,⟨(.type "type"),none,(.cls ⟨"Over",[(.ref 24)],[(.ref 61),(.ref 24),(.type "ValueError"),(.type "Exception"),(.type "BaseException"),(.type "object")],60,"Over",true,[],[],false,none,false⟩),#[(some (.ref 52)),none,(some (.str "Over" 239)),(some (.str "Over" 247)),(some (.builtin "ValueError.__new__")),(some (.bool true))]⟩)::(nat_lit 72,⟨(.type "dict"),none,(.dict #[en P "__module__" 262 (.str "duskbook.errors" 187),en P "__firstlineno__" 266 (.int (10) 265),en P "__static_attributes__" 267 (.ref 71),en P "__doc__" 268 .none] 2),#[]⟩)::(nat_lit 73,⟨(.type "type"),none,(.cls ⟨"NoLight",[(.ref 24)],[(.ref 73),(.ref 24),(.type "ValueError"),(.type "Exception"),(.type "BaseException"),(.type "object")],72,"NoLight",true,[],[],false,none,false⟩),#[(some (.ref 64)),none,(some (.str "NoLight" 255)),(some (.str "NoLight" 263)),(some (.builtin "ValueError.__new__")),(some (.bool true))]⟩)::(nat_lit 84,⟨(.type "dict"),none,(.dict #[en P "__module__" 278 (.str "duskbook.errors" 187),en P "__firstlineno__" 282 (.int (12) 281),en P "__static_attributes__" 283 (.ref 83),en P "__doc__" 284 .none] 2),#[]⟩)::(nat_lit 85,⟨(.type "type"),none,(.cls ⟨"NoneSettled",[(.ref 24)],[(.ref 85),(.ref 24),(.type "ValueError"),(.type "Exception"),(.type "BaseException"),(.type "object")],84,"NoneSettled",true,[],[],false,none,false⟩),#[(some (.ref 76)),none,(some (.str "NoneSettled" 271)),(some (.str "NoneSettled" 279)),(some (.builtin "ValueError.__new__")),(some (.bool true))]⟩)::(nat_lit 96,⟨(.type "dict"),none,(.dict #[en P "__module__" 294 (.str "duskbook.errors" 187),en P "__firstlineno__" 298 (.int (14) 297),en P "__static_attributes__" 299 (.ref 95),en P "__doc__" 300 .none] 2),#[]⟩)::(nat_lit 97,⟨(.type "type"),none,(.cls ⟨"NoTable",[(.ref 24)],[(.ref 97),(.ref 24),(.type "ValueError"),(.type "Exception"),(.type "BaseException"),(.type "object")],96,"NoTable",true,[],[],false,none,false⟩),#[(some (.ref 88)),none,(some (.str "NoTable" 287)),(some (.str "NoTable" 295)),(some (.builtin "ValueError.__new__")),(some (.bool true))]⟩)::(nat_lit 108,⟨(.type "dict"),none,(.dict #[en P "__module__" 310 (.str "duskbook.errors" 187),en P "__firstlineno__" 314 (.int (16) 313),en P "__static_attributes__" 315 (.ref 107),en P "__doc__" 316 .none] 2),#[]⟩)::(nat_lit 109,⟨(.type "type"),none,(.cls ⟨"NoPage",[(.ref 24)],[(.ref 109),(.ref 24),(.type "ValueError"),(.type "Exception"),(.type "BaseException"),(.type "object")],108,"NoPage",true,[],[],false,none,false⟩),#[(some (.ref 100)),none,(some (.str "NoPage" 303)),(some (.str "NoPage" 311)),(some (.builtin "ValueError.__new__")),(some (.bool true))]⟩)::(nat_lit 120,⟨(.type "dict"),none,(.dict #[en P "__module__" 326 (.str "duskbook.errors" 187),en P "__firstlineno__" 330 (.int (18) 329),en P "__static_attributes__" 331 (.ref 119),en P "__doc__" 332 .none] 2),#[]⟩)::(nat_lit 121,⟨(.type "type"),none,(.cls ⟨"NoPaper",[(.ref 24)],[(.ref 121),(.ref 24),(.type "ValueError"),(.type "Exception"),(.type "BaseException"),(.type "object")],120,"NoPaper",true,[],[],false,none,false⟩),#[(some (.ref 112)),none,(some (.str "NoPaper" 319)),(some (.str "NoPaper" 327)),(some (.builtin "ValueError.__new__")),(some (.bool true))]⟩)::(nat_lit 127,oC "either_holds" 339 22 2 124 .none .none 126 181 342)::(nat_lit 128,oF "either_holds" 12 p0 127)::(nat_lit 132,oC "sum_holds" 345 24 2 129 .none .none 131 181 348)::(nat_lit 133,oF "sum_holds" 13 p0 132)::(nat_lit 137,oC "if_holds" 351 27 3 134 .none .none 136 181 354)::(nat_lit 138,oF "if_holds" 14 p0 137)::(nat_lit 144,oC "rule_holds" 357 31 3 139 (.ref 141) (.ref 142) 143 181 363)::(nat_lit 145,oF "rule_holds" 15 p0 144)::(nat_lit 149,oC "broken_rules" 366 37 2 146 .none .none 148 181 369)::(nat_lit 150,oF "broken_rules" 16 p0 149)::(nat_lit 156,oC "holds" 372 39 2 151 (.ref 153) (.ref 154) 155 181 377)::(nat_lit 157,oF "holds" 17 p0 156)::(nat_lit 161,oC "beacons_in" 380 41 2 158 .none .none 160 181 383)::(nat_lit 162,oF "beacons_in" 18 p0 161)::(nat_lit 168,oC "beacons_of" 386 47 1 163 (.ref 165) (.ref 166) 167 181 392)::(nat_lit 169,oF "beacons_of" 19 p0 168)::(nat_lit 206,tu [(.str "keeper" 444),(.str "storm" 445)])::(nat_lit 212,oC "is_hand" 449 84 1 207 (.ref 209) (.ref 210) 211 181 453)::(nat_lit 213,oF "is_hand" 28 p1 212)::(nat_lit 217,oC "check_hands" 456 86 2 214 .none .none 216 181 459)::(nat_lit 218,oF "check_hands" 29 p1 217)::(nat_lit 231,⟨(.type "code"),none,(.fields #[(.str "__init__" 474),(.str "Watch.__init__" 475),(.str "/claim/cut.py" 476),(.int (95) 0),(.int (3) 0),(.int (0) 0),(.int (0) 0),(.int (3) 0),(.ref 226),(.bool true),(.int (181) 0),(.ref 227),.none,(.ref 228),(.ref 229),(.ref 230),(.int (480) 0),(.int (95) 0),(.str "/claim/cut.py" 481)]),#[]⟩)::(nat_lit 232,oM "__init__" "Watch.__init__" 30 0 p1 231)::(nat_lit 238,⟨(.type "code"),none,(.fields #[(.str "turn" 483),(.str "Watch.turn" 484),(.str "/claim/cut.py" 485),(.int (101) 0),(.int (1) 0),(.int (0) 0),(.int (0) 0),(.int (3) 0),(.ref 233),(.bool true),(.int (181) 0),(.ref 234),.none,(.ref 235),(.ref 236),(.ref 237),(.int (487) 0),(.int (101) 0),(.str "/claim/cut.py" 488)]),#[]⟩)::(nat_lit 239,oM "turn" "Watch.turn" 30 1 p1 238)::(nat_lit 245,⟨(.type "code"),none,(.fields #[(.str "evening" 490),(.str "Watch.evening" 491),(.str "/claim/cut.py" 492),(.int (106) 0),(.int (1) 0),(.int (0) 0),(.int (0) 0),(.int (3) 0),(.ref 240),(.bool true),(.int (181) 0),(.ref 241),.none,(.ref 242),(.ref 243),(.ref 244),(.int (494) 0),(.int (106) 0),(.str "/claim/cut.py" 495)]),#[]⟩)::(nat_lit 246,oM "evening" "Watch.evening" 30 2 p1 245)::(nat_lit 252,⟨(.type "code"),none,(.fields #[(.str "left" 497),(.str "Watch.left" 498),(.str "/claim/cut.py" 499),(.int (109) 0),(.int (1) 0),(.int (0) 0),(.int (0) 0),(.int (3) 0),(.ref 247),(.bool true),(.int (181) 0),(.ref 248),.none,(.ref 249),(.ref 250),(.ref 251),(.int (504) 0),(.int (109) 0),(.str "/claim/cut.py" 505)]),#[]⟩)::(nat_lit 253,oM "left" "Watch.left" 30 3 p1 252)::(nat_lit 259,⟨(.type "code"),none,(.fields #[(.str "winner" 507),(.str "Watch.winner" 508),(.str "/claim/cut.py" 509),(.int (115) 0),(.int (1) 0),(.int (0) 0),(.int (0) 0),(.int (3) 0),(.ref 254),(.bool true),(.int (181) 0),(.ref 255),.none,(.ref 256),(.ref 257),(.ref 258),(.int (511) 0),(.int (115) 0),(.str "/claim/cut.py" 512)]),#[]⟩)::(nat_lit 260,oM "winner" "Watch.winner" 30 4 p1 259)::(nat_lit 266,⟨(.type "code"),none,(.fields #[(.str "settle" 514),(.str "Watch.settle" 515),(.str "/claim/cut.py" 516),(.int (120) 0),(.int (2) 0),(.int (0) 0),(.int (0) 0),(.int (3) 0),(.ref 261),(.bool true),(.int (181) 0),(.ref 262),.none,(.ref 263),(.ref 264),(.ref 265),(.int (519) 0),(.int (120) 0),(.str "/claim/cut.py" 520)]),#[]⟩)::(nat_lit 267,oM "settle" "Watch.settle" 30 5 p1 266)::(nat_lit 273,⟨(.type "code"),none,(.fields #[(.str "back" 522),(.str "Watch.back" 523),(.str "/claim/cut.py" 524),(.int (128) 0),(.int (1) 0),(.int (0) 0),(.int (0) 0),(.int (3) 0),(.ref 268),(.bool true),(.int (181) 0),(.ref 269),.none,(.ref 270),(.ref 271),(.ref 272),(.int (526) 0),(.int (128) 0),(.str "/claim/cut.py" 527)]),#[]⟩)::(nat_lit 274,oM "back" "Watch.back" 30 6 p1 273)::(nat_lit 276,⟨(.type "dict"),none,(.dict #[en P "__module__" 469 (.str "duskbook.watches" 447),en P "__firstlineno__" 473 (.int (93) 472),en P "__init__" 482 (.ref 232),en P "turn" 489 (.ref 239),en P "evening" 496 (.ref 246),en P "left" 506 (.ref 253),en P "winner" 513 (.ref 260),en P "settle" 521 (.ref 267),en P "back" 528 (.ref 274),en P "__static_attributes__" 532 (.ref 275),en P "__dict__" 534 (.ref 278),en P "__weakref__" 536 (.ref 279),en P "__doc__" 537 .none] 4),#[]⟩)::(nat_lit 277,⟨(.type "type"),none,(.cls ⟨"Watch",[(.type "object")],[(.ref 277),(.type "object")],276,"Watch",true,[],[],false,none,false⟩),#[none,none,(some (.str "Watch" 462)),(some (.str "Watch" 470)),(some (.builtin "object.__new__")),(some (.bool true))]⟩)::(nat_lit 287,oC "_law_cell" 542 133 2 282 (.ref 284) (.ref 285) 286 181 547)::(nat_lit 288,oF "_law_cell" 32 p2 287)::(nat_lit 294,oC "_law_mixed" 550 137 2 289 (.ref 291) (.ref 292) 293 181 555)::(nat_lit 295,oF "_law_mixed" 33 p2 294)::(nat_lit 301,oC "_law_kind" 558 139 1 296 (.ref 298) (.ref 299) 300 181 562)::(nat_lit 302,oF "_law_kind" 34 p2 301)::(nat_lit 308,oC "_law_rule" 565 141 3 303 (.ref 305) (.ref 306) 307 181 576)::(nat_lit 309,oF "_law_rule" 35 p2 308)::(nat_lit 315,oC "_law_bits" 579 160 2 310 (.ref 312) (.ref 313) 314 181 587)::(nat_lit 316,oF "_law_bits" 36 p2 315)::(nat_lit 320,oC "_law_beacons" 590 167 2 317 .none .none 319 181 593)::(nat_lit 321,oF "_law_beacons" 37 p2 320)::(nat_lit 327,oC "_law_kinds" 596 173 4 322 (.ref 324) (.ref 325) 326 181 607)::(nat_lit 328,oF "_law_kinds" 38 p2 327)::(nat_lit 332,oC "_law_bad_hands" 610 187 3 329 .none .none 331 181 613)::(nat_lit 333,oF "_law_bad_hands" 39 p2 332)::(nat_lit 339,oC "_law_no_light" 616 193 1 334 (.ref 336) (.ref 337) 338 181 620)::(nat_lit 340,oF "_law_no_light" 40 p2 339)::(nat_lit 344,oC "law" 623 195 1 341 .none .none 343 181 626)::(nat_lit 345,oF "law" 41 p2 344)::[]
noncomputable def hk:Hook:=kHook K (3::23::24::36::37::48::49::60::61::72::73::84::85::96::97::108::109::120::121::127::128::132::133::137::138::144::145::149::150::156::157::161::162::168::169::206::212::213::217::218::231::232::238::239::245::246::252::253::259::260::266::267::273::274::276::277::287::288::294::295::301::302::308::309::315::316::320::321::327::328::332::333::339::340::344::345::[]) (fun _=>by kernel_rfl)
noncomputable def Q:Program:={ pg with main:={ pg.main with body:=[Lw.top 41] } }
noncomputable def ls:List Str:=(["DuskError","NoBook","NoHands","Over","NoLight","NoneSettled","NoTable","NoPage","NoPaper","BEACON_COUNT","either_holds","sum_holds","if_holds","rule_holds","broken_rules","holds","beacons_in","beacons_of","without","either_left","sum_left","if_left","rule_left","left_behind","HANDS","is_hand","check_hands","Watch","_law_cell","_law_mixed","_law_kind","_law_rule","_law_bits","_law_beacons","_law_kinds","_law_bad_hands","_law_no_light"]).map Str.ofString
noncomputable abbrev Xt(s:Shared):Bool:=xlAt Q [] s&&recOk (RowW.records (OpenRow.toRowW PySem.Challenge.rw_duskbook_k39_watches_refused.row)) s
theorem y0o:∀w:World,(fun os=>((staticsOk (importedModules pg.main.body) (boot_heap w.params) (h14 w.params)&&namesBound pg (h14 w.params)&&gensDone (s14 w os)&&laidKept (boot_heap w.params) (h14 w.params)),openSeen Q ls (importedModules pg.main.body) Xt true (s14 w os),Hook.obs hk (s14 w os)))=fun _=>(true,openGood Q ls,Hook.val hk w):=by
 rw[W.Fast.te5923862056798008813,W.Fast.te4187177175401517315];intro w;kernel_rfl
theorem left:LeftO pg Q ls Xt (Hook.obs hk) (Hook.val hk) 6356:=LeftO.of_pieces (H₁:=h14) (M:=12+(1+m2)) op size run (by decide) y0o
end Op
open PySem PySem.W PyProof.Rows
set_option maxRecDepth 100000 in
theorem PySem.Challenge.cw_duskbook_k39_watches_refused_holds : PySem.Challenge.rw_duskbook_k39_watches_refused.Holds := by
 w_on;o_law
 refine holds_open (q:=Op.Q) (loose:=Op.ls) (Xt:=Op.Xt) (XP:=XL Op.Q []) (Yf:=Hook.obs Op.hk) (Ya:=Hook.val Op.hk) (YP:=InK Op.K) (N:=6356) Op.left (Hook.of Op.hk) (Hook.keeps Op.hk) (fun s e=>xl_of s (Bool.and_eq_true_iff.mp e).1) XL.keeps (by rfl) (by rfl) (by rfl) (fun s e=>recFacts_of (Bool.and_eq_true_iff.mp e).2) (by rfl) (by assumption) (by decide +kernel) ⟨rfl,rfl,rfl,rfl,rfl,by decide +kernel⟩ ?hw ?hc
 (case hw=>w_witness2)
 k_fill
 refine Lw.walk Lw.law_true (l:=PySem.Challenge.rw_duskbook_k39_watches_refused) rfl rfl (K:=Op.K) (fun w h Y=>Y) ?F
 case F=>
  intro w mg fa h KX G hmg
  refine' Lw.all_mk KX G hmg ?_ ?_ ?_ ?_ ?_ ?_ ?_ ?_ ?_ ?_ ?_ ?_ ?_ ?_ ?_ ?_ ?_ ?_ ?_ ?_ ?_ ?_ ?_ ?_ ?_ ?_ ?_ ?_ ?_ ?_ ?_ ?_ ?_ ?_ ?_ ?_ ?_ ?_ ?_ ?_ ?_ ?_ ?_ ?_ ?_ ?_ ?_ ?_ ?_ ?_ ?_ ?_ ?_ ?_ ?_ ?_ ?_ ?_ ?_ ?_ ?_ ?_ ?_ ?_ ?_ ?_ ?_ ?_ ?_ ?_ ?_ ?_ ?_ ?_ ?_ ?_ ?_ ?_ ?_ ?_ ?_ ?_ ?_ ?_ ?_
  all_goals (try (first | (refine' M.xk_mk ?a ?b ?c ?d ?e ?f;(case a=>k_is);(case b=>k_is);(case c=>kernel_rfl);(case d=>kernel_rfl);(case e=>kernel_rfl);(case f=>kernel_rfl)) | (refine' M.mq_mk ?a ?pg ?hd ?po ?sa ?i ?n ?l ?cd ?k;(case a=>k_is);(case pg=>k_is);(case hd=>k_is);(case po=>k_is);(case sa=>k_is);(case i=>k_is);(case n=>k_is);(case l=>k_is);(case cd=>k_is);(case k=>k_is)) | (refine' M.nq_mk ?a ?pg ?hd ?po ?sa ?n;(case a=>k_is);(case pg=>k_is);(case hd=>k_is);(case po=>k_is);(case sa=>k_is);(case n=>k_is)) | (refine' M.iq_mk ?a ?mk ?kc ?i ?n ?l ?cd ?k;(case a=>k_is);(case mk=>k_is);(case kc=>k_is);(case i=>k_is);(case n=>k_is);(case l=>k_is);(case cd=>k_is);(case k=>k_is)) | k_is | (refine' Lw.fk_mk ?a ?l ?c ?k;(case a=>k_is);(case l=>k_is);(case c=>k_is);(case k=>k_is))))
